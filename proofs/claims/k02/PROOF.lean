import PyProof.Rows.All
import Wide.All
import OpenK.AllK
import Wide.FinOn
import PyProof.EqAt
import PyProof.EqKinds
import PyProof.TupleCall
import HandS.ForMost
import HandS.IsInst
import HandS.Wide
import HandS.TupLe
import HandS.Style
import HandS.TupAny
import HandS.Walk
import HandS.ForExc
import HandS.ExcInit
import HandS.ExcField
import HandS.ExcIs
import HandS.TryMany
import PyProof.ReprRoads
import HandS.Codes
import HandS.ReplaceList
import HandS.StrSplit
import HandS.ReplaceDef
import HandS.ReplaceLit
import HandS.FStr
import HandS.StrMore
import HandS.Lambda
import HandS.TryOnly
import KE.DataEq
import PySem.Challenge.RW_tombkeeper_k02_entries_as_text
set_option Elab.async false
set_option linter.all false
set_option maxRecDepth 100000
set_option maxHeartbeats 4000000
namespace Tk
open PySem PySem.Spec PyProof.Rows L2

/-! ### a def that callers may use: its place, its promise -/
structure Cal (P : Program) (w : World) (K : PySem.W.Frag) (mg : Str → Option Value) (base : Heap) (CX : CXT) (k : Nat) (x : Str) (ps : List Str) (sp : Sp) : Prop where
  ex : ∃ (f : Addr) (fd : FuncData), mg x = some (.ref f) ∧ PySem.W.keepIn K (.ref f) = true ∧ Binds K fd ps [] ∧ FnOk P w K mg base CX k f fd ps sp
theorem Cal.mono {P : Program} {w : World} {K : PySem.W.Frag} {mg : Str → Option Value} {base : Heap} {CX : CXT} {j k : Nat} {x : Str} {ps : List Str} {sp : Sp} (C : Cal P w K mg base CX j x ps sp) (h : j ≤ k) : Cal P w K mg base CX k x ps sp := by
  obtain ⟨f, fd, hm, hk, hb, F⟩ := C.ex
  exact ⟨f, fd, hm, hk, hb, F.mono h⟩
theorem Cal.of {P : Program} {w : World} {K : PySem.W.Frag} {mg : Str → Option Value} {base : Heap} {CX : CXT} {k : Nat} {x : Str} {ps : List Str} {sp : Sp} {f : Addr} {fd : FuncData} (hm : mg x = some (.ref f)) (hk : PySem.W.keepIn K (.ref f) = true) (hb : Binds K fd ps []) (F : FnOk P w K mg base CX k f fd ps sp) : Cal P w K mg base CX k x ps sp :=
  ⟨f, fd, hm, hk, hb, F⟩
section
variable {X : Cx} {k : Nat} {ps : List Str} {sp : Sp} {CX : CXT} {x : Str} {p pos : Pos} {e : Expr} {es : List Expr} {t : TA} {E : XK}
theorem pe_cal (C : Cal X.prog X.w X.K X.mg X.base CX k x ps sp) (hr : Room k X.A) (hx : Passes CX X E) (ha : PA X (e :: es) t) (hg : Gl X x := by rfl)
    (hdb : (x == ("__debug__" : Str)) = false := by decide) (he : starEach (e :: es) X.env = (false, eval e X.env) :: starEach es X.env := by rfl) (hpl : (backTo pos (starEach es X.env)).any (·.1) = false := by rfl) :
    PE X (.Call (.Name x p) (e :: es) [] pos) (tCall sp [] E t) := by
  obtain ⟨f, fd, hm, hk, hb, F⟩ := C.ex
  exact pe_call F hr hg hm hk hb .nil hx ha hdb he hpl
theorem pe_cal0 (C : Cal X.prog X.w X.K X.mg X.base CX k x ps sp) (hr : Room k X.A) (hx : Passes CX X E) (hg : Gl X x := by rfl)
    (hdb : (x == ("__debug__" : Str)) = false := by decide) :
    PE X (.Call (.Name x p) [] [] pos) (tCall sp [] E tNil) := by
  obtain ⟨f, fd, hm, hk, hb, F⟩ := C.ex
  exact pe_call0 F hr hg hm hk hb .nil hx hdb
end

def AllocL (xs : List V) (H : Hp) (Q : VK) : Prop := xs.length ≤ sizeLine ∧ ∀ p, H p = none → Q (.ref p) (upd H p (.lst xs))
def AllocT (xs : List V) (H : Hp) (Q : VK) : Prop := xs.length ≤ sizeLine ∧ ∀ p, H p = none → Q (.ref p) (upd H p (.tup xs))
/-! ### readings, a construct at a time -/
section
variable {σ : L2.St} {H : Hp} {Q : VK} {D : Ends} {v : V} {i : Nat} {ta tb tc te : TE} {t u : TS} {r : R2} {K : PySem.W.Frag}
theorem r_var (h : σ[i]? = some (some v)) (q : Q v H) : tVar i σ H Q := ⟨v, h, q⟩
theorem r_c (q : Q v H) : tC v σ H Q := q
theorem r_op (h : ta σ H fun x H1 => tb σ H1 fun y H2 => r x y H2 Q) : tOp r ta tb σ H Q := h
theorem r_seq (h : t { D with nx := u D } σ H) : tSeq t u D σ H := h
theorem r_ret (h : te σ H D.rt) : tRet te D σ H := h
theorem r_retN (h : D.rt .non H) : tRetN D σ H := h
theorem r_set (h : te σ H fun x H1 => D.nx (σ.set i (some x)) H1) : tAsg te (gName i) D σ H := h
theorem r_drop (h : te σ H fun _ H1 => D.nx σ H1) : tDrop te D σ H := h
theorem r_next (h : D.nx σ H) : tNext D σ H := h
theorem r_ifS {c : TT} (h : c σ H fun b H1 => if b = true then t D σ H1 else u D σ H1) : tIfS c t u D σ H := h
theorem r_cons {tr : TA} {R : List V → Hp → Prop} (h : ta σ H fun x H1 => tr σ H1 fun xs H2 => R (x :: xs) H2) : tCons ta tr σ H R := h
theorem r_nil {R : List V → Hp → Prop} (h : R [] H) : tNil σ H R := h
theorem r_call {sp : Sp} {E : XK} {a : TA} (h : a σ H fun vs H1 => sp (vs ++ []) H1 Q E) : tCall sp [] E a σ H Q := h
theorem r_cb {f : List V → Hp → VK → Prop} {a : TA} (h : a σ H fun vs H1 => f vs H1 Q) : tCB f a σ H Q := h
theorem r_test {R : Bool → Hp → Prop} (h : te σ H fun x H1 => ∃ k, x = .bl k ∧ R k H1) : tTest te σ H R := h
theorem r_B {R : Bool → Hp → Prop} (h : te σ H fun x H1 => ∃ k, x = .bl k ∧ R k H1) : tB te σ H R := h
theorem r_not {c : TT} {R : Bool → Hp → Prop} (h : c σ H fun b H1 => R (!b) H1) : tNot c σ H R := h
theorem r_and {a b : TT} {R : Bool → Hp → Prop} (h : a σ H fun c H1 => if c = true then b σ H1 R else R false H1) : tAnd a b σ H R := h
theorem r_or {a b : TT} {R : Bool → Hp → Prop} (h : a σ H fun c H1 => if c = true then R true H1 else b σ H1 R) : tOr a b σ H R := h
theorem r_andV (h : ta σ H fun x H1 => ∃ c, x = .bl c ∧ if c = true then tb σ H1 Q else Q (.bl false) H1) : tAndV ta tb σ H Q := h
theorem r_orV (h : ta σ H fun x H1 => ∃ c, x = .bl c ∧ if c = true then Q (.bl true) H1 else tb σ H1 Q) : tOrV ta tb σ H Q := h
theorem r_notV (h : ta σ H fun x H1 => ∃ c, x = .bl c ∧ Q (.bl (!c)) H1) : tNotV ta σ H Q := h
theorem r_if {c : TT} (h : c σ H fun b H1 => if b = true then ta σ H1 Q else tb σ H1 Q) : tIf c ta tb σ H Q := h
theorem r_chain {r' : R2} (h : ta σ H fun x H1 => tb σ H1 fun y H2 => r x y H2 fun z H3 => ∃ k, z = .bl k ∧
    (if k = true then tc σ H3 fun w' H4 => r' y w' H4 Q else Q (.bl false) H3)) : tChain r r' ta tb tc σ H Q := h
/-- a made list, a made tuple: the heap behind is a letter -/
theorem r_lst {a : TA} (h : a σ H fun xs H1 => AllocL xs H1 Q) : tLst a σ H Q := h
theorem r_tup {a : TA} (h : a σ H fun xs H1 => AllocT xs H1 Q) : tTup a σ H Q := h
/-- the bool that a test hands on -/
theorem r_k {b : Bool} {R : Bool → Prop} (h : R b) : ∃ k, V.bl b = V.bl k ∧ R k := ⟨b, rfl, h⟩
theorem r_k2 {b : Bool} {R : Bool → Hp → Prop} (h : R b H) : ∃ k, V.bl b = V.bl k ∧ R k H := ⟨b, rfl, h⟩
theorem r_I0 {g : Int → Int → V} {a b : Int} (h : Q (g a b) H) : rI0 g (.int a) (.int b) H Q := ⟨a, b, rfl, rfl, h⟩
theorem r_I {C : Int → Int → Prop} {g : Int → Int → V} {a b : Int} (c : C a b) (h : Q (g a b) H) : rI C g (.int a) (.int b) H Q := ⟨a, b, rfl, rfl, c, h⟩
end
theorem Same.new {H : Hp} {p : Addr} {o : HO} (h : H p = none) : Same H (upd H p o) := fun a u e => by
  rw [upd_ne (ne_of_none e h)]
  exact e
/-- an object that H does not know may change -/
theorem Same.mut {H H' : Hp} {p : Addr} {o : HO} (e : Same H H') (h : H p = none) : Same H (upd H' p o) := fun a u ha => by
  rw [upd_ne (ne_of_none ha h)]
  exact e a u ha

/-! ### data -/
/- what is read of a value: none, bools, ints, texts, tuples, lists, the empty dict (lists and dicts: as they stand now) -/
mutual
inductive Dd (K : PySem.W.Frag) (H : Hp) : V → PyData → Prop
  | non : Dd K H .non .none
  | bl (b : Bool) : Dd K H (.bl b) (.bool b)
  | int (i : Int) : Dd K H (.int i) (.int i)
  | str (x : Str) : Dd K H (.str x) (.str x)
  | lst {a : Addr} {xs : List V} {ds : List PyData} : H a = some (.lst xs) → DdAll K H xs ds → Dd K H (.ref a) (.list ds)
  | tup {a : Addr} {xs : List V} {ds : List PyData} : H a = some (.tup xs) → DdAll K H xs ds → Dd K H (.ref a) (.tuple ds)
  | dct {a : Addr} : H a = some (.dK []) → Dd K H (.ref a) (.dict [])
inductive DdAll (K : PySem.W.Frag) (H : Hp) : List V → List PyData → Prop
  | nil : DdAll K H [] []
  | cons {v : V} {vs : List V} {d : PyData} {ds : List PyData} : Dd K H v d → DdAll K H vs ds → DdAll K H (v :: vs) (d :: ds)
end
mutual
theorem Dd.same {K : PySem.W.Frag} {H H' : Hp} (s : Same H H') : ∀ (d : PyData) (v : V), Dd K H v d → Dd K H' v d
  | .none, _, h => by cases h; exact .non
  | .bool b, _, h => by cases h; exact .bl b
  | .int i, _, h => by cases h; exact .int i
  | .str x, _, h => by cases h; exact .str x
  | .list ds, _, h => by
    cases h with
    | lst e a => exact .lst (s _ _ e) (DdAll.same s ds _ a)
  | .tuple ds, _, h => by
    cases h with
    | tup e a => exact .tup (s _ _ e) (DdAll.same s ds _ a)
  | .dict _, _, h => by
    cases h with
    | dct e => exact .dct (s _ _ e)
theorem DdAll.same {K : PySem.W.Frag} {H H' : Hp} (s : Same H H') : ∀ (ds : List PyData) (vs : List V), DdAll K H vs ds → DdAll K H' vs ds
  | [], _, h => by cases h; exact .nil
  | d :: ds, _, h => by
    cases h with
    | cons h1 h2 => exact .cons (Dd.same s d _ h1) (DdAll.same s ds _ h2)
end
theorem Dd.same' {K : PySem.W.Frag} {H H' : Hp} {v : V} {d : PyData} (h : Dd K H v d) (s : Same H H') : Dd K H' v d := Dd.same s d v h
theorem DdAll.length {K : PySem.W.Frag} {H : Hp} : ∀ {vs : List V} {ds : List PyData}, DdAll K H vs ds → vs.length = ds.length
  | _, _, .nil => rfl
  | _, _, .cons _ t => by rw [List.length_cons, List.length_cons, DdAll.length t]
/-- the name of its type -/
def tyN : PyData → String
  | .none => "NoneType"
  | .bool _ => "bool"
  | .int _ => "int"
  | .str _ => "str"
  | .list _ => "list"
  | .tuple _ => "tuple"
  | .dict _ => "dict"
theorem Dd.ty {K : PySem.W.Frag} {H : Hp} {v : V} {d : PyData} (h : Dd K H v d) : TyX K H v (.type (tyN d)) := by
  cases h with
  | non => exact .base .non
  | bl b => exact .base (.bl b)
  | int i => exact .base (.int i)
  | str x => exact .base (.str x)
  | lst e a => exact .base (.lst e)
  | tup e a => exact .base (.tup e)
  | dct e => exact .base (.dK e)
/-- isinstance(x, T) of data -/
def isN (a T : String) : Bool := (kitB a T).getD false
def isOf (d : PyData) (T : String) : Bool := isN (tyN d) T
def TyNames : List String := ["str", "tuple", "int", "bool", "list", "dict"]
theorem kitB_all : ∀ a ∈ ["NoneType", "bool", "int", "str", "list", "tuple", "dict"], ∀ T ∈ TyNames, kitB a T = some (isN a T) := by decide +kernel
theorem isOf_kit {K : PySem.W.Frag} (d : PyData) {T : String} (hT : T ∈ TyNames) : PySem.W.kitOne K (.type (tyN d)) (.type T) = some (isOf d T) :=
  kit_ty (kitB_all (tyN d) (by cases d <;> simp [tyN]) T hT)
theorem isN_str : isN "NoneType" "str" = false ∧ isN "bool" "str" = false ∧ isN "int" "str" = false ∧ isN "str" "str" = true ∧ isN "list" "str" = false ∧ isN "tuple" "str" = false ∧ isN "dict" "str" = false := by decide +kernel
theorem isN_tuple : isN "NoneType" "tuple" = false ∧ isN "bool" "tuple" = false ∧ isN "int" "tuple" = false ∧ isN "str" "tuple" = false ∧ isN "list" "tuple" = false ∧ isN "tuple" "tuple" = true ∧ isN "dict" "tuple" = false := by decide +kernel
theorem isN_int : isN "NoneType" "int" = false ∧ isN "bool" "int" = true ∧ isN "int" "int" = true ∧ isN "str" "int" = false ∧ isN "list" "int" = false ∧ isN "tuple" "int" = false ∧ isN "dict" "int" = false := by decide +kernel
theorem isN_bool : isN "NoneType" "bool" = false ∧ isN "bool" "bool" = true ∧ isN "int" "bool" = false ∧ isN "str" "bool" = false ∧ isN "list" "bool" = false ∧ isN "tuple" "bool" = false ∧ isN "dict" "bool" = false := by decide +kernel
theorem r_isi {K : PySem.W.Frag} {H : Hp} {v : V} {d : PyData} {T : String} {Q : VK} (h : Dd K H v d) (hT : T ∈ TyNames) (q : Q (.bl (isOf d T)) H) : rIsi K [v, .ty T] H Q :=
  ⟨v, .ty T, _, _, _, rfl, .ty T, h.ty, isOf_kit d hT, q⟩
/-! ### repr of bools -/
section
variable {X : Cx}
def reprB (b : Bool) : Str := if b then "True" else "False"
theorem call_repr_bl : CallR X (.builtin "repr") (fun xs H Q => ∃ b, xs = [.bl b] ∧ Q (.str (reprB b)) H) := by
  intro pins s σ H xs us Q I r h
  obtain ⟨b, rfl, q⟩ := h
  obtain ⟨u, rfl, ru⟩ := vals1 r
  obtain rfl : u = Value.bool b := ru
  exact PySem.P.repr_of_bool ⟨.str (reprB b), H, I.tok _, ⟨_, rfl⟩, q⟩
end
theorem reprB_inj {a b : Bool} : decide (V.str (reprB a) = V.str (reprB b)) = (a == b) := by
  cases a <;> cases b <;> decide +kernel
end Tk

set_option Elab.async false
set_option linter.all false
set_option maxRecDepth 100000
set_option maxHeartbeats 4000000
namespace Tk
open PySem PySem.Spec PyProof.Rows L2
/-! ### one rule a sign; its reading says which -/
def rMulS : R2 := fun x y H Q => ∃ z n, x = .str z ∧ y = .int n ∧ MulOk z n ∧ Q (.str (Txt.mul z n)) H
def GAdd (K : PySem.W.Frag) : R2 := fun x y H Q => rI0 (fun i j => .int (i + j)) x y H Q ∨ ((∃ i j, x = .str i ∧ y = .str j ∧ i.length + j.length ≤ sizeLine ∧ Q (.str (i ++ j)) H) ∨ (rCat x y H Q ∨ rCatA K x y H Q))
def GMul : R2 := fun x y H Q => rI CMulW (fun i j => .int (i * j)) x y H Q ∨ (rMulS x y H Q ∨ rRep x y H Q)
/-- any list == [] -/
def rEqNil (K : PySem.W.Frag) : R2 := fun x y H Q => ∃ p q xs, x = .ref p ∧ y = .ref q ∧ SqL K H p xs ∧ SqL K H q [] ∧ Q (.bl xs.isEmpty) H
def GEq (K : PySem.W.Frag) : R2 := fun x y H Q => rEq x y H Q ∨ (rEqD K x y H Q ∨ rEqNil K x y H Q)
def GNe (K : PySem.W.Frag) : R2 := fun x y H Q => rNe x y H Q ∨ rNeD K x y H Q
def sLt : R2 := fun x y H Q => ∃ i j, x = .str i ∧ y = .str j ∧ Q (.bl (decide (i.cps.toList < j.cps.toList))) H
def sLe : R2 := fun x y H Q => ∃ i j, x = .str i ∧ y = .str j ∧ Q (.bl (!decide (j.cps.toList < i.cps.toList))) H
def sGt : R2 := fun x y H Q => ∃ i j, x = .str i ∧ y = .str j ∧ Q (.bl (decide (j.cps.toList < i.cps.toList))) H
def sGe : R2 := fun x y H Q => ∃ i j, x = .str i ∧ y = .str j ∧ Q (.bl (!decide (i.cps.toList < j.cps.toList))) H
def GLt : R2 := fun x y H Q => rI0 (fun i j => .bl (decide (i < j))) x y H Q ∨ sLt x y H Q
def GLe : R2 := fun x y H Q => rI0 (fun i j => .bl (decide (i ≤ j))) x y H Q ∨ sLe x y H Q
def GGt : R2 := fun x y H Q => rI0 (fun i j => .bl (decide (j < i))) x y H Q ∨ sGt x y H Q
def GGe : R2 := fun x y H Q => rI0 (fun i j => .bl (decide (j ≤ i))) x y H Q ∨ sGe x y H Q
def rLen (K : PySem.W.Frag) : List V → Hp → VK → Prop := fun xs H Q => ∃ x n, xs = [x] ∧ LenV K x H n ∧ Q (.int n) H
def rRepr : List V → Hp → VK → Prop := fun xs H Q => ∃ b, xs = [.bl b] ∧ Q (.str (reprB b)) H
def rMax2 : List V → Hp → VK → Prop := fun xs H Q => ∃ i j, xs = [.int i, .int j] ∧ Q (.int (if j > i then j else i)) H
def rMin2 : List V → Hp → VK → Prop := fun xs H Q => ∃ i j, xs = [.int i, .int j] ∧ Q (.int (if j < i then j else i)) H
def rListOf (K : PySem.W.Frag) : List V → Hp → VK → Prop := fun xs H Q => ∃ p ys, xs = [.ref p] ∧ (SqL K H p ys ∨ SqT K H p ys) ∧ ∀ l, H l = none → Q (.ref l) (upd H l (.lst ys))
def rIsN : R2 := fun x y H Q => y = .non ∧ Q (.bl (decide (x = .non))) H
section
variable {X : Cx}
theorem c_len : CallR X (.builtin "len") (rLen X.K) := call_len
theorem c_repr : CallR X (.builtin "repr") rRepr := call_repr_bl
theorem c_max2 (hc : X.calm = true) : CallR X (.builtin "max") rMax2 := call_max2 hc
theorem c_min2 (hc : X.calm = true) : CallR X (.builtin "min") rMin2 := call_min2 hc
theorem c_listOf : CallR X (.type "list") (rListOf X.K) := call_list_of
theorem o_isN : OpR X (compareOp .Is) rIsN := op_isN
theorem op_mul_strI : OpR X (binaryOp .Mult) rMulS := by
  intro pins s σ H x y v u Q I rx ry h
  obtain ⟨z, n, rfl, rfl, hok, q⟩ := h
  obtain ⟨t, rfl⟩ := rx
  obtain ⟨t', rfl⟩ := ry
  exact SB.mul hok fun t2 k => ⟨.str _, H, I.tok _, ⟨_, rfl⟩, q⟩
theorem op_eqNil (hu : X.A.units < cLine) : OpR X (compareOp .Eq) (rEqNil X.K) := by
  intro pins s σ H x y v u Q I rx ry h
  obtain ⟨p, q, xs, rfl, rfl, hp, hq, k⟩ := h
  obtain rfl : v = Value.ref p := rx
  obtain rfl : u = Value.ref q := ry
  obtain ⟨its, r1, l1, _⟩ := I.list hp
  obtain ⟨jts, r2, l2, _⟩ := I.list hq
  cases r2
  cases r1 with
  | nil => exact SeqAt.eq_listAt (e := fun _ => true) l1.isList l2.isList rfl hu (fun j h1 => absurd h1 (Nat.not_lt_zero j)) ⟨.bl true, H, I, rfl, k⟩
  | cons r t => exact SeqAt.eq_list_lengthsAt l1.isList l2.isList (by simp) hu ⟨.bl false, H, I, rfl, k⟩
theorem o_add : OpR X (binaryOp .Add) (GAdd X.K) := OpR.or op_add (OpR.or op_add_str (OpR.or op_cat op_catA))
theorem o_mul : OpR X (binaryOp .Mult) GMul := OpR.or op_mulW (OpR.or op_mul_strI op_rep)
theorem o_fdiv : OpR X (binaryOp .FloorDiv) (rI CDivW fun i j => .int (i / j)) := op_fdivW
theorem o_eq (hu : X.A.units + 64 < cLine) : OpR X (compareOp .Eq) (GEq X.K) := OpR.or op_eq (OpR.or (op_eqD hu) (op_eqNil (Nat.lt_of_le_of_lt (Nat.le_add_right _ _) hu)))
theorem o_ne (hu : X.A.units + 64 < cLine) : OpR X (compareOp .NotEq) (GNe X.K) := OpR.or op_ne (op_neD hu)
theorem o_lt : OpR X (compareOp .Lt) GLt := OpR.or op_lt op_lt_str
theorem o_le : OpR X (compareOp .LtE) GLe := OpR.or op_le op_le_str
theorem o_gt : OpR X (compareOp .Gt) GGt := OpR.or op_gt op_gt_str
theorem o_ge : OpR X (compareOp .GtE) GGe := OpR.or op_ge op_ge_str
theorem o_slice : SlR X (fun x lo hi H Q => rSlL X.K x lo hi H Q ∨ (rSlS x lo hi H Q ∨ rSlA X.K x lo hi H Q)) := SlR.or sl_list (SlR.or sl_str sl_tupA)
end
section
variable {H : Hp} {Q : VK} {K : PySem.W.Frag} {a b : Int} {x y : Str}
theorem g_addI (q : Q (.int (a + b)) H) : GAdd K (.int a) (.int b) H Q := .inl ⟨a, b, rfl, rfl, q⟩
theorem g_addS (hl : x.length + y.length ≤ sizeLine) (q : Q (.str (x ++ y)) H) : GAdd K (.str x) (.str y) H Q := .inr (.inl ⟨x, y, rfl, rfl, hl, q⟩)
theorem g_mulI (hc : CMulW a b) (q : Q (.int (a * b)) H) : GMul (.int a) (.int b) H Q := .inl ⟨a, b, rfl, rfl, hc, q⟩
theorem g_mulS (hc : MulOk x a) (q : Q (.str (Txt.mul x a)) H) : GMul (.str x) (.int a) H Q := .inr (.inl ⟨x, a, rfl, rfl, hc, q⟩)
theorem g_mulB (ha : a.natAbs < 2 ^ 70) (hb : b.natAbs < 2 ^ 70) (q : Q (.int (a * b)) H) : GMul (.int a) (.int b) H Q := g_mulI (wide_mul ha hb (by decide) (by decide) (by decide)) q
theorem r_mod (hb : 0 < b) (q : Q (.int (a % b)) H) : rI (fun _ j => 0 < j) (fun i j => .int (i % j)) (.int a) (.int b) H Q := r_I (C := fun _ j => 0 < j) hb q
theorem r_div (hb : 0 < b) (h2 : b < 2 ^ 60) (q : Q (.int (a / b)) H) : rI CDivW (fun i j => .int (i / j)) (.int a) (.int b) H Q :=
  r_I (C := CDivW) (⟨hb, Nat.lt_of_lt_of_le (PySem.Flt.log2_lt_of (k := 60) (by decide) (by omega)) (by decide)⟩ : CDivW a b) q
theorem g_ltI (q : Q (.bl (decide (a < b))) H) : GLt (.int a) (.int b) H Q := .inl ⟨a, b, rfl, rfl, q⟩
theorem g_leI (q : Q (.bl (decide (a ≤ b))) H) : GLe (.int a) (.int b) H Q := .inl ⟨a, b, rfl, rfl, q⟩
theorem g_gtI (q : Q (.bl (decide (b < a))) H) : GGt (.int a) (.int b) H Q := .inl ⟨a, b, rfl, rfl, q⟩
theorem g_geI (q : Q (.bl (decide (b ≤ a))) H) : GGe (.int a) (.int b) H Q := .inl ⟨a, b, rfl, rfl, q⟩
theorem g_leS (q : Q (.bl (!decide (y.cps.toList < x.cps.toList))) H) : GLe (.str x) (.str y) H Q := .inr ⟨x, y, rfl, rfl, q⟩
theorem g_ltS (q : Q (.bl (decide (x.cps.toList < y.cps.toList))) H) : GLt (.str x) (.str y) H Q := .inr ⟨x, y, rfl, rfl, q⟩
theorem g_eqI (q : Q (.bl (decide (a = b))) H) : GEq K (.int a) (.int b) H Q := .inl ⟨rfl, by rw [dec_int, Bool.beq_eq_decide_eq]; exact q⟩
theorem g_neI (q : Q (.bl (!decide (a = b))) H) : GNe K (.int a) (.int b) H Q := .inl ⟨rfl, by rw [dec_int, Bool.beq_eq_decide_eq]; exact q⟩
theorem g_eqS (q : Q (.bl (decide (x = y))) H) : GEq K (.str x) (.str y) H Q := .inl ⟨rfl, by rw [dec_str, Bool.beq_eq_decide_eq]; exact q⟩
theorem g_neS (q : Q (.bl (!decide (x = y))) H) : GNe K (.str x) (.str y) H Q := .inl ⟨rfl, by rw [dec_str, Bool.beq_eq_decide_eq]; exact q⟩
end
section
variable {H : Hp} {Q : VK} {K : PySem.W.Frag} {p : Addr} {xs : List V} {i k : Int} {v : V} {j : Nat} {σ : L2.St} {D : Ends} {te to ti : TE}
theorem r_ixL (h : H p = some (.lst xs)) (e : atI xs i = some v) (q : Q v H) : rIx K (.ref p) (.int i) H Q := .inl ⟨p, xs, i, v, rfl, rfl, .of h, e, q⟩
theorem r_ixQ (h : SqL K H p xs) (e : atI xs i = some v) (q : Q v H) : rIx K (.ref p) (.int i) H Q := .inl ⟨p, xs, i, v, rfl, rfl, h, e, q⟩
theorem r_ixT (h : H p = some (.tup xs)) (e : atI xs i = some v) (q : Q v H) : rIx K (.ref p) (.int i) H Q := .inr (.inl ⟨p, xs, i, v, rfl, rfl, .of h, e, q⟩)
theorem r_lenS {x : Str} (h : x.length ≤ 100000) (q : Q (.int x.length) H) : rLen K [.str x] H Q := ⟨_, _, rfl, ⟨Nat.le_trans h (by decide), rfl⟩, q⟩
theorem r_lenT (h : H p = some (.tup xs)) (q : Q (.int (xs.length : Nat)) H) : rLen K [.ref p] H Q := ⟨_, _, rfl, .inr ⟨xs, SqT.of h, rfl⟩, q⟩
theorem r_lenQ (h : SqL K H p xs) (q : Q (.int (xs.length : Nat)) H) : rLen K [.ref p] H Q := ⟨_, _, rfl, .inl ⟨xs, h, rfl⟩, q⟩
theorem r_eqNil {q : Addr} (h : H p = some (.lst xs)) (h' : H q = some (.lst [])) (k : Q (.bl xs.isEmpty) H) : GEq K (.ref p) (.ref q) H Q := .inr (.inr ⟨p, q, xs, rfl, rfl, SqL.of h, SqL.of h', k⟩)
theorem r_repr {b : Bool} (q : Q (.str (reprB b)) H) : rRepr [.bl b] H Q := ⟨b, rfl, q⟩
theorem r_max2 {k : Int} (q : Q (.int (if k > i then k else i)) H) : rMax2 [.int i, .int k] H Q := ⟨i, k, rfl, q⟩
theorem r_min2 {k : Int} (q : Q (.int (if k < i then k else i)) H) : rMin2 [.int i, .int k] H Q := ⟨i, k, rfl, q⟩
theorem r_listOfT (h : H p = some (.tup xs)) (q : ∀ l, H l = none → Q (.ref l) (upd H l (.lst xs))) : rListOf K [.ref p] H Q := ⟨p, xs, rfl, .inr (SqT.of h), q⟩
theorem r_isN (q : Q (.bl (decide (v = .non))) H) : rIsN v .non H Q := ⟨rfl, q⟩
theorem r_asg {g : TG} (h : te σ H fun x H1 => g x σ H1 D.nx) : tAsg te g D σ H := h
theorem r_gName {n : Nat} {R : L2.St → Hp → Prop} (q : R (σ.set n (some v)) H) : gName n v σ H R := q
theorem r_gTup {n : Nat} {t : TGs} {R : L2.St → Hp → Prop} (h : H p = some (.tup xs)) (hl : xs.length = n) (q : t xs σ H R) : gTup K n t (.ref p) σ H R := ⟨p, xs, rfl, SqT.of h, hl, q⟩
theorem r_gCons {t : TG} {u : TGs} {ws : List V} {R : L2.St → Hp → Prop} (q : t v σ H fun σ' H' => u ws σ' H' R) : gCons t u (v :: ws) σ H R := ⟨v, ws, rfl, q⟩
theorem r_gNil {R : L2.St → Hp → Prop} (q : R σ H) : gNil [] σ H R := ⟨rfl, q⟩
theorem r_sub {t : TSet} {R : L2.St → Hp → Prop} (h : to σ H fun o H1 => ti σ H1 fun i H2 => t o i v H2 fun H3 => R σ H3) : gSub to ti t v σ H R := h
theorem r_setL {R : Hp → Prop} (h : H p = some (.lst xs)) (e : ixN xs.length k = some j) (q : R (upd H p (.lst (xs.set j v)))) : rSetL (.ref p) (.int k) v H R := ⟨p, xs, k, j, rfl, rfl, h, e, q⟩
theorem r_dec {c A B : Prop} {_i : Decidable c} (h1 : c → A) (h2 : ¬ c → B) : if decide c = true then A else B := by
  by_cases h : c
  · rw [decide_eq_true h]; exact iteT (h1 h)
  · rw [decide_eq_false h]; exact iteF (h2 h)
theorem r_decN {c A B : Prop} {_i : Decidable c} (h1 : ¬ c → A) (h2 : c → B) : if (!decide c) = true then A else B := by
  by_cases h : c
  · rw [decide_eq_true h]; exact iteF (h2 h)
  · rw [decide_eq_false h]; exact iteT (h1 h)
theorem r_bool {b : Bool} {A B : Prop} (h1 : b = true → A) (h2 : b = false → B) : if b = true then A else B := by
  cases b with
  | true => exact iteT (h1 rfl)
  | false => exact iteF (h2 rfl)
end
theorem sz_of {n : Nat} (h : n ≤ 100000) : n ≤ sizeLine := Nat.le_trans h (by decide)
theorem sz_lt {n : Nat} (h : n < 100000) : n < sizeLine := Nat.lt_of_lt_of_le h (by decide)
end Tk

set_option Elab.async false
set_option linter.all false
set_option maxRecDepth 100000
set_option maxHeartbeats 4000000
namespace Tk
open PySem PySem.Spec PyProof.Rows L2
theorem wipe1 (σ : L2.St) (s : Nat) : wipe σ [s] = σ.set s none := rfl
theorem wipe_set (σ : L2.St) (s : Nat) (v : Option V) : wipe ((wipe σ [s]).set s v) [s] = wipe σ [s] := by
  show ((σ.set s none).set s v).set s none = σ.set s none
  rw [List.set_set, List.set_set]
theorem wipe_slot (σ : L2.St) (s : Nat) (v : Option V) : (wipe σ [s]).set s v = σ.set s v := by
  show (σ.set s none).set s v = σ.set s v
  rw [List.set_set]
theorem take_succ_filter {α β : Type} {l : List α} {i : Nat} {x : α} (h : l[i]? = some x) (g : α → Bool) (f : α → β) :
    ((l.take (i + 1)).filter g).map f = ((l.take i).filter g).map f ++ (if g x = true then [f x] else []) := by
  rw [List.take_add_one, h, List.filter_append, List.map_append]
  cases hg : g x <;> simp [hg]
/-- what a comprehension asks, once it is known what it walks -/
def LcG (J : It) (g : TG) (tt : TT) (te : TE) (vs : List Nat) (σ : L2.St) (H1 : Hp) (Q : VK) : Prop := ∀ D, H1 D = none → ∃ W : Nat → Nat → Hp → Prop, (∃ m, W 0 m (upd H1 D (.lst []))) ∧ ∀ i m H, W i m H →
  (J.stop i H ∧ Q (.ref D) H) ∨ (J.go i H ∧ ∃ Nx : Hp → Prop, (∀ H', Nx H' → ∃ m', m' < m ∧ W (i + 1) m' H') ∧ ∀ x H', J.yld i H x H' → g x (wipe σ vs) H' fun σ2 H2 => wipe σ2 vs = wipe σ vs ∧ tt σ2 H2 fun b H3 =>
    if b = true then te σ2 H3 fun y H4 => ∃ acc, H4 D = some (.lst acc) ∧ acc.length < sizeLine ∧ Nx (upd H4 D (.lst (acc ++ [y]))) else Nx H3)
/-- what a for asks -/
def ForG (J : It) (g : TG) (tb : TS) (D : Ends) (σ : L2.St) (H1 : Hp) : Prop := ∃ W : Nat → Nat → L2.St → Hp → Prop, (∃ m, W 0 m σ H1) ∧ ∀ i m σ H, W i m σ H →
  (J.stop i H ∧ D.nx σ H) ∨ (J.go i H ∧ ∃ N : L2.St → Hp → Prop, (∀ σ' H', N σ' H' → ∃ m', m' < m ∧ W (i + 1) m' σ' H') ∧ ∀ x H', J.yld i H x H' → g x σ H' fun σ2 H2 => tb { D with nx := N, ct := N, bk := D.nx } σ2 H2)
section
variable {wi : TI} {g : TG} {tt : TT} {te tl : TE} {ta : TA} {tb : TS} {vs : List Nat} {σ : L2.St} {H : Hp} {Q : VK} {D : Ends} {K : PySem.W.Frag} {R : It → Hp → Prop}
theorem r_lc (h : wi σ H fun J H1 => LcG J g tt te vs σ H1 Q) : tLc wi g tt te vs σ H Q := h
theorem r_for (h : wi σ H fun J H1 => ForG J g tb D σ H1) : tFor wi g tb D σ H := h
theorem r_rng1 (h : ta σ H fun vs H1 => ∃ j : Int, vs = [.int j] ∧ -(2 ^ 62) ≤ j ∧ j < 2 ^ 62 ∧ R (Itr 0 j.toNat) H1) : iRng1 ta σ H R := h
theorem r_j {j lo hi : Int} {P : Int → Prop} (h0 : lo ≤ j) (h1 : j < hi) (q : P j) : ∃ j', [V.int j] = [V.int j'] ∧ lo ≤ j' ∧ j' < hi ∧ P j' := ⟨j, rfl, h0, h1, q⟩
theorem r_iList (h : tl σ H fun x H1 => ∃ a, x = .ref a ∧ (∃ xs, SqL K H1 a xs) ∧ R (Itl K a) H1) : iList K tl σ H R := h
theorem r_iStr (h : te σ H fun v H1 => ∃ x, v = .str x ∧ R (Its x) H1) : iStr te σ H R := h
theorem r_strx {x : Str} {P : Str → Prop} (q : P x) : ∃ y, V.str x = V.str y ∧ P y := ⟨x, rfl, q⟩
theorem r_iTup (h : tl σ H fun x H1 => ∃ a, x = .ref a ∧ (∃ xs, SqT K H1 a xs) ∧ R (Itt K a) H1) : iTup K tl σ H R := h
end
/-- a comprehension that only makes new things: tests and elements told item by item -/
theorem lc_pure {J : It} {G : Hp → Prop} {items : List V} {s : Nat} {tt : TT} {te : TE} {σ : L2.St} {H1 : Hp} {Qd : VK} (w : Walk J items.length G (YAt items)) (hG : ∀ H', Same H1 H' → G H') (hn : items.length ≤ 100000) (gb : V → Bool) (f : V → V)
    (ht : ∀ x ∈ items, ∀ (H2 : Hp) (R : Bool → Hp → Prop), Same H1 H2 → (∀ H3, Same H2 H3 → R (gb x) H3) → tt (σ.set s (some x)) H2 R)
    (he : ∀ x ∈ items, gb x = true → ∀ (H2 : Hp) (R : VK), Same H1 H2 → (∀ H3, Same H2 H3 → R (f x) H3) → te (σ.set s (some x)) H2 R)
    (hd : ∀ (D : Addr) (H' : Hp), H1 D = none → Same H1 H' → H' D = some (.lst ((items.filter gb).map f)) → Qd (.ref D) H') :
    LcG J (gName s) tt te [s] σ H1 Qd := by
  intro D hD
  refine lc_it (Qd := fun H' => Qd (.ref D) H') w (fun i H' => Same H1 H' ∧ H' D = some (.lst (((items.take i).filter gb).map f))) ⟨Same.new hD, by rw [upd_same]; rfl⟩ (fun i H' _ p => hG H' p.1) ?_ (fun H' p => hd D H' hD p.1 (by rw [p.2, List.take_length]))
  rintro i x H2 H2' hi ⟨p1, p2⟩ ⟨rfl, hx⟩
  have hm : x ∈ items := List.mem_of_getElem? hx
  have hl : (((items.take i).filter gb).map f).length ≤ items.length := by
    rw [List.length_map]
    refine Nat.le_trans (List.length_filter_le _ _) ?_
    rw [List.length_take]
    omega
  show wipe ((wipe σ [s]).set s (some x)) [s] = wipe σ [s] ∧ tt ((wipe σ [s]).set s (some x)) H2' _
  refine ⟨wipe_set σ s _, ?_⟩
  rw [wipe_slot]
  refine ht x hm H2' _ p1 fun H3 s3 => ?_
  cases hg : gb x with
  | true =>
    refine iteT ?_
    refine he x hm hg H3 _ (p1.trans s3) fun H4 s4 => ?_
    have e4 := s4 _ _ (s3 _ _ p2)
    refine ⟨_, e4, sz_lt (by have : i < items.length := hi; rw [List.length_map]; have := List.length_filter_le gb (items.take i); rw [List.length_take] at this; omega), ?_⟩
    refine ⟨Same.mut (p1.trans (s3.trans s4)) hD, ?_⟩
    rw [upd_same, take_succ_filter hx, hg, if_pos rfl]
  | false =>
    refine iteF ?_
    refine ⟨p1.trans s3, ?_⟩
    rw [s3 _ _ p2, take_succ_filter hx, hg, if_neg Bool.false_ne_true, List.append_nil]
theorem filt_true {α : Type} (l : List α) : l.filter (fun _ => true) = l := List.filter_eq_self.mpr fun _ _ => rfl
/-- a text's signs as values -/
abbrev signV (c : Nat) : V := .str ⟨#[c]⟩
def codeV : V → Nat
  | .str y => y.cps.getD 0 0
  | _ => 0
theorem codeV_sign (c : Nat) : codeV (signV c) = c := rfl
def signs (z : Str) : List V := z.cps.toList.map signV
theorem walk_signs {z : Str} : Walk (Its z) (signs z).length (fun _ => True) (YAt (signs z)) := by
  have e : (signs z).length = z.cps.size := by unfold signs; rw [List.length_map, Array.length_toList]
  rw [e]
  refine Walk.mono walk_str (fun _ h => h) fun i H x H' hi _ y => ?_
  obtain ⟨h1, c, h2, h3⟩ := y
  refine ⟨h1, ?_⟩
  unfold signs
  rw [List.getElem?_map, Array.getElem?_toList, h2, h3]
  rfl
theorem r_lcStr {s : Nat} {z : Str} {tt : TT} {te : TE} {σ : L2.St} {H : Hp} {Q : VK} (hn : z.length ≤ 100000) (gb : Nat → Bool) (f : V → V)
    (ht : ∀ c ∈ z.cps.toList, ∀ (H2 : Hp) (R : Bool → Hp → Prop), Same H H2 → (∀ H3, Same H2 H3 → R (gb c) H3) → tt (σ.set s (some (signV c))) H2 R)
    (he : ∀ c ∈ z.cps.toList, gb c = true → ∀ (H2 : Hp) (R : VK), Same H H2 → (∀ H3, Same H2 H3 → R (f (signV c)) H3) → te (σ.set s (some (signV c))) H2 R)
    (hd : ∀ (D : Addr) (H' : Hp), H D = none → Same H H' → H' D = some (.lst ((z.cps.toList.filter gb).map fun c => f (signV c))) → Q (.ref D) H') : LcG (Its z) (gName s) tt te [s] σ H Q := by
  have hl : (signs z).length ≤ 100000 := by unfold signs; rw [List.length_map, Array.length_toList]; exact hn
  have inj : ∀ c, gb c = (fun v => match v with | .str y => gb (y.cps.getD 0 0) | _ => false) (signV c) := fun c => rfl
  refine lc_pure (Qd := Q) walk_signs (fun _ _ => trivial) hl (fun v => match v with | .str y => gb (y.cps.getD 0 0) | _ => false) f ?_ ?_ ?_
  · intro x hx H2 R s2 k
    obtain ⟨c, hc, rfl⟩ := List.mem_map.mp hx
    exact ht c hc H2 R s2 k
  · intro x hx hg H2 R s2 k
    obtain ⟨c, hc, rfl⟩ := List.mem_map.mp hx
    exact he c hc hg H2 R s2 k
  · intro D H' h0 s2 e
    refine hd D H' h0 s2 ?_
    rw [e]
    unfold signs
    rw [List.filter_map, List.map_map]
    rfl
/-! ### signs between two -/
theorem sign_le {a c : Nat} : (!decide (([c] : List Nat) < [a])) = decide (a ≤ c) := by
  have h : ([c] : List Nat) < [a] ↔ c < a := by
    constructor
    · intro h
      cases h with
      | cons h => cases h
      | rel h => exact h
    · exact fun h => .rel h
  by_cases q : a ≤ c
  · rw [decide_eq_true q, decide_eq_false (fun z => by have := h.mp z; omega)]; rfl
  · rw [decide_eq_false q, decide_eq_true (h.mpr (by omega))]; rfl
theorem sign_ge {a c : Nat} : (!decide (([a] : List Nat) < [c])) = decide (c ≤ a) := sign_le (a := c) (c := a)
/-- lo <= sign <= hi -/
theorem r_between {s a b c : Nat} {lo hi : Str} {σ : L2.St} {H : Hp} {Q : VK} (hv : σ[s]? = some (some (signV c))) (h1 : lo.cps.toList = [a]) (h2 : hi.cps.toList = [b]) (q : Q (.bl (decide (a ≤ c) && decide (c ≤ b))) H) :
    tChain GLe GLe (tC (.str lo)) (tVar s) (tC (.str hi)) σ H Q := by
  refine ⟨_, hv, g_leS ?_⟩
  refine ⟨_, rfl, ?_⟩
  rw [h1]
  show if (!decide (([c] : List Nat) < [a])) = true then _ else _
  rw [sign_le]
  by_cases k1 : a ≤ c
  · rw [decide_eq_true k1] at q ⊢
    refine iteT (g_leS ?_)
    rw [h2]
    show Q (.bl (!decide (([b] : List Nat) < [c]))) H
    rw [sign_ge]
    exact q
  · rw [decide_eq_false k1] at q ⊢
    exact iteF q
theorem cps_a : (Str.ofString "a").cps.toList = [97] := by decide +kernel
theorem cps_z : (Str.ofString "z").cps.toList = [122] := by decide +kernel
theorem cps_sp : (Str.ofString " ").cps.toList = [32] := by decide +kernel
theorem cps_til : (Str.ofString "~").cps.toList = [126] := by decide +kernel
end Tk

set_option Elab.async false
set_option linter.all false
set_option maxRecDepth 100000
set_option maxHeartbeats 4000000
namespace Tk
open PySem PySem.Spec PyProof.Rows L2
/-! ### words, values, numbers, stamps, entries, as data -/
mutual
def okD : PyData → Prop
  | .str x => x.length ≤ 100000
  | .list xs => xs.length ≤ 100000 ∧ okAll xs
  | .tuple xs => xs.length ≤ 100000 ∧ okAll xs
  | _ => True
def okAll : List PyData → Prop
  | [] => True
  | x :: xs => okD x ∧ okAll xs
end
def lowB (c : Nat) : Bool := decide (97 ≤ c) && decide (c ≤ 122)
def shownB (c : Nat) : Bool := decide (32 ≤ c) && decide (c ≤ 126)
def wordS (x : Str) : Bool := (decide ((1 : Int) ≤ (x.length : Int)) && decide ((x.length : Int) ≤ 8)) && x.cps.toList.all lowB
def valueS (x : Str) : Bool := (!decide ((40 : Int) < (x.length : Int))) && x.cps.toList.all shownB
def wordD : PyData → Bool
  | .str x => wordS x
  | _ => false
def valueD : PyData → Bool
  | .str x => valueS x
  | _ => false
def numD : PyData → Bool
  | .int i => decide (1 ≤ i) && decide (i ≤ 1000000000000000)
  | _ => false
def stampD : PyData → Bool
  | .tuple [a, b] => numD a && wordD b
  | _ => false
def noneD : PyData → Bool
  | .none => true
  | _ => false
def entryD : PyData → Bool
  | .tuple [k, s, v] => wordD k && (stampD s && (noneD v || valueD v))
  | _ => false
/-- a def that tells something of data -/
def spD (K : PySem.W.Frag) (f : PyData → Bool) : Sp := fun vs H Q _ => ∃ (v : V) (d : PyData), vs = [v] ∧ Dd K H v d ∧ okD d ∧ ∀ H', Same H H' → Q (.bl (f d)) H'
theorem spD_len {K : PySem.W.Frag} {f : PyData → Bool} {vs : List V} {H : Hp} {Q : VK} {E : XK} (h : spD K f vs H Q E) : vs.length = 1 := by
  obtain ⟨v, d, rfl, _⟩ := h
  rfl
section
variable {K : PySem.W.Frag} {H : Hp} {Q : VK} {x : Str} {a : Addr} {xs : List V} {A B : Prop} {b : Bool} {v : V}
theorem r_all {bs : List Bool} (h : H a = some (.lst (bs.map V.bl))) (q : Q (.bl (bs.all id)) H) : rAll K [.ref a] H Q := ⟨a, bs, rfl, SqL.of h, q⟩
theorem r_boolN (h1 : b = false → A) (h2 : b = true → B) : if (!b) = true then A else B := by
  cases b with
  | true => exact iteF (h2 rfl)
  | false => exact iteT (h1 rfl)
/-- data stand for isinstance -/
theorem r_isiS {d : PyData} (h : Dd K H v d) (q : Q (.bl (isOf d "str")) H) : rIsi K [v, .ty "str"] H Q := r_isi h (by decide) q
theorem r_isiT {d : PyData} (h : Dd K H v d) (q : Q (.bl (isOf d "tuple")) H) : rIsi K [v, .ty "tuple"] H Q := r_isi h (by decide) q
theorem r_isiI {d : PyData} (h : Dd K H v d) (q : Q (.bl (isOf d "int")) H) : rIsi K [v, .ty "int"] H Q := r_isi h (by decide) q
theorem r_isiB {d : PyData} (h : Dd K H v d) (q : Q (.bl (isOf d "bool")) H) : rIsi K [v, .ty "bool"] H Q := r_isi h (by decide) q
end
/-- a call of a def that tells something of data -/
theorem r_spD {K : PySem.W.Frag} {f : PyData → Bool} {v : V} {d : PyData} {H : Hp} {Q : VK} {E : XK} (h : Dd K H v d) (o : okD d) (q : ∀ H', Same H H' → Q (.bl (f d)) H') : spD K f ([v] ++ []) H Q E := ⟨v, d, rfl, h, o, q⟩
theorem isStr (x : Str) : isOf (.str x) "str" = true := isN_str.2.2.2.1
theorem isTup (x : List PyData) : isOf (.tuple x) "tuple" = true := isN_tuple.2.2.2.2.2.1
theorem isNotStr {d : PyData} (h : ∀ x, d ≠ .str x) : isOf d "str" = false := by
  cases d with
  | str x => exact absurd rfl (h x)
  | none => exact isN_str.1
  | bool _ => exact isN_str.2.1
  | int _ => exact isN_str.2.2.1
  | list _ => exact isN_str.2.2.2.2.1
  | tuple _ => exact isN_str.2.2.2.2.2.1
  | dict _ => exact isN_str.2.2.2.2.2.2
theorem isNotTup {d : PyData} (h : ∀ x, d ≠ .tuple x) : isOf d "tuple" = false := by
  cases d with
  | tuple x => exact absurd rfl (h x)
  | none => exact isN_tuple.1
  | bool _ => exact isN_tuple.2.1
  | int _ => exact isN_tuple.2.2.1
  | str _ => exact isN_tuple.2.2.2.1
  | list _ => exact isN_tuple.2.2.2.2.1
  | dict _ => exact isN_tuple.2.2.2.2.2.2
theorem isInt_or (d : PyData) : (isOf d "int" = true ∧ isOf d "bool" = false ∧ ∃ i, d = .int i) ∨ (isOf d "int" = true ∧ isOf d "bool" = true ∧ ∃ b, d = .bool b) ∨ (isOf d "int" = false ∧ numD d = false) := by
  cases d with
  | int i => exact .inl ⟨isN_int.2.2.1, isN_bool.2.2.1, i, rfl⟩
  | bool b => exact .inr (.inl ⟨isN_int.2.1, isN_bool.2.1, b, rfl⟩)
  | none => exact .inr (.inr ⟨isN_int.1, rfl⟩)
  | str _ => exact .inr (.inr ⟨isN_int.2.2.2.1, rfl⟩)
  | list _ => exact .inr (.inr ⟨isN_int.2.2.2.2.1, rfl⟩)
  | tuple _ => exact .inr (.inr ⟨isN_int.2.2.2.2.2.1, rfl⟩)
  | dict _ => exact .inr (.inr ⟨isN_int.2.2.2.2.2.2, rfl⟩)
theorem all_signs (l : List Nat) (g : Nat → Bool) : (l.map g).all id = l.all g := by rw [List.all_map]; rfl
theorem str_or (d : PyData) : (∃ x, d = .str x) ∨ (∀ x, d ≠ .str x) := by
  cases d with
  | str x => exact .inl ⟨x, rfl⟩
  | _ => exact .inr fun x h => nomatch h
/-- a tuple of data, or none -/
theorem tup_or {K : PySem.W.Frag} {H : Hp} {v : V} {d : PyData} (h : Dd K H v d) : (∃ a xs ds, v = .ref a ∧ d = .tuple ds ∧ H a = some (.tup xs) ∧ DdAll K H xs ds ∧ isOf d "tuple" = true) ∨ (isOf d "tuple" = false ∧ ∀ ds, d ≠ .tuple ds) := by
  cases h with
  | tup e a => exact .inl ⟨_, _, _, rfl, rfl, e, a, isTup _⟩
  | _ => exact .inr ⟨isNotTup (fun x h => nomatch h), (fun x h => nomatch h)⟩
theorem stampD_no {d : PyData} (h : ∀ ds, d ≠ .tuple ds) : stampD d = false := by
  cases d with
  | tuple x => exact absurd rfl (h x)
  | _ => rfl
theorem entryD_no {d : PyData} (h : ∀ ds, d ≠ .tuple ds) : entryD d = false := by
  cases d with
  | tuple x => exact absurd rfl (h x)
  | _ => rfl
theorem stampD_len {ds : List PyData} (h : ¬ ds.length = 2) : stampD (.tuple ds) = false := by
  unfold stampD
  split
  · rename_i e
    cases e
    exact absurd rfl h
  · rfl
theorem entryD_len {ds : List PyData} (h : ¬ ds.length = 3) : entryD (.tuple ds) = false := by
  unfold entryD
  split
  · rename_i e
    cases e
    exact absurd rfl h
  · rfl
theorem all_two {K : PySem.W.Frag} {H : Hp} {xs : List V} {ds : List PyData} (h : DdAll K H xs ds) (e : xs.length = 2) : ∃ v0 v1 d0 d1, xs = [v0, v1] ∧ ds = [d0, d1] ∧ Dd K H v0 d0 ∧ Dd K H v1 d1 := by
  cases h with
  | nil => cases e
  | cons h0 t =>
    cases t with
    | nil => cases e
    | cons h1 t =>
      cases t with
      | nil => exact ⟨_, _, _, _, rfl, rfl, h0, h1⟩
      | cons _ _ => cases e
theorem all_three {K : PySem.W.Frag} {H : Hp} {xs : List V} {ds : List PyData} (h : DdAll K H xs ds) (e : xs.length = 3) : ∃ v0 v1 v2 d0 d1 d2, xs = [v0, v1, v2] ∧ ds = [d0, d1, d2] ∧ Dd K H v0 d0 ∧ Dd K H v1 d1 ∧ Dd K H v2 d2 := by
  cases h with
  | nil => cases e
  | cons h0 t =>
    cases t with
    | nil => cases e
    | cons h1 t =>
      cases t with
      | nil => cases e
      | cons h2 t =>
        cases t with
        | nil => exact ⟨_, _, _, _, _, _, rfl, rfl, h0, h1, h2⟩
        | cons _ _ => cases e
theorem noneD_iff {K : PySem.W.Frag} {H : Hp} {v : V} {d : PyData} (h : Dd K H v d) : decide (v = .non) = noneD d := by
  cases h <;> simp [noneD]
theorem wordD_no {d : PyData} (h : ∀ x, d ≠ .str x) : wordD d = false := by
  cases d with
  | str x => exact absurd rfl (h x)
  | _ => rfl
theorem valueD_no {d : PyData} (h : ∀ x, d ≠ .str x) : valueD d = false := by
  cases d with
  | str x => exact absurd rfl (h x)
  | _ => rfl
end Tk

set_option Elab.async false
set_option linter.all false
set_option maxRecDepth 100000
set_option maxHeartbeats 4000000
namespace Tk
open PySem PySem.Spec PyProof.Rows L2
/-! ### the law's draws: a pool of two numbers -/
def PoolAt (H : Hp) (p : Addr) : Prop := ∃ a b : Int, H p = some (.lst [.int a, .int b]) ∧ 0 ≤ a ∧ 0 ≤ b ∧ b < 2147483647
theorem pool_mk {H : Hp} {p : Addr} {a b : Int} (h0 : 0 ≤ a) (h1 : 0 ≤ b) (h2 : b < 2147483647) : PoolAt (upd H p (.lst [.int a, .int b])) p := ⟨a, b, upd_same, h0, h1, h2⟩
/-- something was drawn of the pool at p (and new things made) -/
structure Drawn (p : Addr) (H H' : Hp) : Prop where
  kept : ∀ b o, H b = some o → b ≠ p → H' b = some o
  pool : PoolAt H' p
theorem Drawn.trans {p : Addr} {H H1 H2 : Hp} (a : Drawn p H H1) (b : Drawn p H1 H2) : Drawn p H H2 := ⟨fun c o h n => b.kept c o (a.kept c o h n) n, b.pool⟩
theorem Drawn.same {p : Addr} {H H1 H2 : Hp} (a : Drawn p H H1) (b : Same H1 H2) : Drawn p H H2 := ⟨fun c o h n => b c o (a.kept c o h n), by obtain ⟨x, y, h, r⟩ := a.pool; exact ⟨x, y, b _ _ h, r⟩⟩
theorem Drawn.refl {p : Addr} {H : Hp} (h : PoolAt H p) : Drawn p H H := ⟨fun _ _ h _ => h, h⟩
theorem Drawn.of {p : Addr} {H H' : Hp} (h : PoolAt H p) (s : Same H H') : Drawn p H H' := (Drawn.refl h).same s
theorem PoolAt.same {p : Addr} {H H' : Hp} (h : PoolAt H p) (s : Same H H') : PoolAt H' p := (Drawn.of h s).pool
/-- what stood ahead of the pool stands -/
theorem Drawn.back {p : Addr} {H0 H H' : Hp} (d : Drawn p H H') (s : Same H0 H) (n : H0 p = none) : Same H0 H' := fun b o h => d.kept b o (s b o h) (ne_of_none h n)
theorem PoolAt.ne {p a : Addr} {H : Hp} {xs : List V} (h : PoolAt H p) (e : H a = some (.tup xs)) : a ≠ p := by
  obtain ⟨x, y, h, _⟩ := h
  exact ne_of e h (by intro z; cases z)
theorem Drawn.tup {p a : Addr} {H H' : Hp} {xs : List V} (d : Drawn p H H') (h : PoolAt H p) (e : H a = some (.tup xs)) : H' a = some (.tup xs) := d.kept _ _ e (h.ne e)
/-! ### take -/
def spTake : Sp := fun vs H Q _ => ∃ (p : Addr) (m : Int), vs = [.ref p, .int m] ∧ PoolAt H p ∧ 0 < m ∧ m < 2 ^ 60 ∧ ∀ r H', 0 ≤ r → r < m → Drawn p H H' → Q (.int r) H'
theorem r_take {p : Addr} {m : Int} {H : Hp} {Q : VK} {E : XK} (h : PoolAt H p) (h0 : 0 < m) (h1 : m < 2 ^ 60) (q : ∀ r H', 0 ≤ r → r < m → Drawn p H H' → Q (.int r) H') : spTake ([.ref p, .int m] ++ []) H Q E := ⟨p, m, rfl, h, h0, h1, q⟩
def spPool (K : PySem.W.Frag) : Sp := fun vs H Q _ => ∃ (s : Addr) (ns : List Int) (k : Int), vs = [.ref s, .int k] ∧ SqL K H s (ns.map V.int) ∧ ns.length ≤ 63 ∧ 0 ≤ k ∧ k < 64 ∧ ∀ p H', H p = none → Same H H' → PoolAt H' p → Q (.ref p) H'
theorem spTake_len {vs : List V} {H : Hp} {Q : VK} {E : XK} (h : spTake vs H Q E) : vs.length = 2 := by
  obtain ⟨p, m, rfl, _⟩ := h
  rfl
theorem spPool_len {K : PySem.W.Frag} {vs : List V} {H : Hp} {Q : VK} {E : XK} (h : spPool K vs H Q E) : vs.length = 2 := by
  obtain ⟨p, m, k, rfl, _⟩ := h
  rfl
/-! ### what a written expression gives, as data: only new things are made -/
def EvD (K : PySem.W.Frag) (te : TE) (σ : L2.St) (d : PyData) : Prop := ∀ (H : Hp) (Q : VK), (∀ v H', Same H H' → Dd K H' v d → Q v H') → te σ H Q
def EvDA (K : PySem.W.Frag) (ta : TA) (σ : L2.St) (ds : List PyData) : Prop := ∀ (H : Hp) (Q : List V → Hp → Prop), (∀ vs H', Same H H' → DdAll K H' vs ds → Q vs H') → ta σ H Q
section
variable {K : PySem.W.Frag} {σ : L2.St} {te : TE} {ta : TA} {d : PyData} {ds : List PyData}
theorem ed_int {i : Int} : EvD K (tC (.int i)) σ (.int i) := fun H Q q => q _ H (Same.refl H) (.int i)
theorem ed_str {i : Str} : EvD K (tC (.str i)) σ (.str i) := fun H Q q => q _ H (Same.refl H) (.str i)
theorem ed_bl {i : Bool} : EvD K (tC (.bl i)) σ (.bool i) := fun H Q q => q _ H (Same.refl H) (.bl i)
theorem ed_non : EvD K (tC .non) σ .none := fun H Q q => q _ H (Same.refl H) .non
theorem ed_nil : EvDA K tNil σ [] := fun H Q q => q _ H (Same.refl H) .nil
theorem ed_cons (h : EvD K te σ d) (t : EvDA K ta σ ds) : EvDA K (tCons te ta) σ (d :: ds) := fun H Q q =>
  h H _ fun v H1 s1 dv => t H1 _ fun vs H2 s2 dvs => q _ H2 (s1.trans s2) (.cons (Dd.same s2 d v dv) dvs)
theorem ed_tup (h : EvDA K ta σ ds) (hl : ds.length ≤ 100000) : EvD K (tTup ta) σ (.tuple ds) := fun H Q q =>
  h H _ fun vs H1 s1 dvs => ⟨sz_of (by rw [dvs.length]; exact hl), fun p hp => q _ _ (s1.trans (Same.new hp)) (.tup upd_same (DdAll.same (Same.new hp) ds vs dvs))⟩
theorem ed_lst (h : EvDA K ta σ ds) (hl : ds.length ≤ 100000) : EvD K (tLst ta) σ (.list ds) := fun H Q q =>
  h H _ fun vs H1 s1 dvs => ⟨sz_of (by rw [dvs.length]; exact hl), fun p hp => q _ _ (s1.trans (Same.new hp)) (.lst upd_same (DdAll.same (Same.new hp) ds vs dvs))⟩
theorem ed_dct : EvD K tDNewK σ (.dict []) := fun H Q q => fun p hp => q _ _ (Same.new hp) (.dct upd_same)
theorem ed_neg {i : Int} : EvD K (tUn (rU fun i => .int (-i)) (tC (.int i))) σ (.int (-i)) := fun H Q q => ⟨i, rfl, q _ H (Same.refl H) (.int _)⟩
end
theorem DdAll.append {K : PySem.W.Frag} {H : Hp} : ∀ {vs ws : List V} {ds es : List PyData}, DdAll K H vs ds → DdAll K H ws es → DdAll K H (vs ++ ws) (ds ++ es)
  | _, _, _, _, .nil, b => b
  | _, _, _, _, .cons h t, b => .cons h (DdAll.append t b)
theorem DdAll.mem {K : PySem.W.Frag} {H : Hp} : ∀ {vs : List V} {ds : List PyData} {v : V}, DdAll K H vs ds → okAll ds → v ∈ vs → ∃ d, Dd K H v d ∧ okD d
  | _, _, _, .nil, _, h => by cases h
  | _, _, v, .cons h t, o, m => by
    rcases List.mem_cons.mp m with e | m
    · subst e
      exact ⟨_, h, o.1⟩
    · exact DdAll.mem t o.2 m
/-- a value that needs no heap -/
def Scal (v : V) : Prop := ∃ d, okD d ∧ ∀ K H, Dd K H v d
theorem scal_int (i : Int) : Scal (.int i) := ⟨.int i, trivial, fun _ _ => .int i⟩
theorem scal_bl (i : Bool) : Scal (.bl i) := ⟨.bool i, trivial, fun _ _ => .bl i⟩
theorem scal_non : Scal .non := ⟨.none, trivial, fun _ _ => .non⟩
theorem scal_str (x : Str) (h : x.length ≤ 100000) : Scal (.str x) := ⟨.str x, h, fun _ _ => .str x⟩
theorem PoolAt.ne' {p a : Addr} {H : Hp} (h : PoolAt H p) (e : H a = none) : a ≠ p := by
  obtain ⟨x, y, h, _⟩ := h
  exact (ne_of_none h e).symm
/-- a made list, a made tuple: the heap behind is a letter -/
theorem a_lst {xs : List V} {H : Hp} {Q : VK} (hl : xs.length ≤ 100000) (q : ∀ p H2, H p = none → Same H H2 → H2 p = some (.lst xs) → Q (.ref p) H2) : AllocL xs H Q :=
  ⟨sz_of hl, fun p hp => q p _ hp (Same.new hp) upd_same⟩
theorem a_tup {xs : List V} {H : Hp} {Q : VK} (hl : xs.length ≤ 100000) (q : ∀ p H2, H p = none → Same H H2 → H2 p = some (.tup xs) → Q (.ref p) H2) : AllocT xs H Q :=
  ⟨sz_of hl, fun p hp => q p _ hp (Same.new hp) upd_same⟩
/-- texts of at most n signs -/
def textB (n : Nat) : V → Bool
  | .str x => decide (x.length ≤ n)
  | _ => false
theorem textB_all {n : Nat} {xs : List V} {v : V} (h : xs.all (textB n) = true) (m : v ∈ xs) : ∃ x : Str, v = .str x ∧ x.length ≤ n := by
  have q := List.all_eq_true.mp h v m
  cases v with
  | str x => exact ⟨x, rfl, of_decide_eq_true q⟩
  | _ => cases q
def scalB : V → Bool
  | .non => true
  | .bl _ => true
  | .int _ => true
  | .str x => decide (x.length ≤ 100000)
  | _ => false
theorem scal_of {v : V} (h : scalB v = true) : Scal v := by
  cases v with
  | non => exact scal_non
  | bl b => exact scal_bl b
  | int i => exact scal_int i
  | str x => exact scal_str x (of_decide_eq_true h)
  | _ => cases h
theorem scal_all {xs : List V} {v : V} (h : xs.all scalB = true) (m : v ∈ xs) : Scal v := scal_of (List.all_eq_true.mp h v m)
/-- an item at a drawn place -/
theorem at_drawn {xs : List V} {r : Int} (h0 : 0 ≤ r) (h1 : r < (xs.length : Nat)) : ∃ v, atI xs r = some v ∧ v ∈ xs := by
  obtain ⟨n, rfl⟩ := Int.eq_ofNat_of_zero_le h0
  have hn : n < xs.length := by omega
  exact ⟨xs[n], atI_nat (by simp [hn]), List.getElem_mem hn⟩
theorem r_pow15 {H : Hp} {Q : VK} (q : Q (.int 1000000000000000) H) : rI CPow (fun i j => .int (i ^ j.toNat)) (.int 10) (.int 15) H Q := by
  refine r_I (C := CPow) (⟨by decide, by decide, by decide⟩ : CPow 10 15) ?_
  have e : ((10 : Int) ^ (15 : Int).toNat) = 1000000000000000 := by decide +kernel
  rw [e]
  exact q
theorem r_pow18 {H : Hp} {Q : VK} (q : Q (.int 1000000000000000000) H) : rI CPow (fun i j => .int (i ^ j.toNat)) (.int 10) (.int 18) H Q := by
  refine r_I (C := CPow) (⟨by decide, by decide, by decide⟩ : CPow 10 18) ?_
  have e : ((10 : Int) ^ (18 : Int).toNat) = 1000000000000000000 := by decide +kernel
  rw [e]
  exact q
theorem r_pow6 {H : Hp} {Q : VK} (q : Q (.int 1000000) H) : rI CPow (fun i j => .int (i ^ j.toNat)) (.int 10) (.int 6) H Q := by
  refine r_I (C := CPow) (⟨by decide, by decide, by decide⟩ : CPow 10 6) ?_
  have e : ((10 : Int) ^ (6 : Int).toNat) = 1000000 := by decide +kernel
  rw [e]
  exact q
theorem isEmpty_filter (l : List Nat) (g : Nat → Bool) (f : Nat → V) : ((l.filter fun c => !g c).map f).isEmpty = l.all g := by
  induction l with
  | nil => rfl
  | cons a r ih =>
    rw [List.filter_cons, List.all_cons]
    cases h : g a with
    | true => simpa [h] using ih
    | false => simp
end Tk

set_option Elab.async false
set_option linter.all false
set_option maxRecDepth 100000
set_option maxHeartbeats 4000000
namespace Tk
open PySem PySem.Spec PyProof.Rows L2
/-- a comprehension over a range whose element draws -/
theorem lc_drawn {n s : Nat} {p : Addr} {te : TE} {σ : L2.St} {H1 : Hp} {Qd : VK} (hp : PoolAt H1 p) (hn : n ≤ 100000) (Pv : V → Prop)
    (he : ∀ (i : Nat) (H2 : Hp) (R : VK), i < n → PoolAt H2 p → Drawn p H1 H2 → (∀ v H3, Pv v → Drawn p H2 H3 → R v H3) → te (σ.set s (some (.int (0 + (i : Int))))) H2 R)
    (hd : ∀ (D : Addr) (H' : Hp) (ys : List V), H1 D = none → Drawn p H1 H' → ys.length = n → (∀ y ∈ ys, Pv y) → H' D = some (.lst ys) → Qd (.ref D) H') :
    LcG (Itr 0 n) (gName s) tYes te [s] σ H1 Qd := by
  intro D hD
  have nD : D ≠ p := by
    obtain ⟨a, b, e, _⟩ := hp
    exact (ne_of_none e hD).symm
  refine lc_range (Qd := fun H' => Qd (.ref D) H') (lo := 0) (n := n) (fun i H' => Drawn p H1 H' ∧ ∃ ys : List V, ys.length = i ∧ (∀ y ∈ ys, Pv y) ∧ H' D = some (.lst ys)) ⟨Drawn.of hp (Same.new hD), [], rfl, (fun _ h => by cases h), upd_same⟩ ?_ (fun H' ⟨d, ys, e1, e2, e3⟩ => hd D H' ys hD d e1 e2 e3)
  rintro i H2 hi ⟨d2, ys, e1, e2, e3⟩
  show wipe ((wipe σ [s]).set s (some (V.int (0 + (i : Int))))) [s] = wipe σ [s] ∧ _
  refine ⟨wipe_set σ s _, ?_⟩
  simp only [tYes, reduceIte, wipe_slot]
  refine he i H2 _ hi d2.pool d2 fun v H3 hv d3 => ?_
  have e4 := d3.kept _ _ e3 nD
  refine ⟨ys, e4, sz_lt (by omega), ?_⟩
  have d5 : Drawn p H1 H3 := d2.trans d3
  refine ⟨⟨fun b o h n => by rw [upd_ne (ne_of_none h hD)]; exact d5.kept b o h n, ?_⟩, ys ++ [v], by simp [e1], fun y hy => ?_, upd_same⟩
  · obtain ⟨a, b, e, r⟩ := d5.pool
    exact ⟨a, b, by rw [upd_ne nD.symm]; exact e, r⟩
  · rcases List.mem_append.mp hy with h | h
    · exact e2 y h
    · rw [List.mem_singleton.mp h]; exact hv
theorem strs_of {n : Nat} : ∀ {ys : List V}, (∀ y ∈ ys, ∃ x : Str, y = .str x ∧ x.length ≤ n) → ∃ zs : List Str, ys = zs.map V.str ∧ ∀ z ∈ zs, z.length ≤ n
  | [], _ => ⟨[], rfl, fun _ h => by cases h⟩
  | y :: ys, h => by
    obtain ⟨x, rfl, hx⟩ := h y List.mem_cons_self
    obtain ⟨zs, rfl, hz⟩ := strs_of (ys := ys) fun z hz => h z (List.mem_cons_of_mem _ hz)
    exact ⟨x :: zs, rfl, fun z hz' => by
      rcases List.mem_cons.mp hz' with rfl | h
      · exact hx
      · exact hz z h⟩
theorem sum_le {n : Nat} : ∀ {zs : List Str}, (∀ z ∈ zs, z.length ≤ n) → (zs.map (·.length)).sum ≤ zs.length * n
  | [], _ => by simp
  | z :: zs, h => by
    have h1 := h z List.mem_cons_self
    have h2 := sum_le (zs := zs) fun y hy => h y (List.mem_cons_of_mem _ hy)
    rw [List.map_cons, List.sum_cons, List.length_cons, Nat.succ_mul]
    omega
theorem join_len (sep : Str) (zs : List Str) : (Txt.join sep zs).length = (zs.map (·.length)).sum + (zs.length - 1) * sep.length := size_glued sep zs
def rJoin (K : PySem.W.Frag) : V → List V → Hp → VK → Prop := fun x xs H Q => ∃ a p, ∃ ys : List Str, x = V.str a ∧ xs = [V.ref p] ∧ (SqL K H p (ys.map V.str) ∨ SqT K H p (ys.map V.str)) ∧ (ys.map (·.length)).sum + ys.length * a.length ≤ 16777216 ∧ Q (.str (Txt.join a ys)) H
theorem pe_joinK {X : Cx} {o e : Expr} {to te : TE} {apos pos : Pos} (ho : PE X o to) (he : PE X e te) (hs : starEach [e] X.env = [(false, eval e X.env)] := by rfl) (hbase : attributeBase o "join" X.env (eval o X.env) = eval o X.env := by rfl) (hline : (apos.endLine == pos.line) = true := by rfl) :
    PE X (.Call (.Attribute o "join" apos) [e] [] pos) (tM1 (rJoin X.K) to te) := pe_join ho he hs hbase hline
theorem r_m1 {r : V → List V → Hp → VK → Prop} {to te : TE} {σ : L2.St} {H : Hp} {Q : VK} (h : to σ H fun x H1 => (∃ a, x = .str a) ∧ te σ H1 fun y H2 => r x [y] H2 Q) : tM1 r to te σ H Q := h
theorem r_join {K : PySem.W.Frag} {p : Addr} {zs : List Str} {sep : Str} {H : Hp} {Q : VK} (h : H p = some (.lst (zs.map V.str))) (hz : (zs.map (·.length)).sum + zs.length * sep.length ≤ 16777216) (q : Q (.str (Txt.join sep zs)) H) : rJoin K (.str sep) [.ref p] H Q :=
  ⟨sep, p, zs, rfl, rfl, .inl (SqL.of h), hz, q⟩
/-! ### the rules with the written part said by its letter -/
section
variable {X : Cx} {K : PySem.W.Frag}
theorem k_ix (e : X.K = K := by rfl) : IxR X (rIx K) := by subst e; exact ix_seq
theorem k_add (e : X.K = K := by rfl) : OpR X (binaryOp .Add) (GAdd K) := by subst e; exact o_add
theorem k_eq (hu : X.A.units + 64 < cLine) (e : X.K = K := by rfl) : OpR X (compareOp .Eq) (GEq K) := by subst e; exact o_eq hu
theorem k_ne (hu : X.A.units + 64 < cLine) (e : X.K = K := by rfl) : OpR X (compareOp .NotEq) (GNe K) := by subst e; exact o_ne hu
theorem k_isi (e : X.K = K := by rfl) : CallR X (.builtin "isinstance") (rIsi K) := by subst e; exact call_isi
theorem k_len (e : X.K = K := by rfl) : CallR X (.builtin "len") (rLen K) := by subst e; exact c_len
theorem k_all (hc : X.calm = true) (e : X.K = K := by rfl) : CallR X (.builtin "all") (rAll K) := by subst e; exact cr_all hc
theorem k_any (hc : X.calm = true) (e : X.K = K := by rfl) : CallR X (.builtin "any") (rAny K) := by subst e; exact cr_any hc
theorem k_listOf (e : X.K = K := by rfl) : CallR X (.type "list") (rListOf K) := by subst e; exact c_listOf
def GSlice (K : PySem.W.Frag) : V → Option Int → Option Int → Hp → VK → Prop := fun x lo hi H Q => rSlL K x lo hi H Q ∨ (rSlS x lo hi H Q ∨ rSlA K x lo hi H Q)
theorem k_slice (e : X.K = K := by rfl) : SlR X (GSlice K) := by subst e; exact o_slice
theorem r_sl {r : V → Option Int → Option Int → Hp → VK → Prop} {te : TE} {tl th : TO} {σ : L2.St} {H : Hp} {Q : VK} (h : te σ H fun x H1 => tl σ H1 fun lo H2 => th σ H2 fun hi H3 => r x lo hi H3 Q) : tSl r te tl th σ H Q := h
theorem r_un {r : V → Hp → VK → Prop} {te : TE} {σ : L2.St} {H : Hp} {Q : VK} (h : te σ H fun x H1 => r x H1 Q) : tUn r te σ H Q := h
theorem r_U {g : Int → V} {i : Int} {H : Hp} {Q : VK} (q : Q (g i) H) : rU g (.int i) H Q := ⟨i, rfl, q⟩
theorem g_listOfT {p : Addr} {xs : List V} {H : Hp} {Q : VK} (h : H p = some (.tup xs)) (q : ∀ l H2, H l = none → Same H H2 → H2 l = some (.lst xs) → Q (.ref l) H2) : rListOf K [.ref p] H Q := r_listOfT h fun l hl => q l _ hl (Same.new hl) upd_same
theorem r_noPart {σ : L2.St} {H : Hp} {R : Option Int → Hp → Prop} (h : R none H) : tNoPart σ H R := h
theorem r_part {te : TE} {σ : L2.St} {H : Hp} {R : Option Int → Hp → Prop} (h : te σ H fun x H1 => ∃ i, x = .int i ∧ R (some i) H1) : tPart te σ H R := h
theorem r_inti {i : Int} {P : Int → Prop} (q : P i) : ∃ j, V.int i = V.int j ∧ P j := ⟨i, rfl, q⟩
theorem g_slS {x : Str} {lo hi : Option Int} {H : Hp} {Q : VK} (hx : x.length ≤ 100000) (q : Q (.str (cutS x lo hi)) H) : GSlice K (.str x) lo hi H Q := .inr (.inl ⟨x, rfl, sz_of hx, q⟩)
theorem g_slT {a : Addr} {xs : List V} {n : Nat} {lo hi : Option Int} {H : Hp} {Q : VK} (h : H a = some (.tup xs)) (hn : xs.length = n) (hw : ¬ (HT.sIx n 0 lo = 0 ∧ HT.sIx n n hi = n)) (q : ∀ p H2, H p = none → Same H H2 → H2 p = some (.tup (cutV xs lo hi)) → Q (.ref p) H2) : GSlice K (.ref a) lo hi H Q := by
  subst hn
  exact .inr (.inr ⟨a, xs, rfl, SqT.of h, fun w => absurd w hw, fun _ p hp => q p _ hp (Same.new hp) upd_same⟩)
theorem cutS_len (z : Str) (lo hi : Option Int) : (cutS z lo hi).length ≤ z.length := by
  unfold cutS
  show (List.toArray _).size ≤ z.cps.size
  rw [List.size_toArray, List.length_take, List.length_drop, Array.length_toList]
  omega
theorem k_list {tg l : Expr} {tl : TE} (hl : PE X l tl) (e : X.K = K := by rfl) : PI X tg l (iList K tl) := by subst e; exact pi_list hl
theorem k_tup {tg l : Expr} {tl : TE} (hl : PE X l tl) (e : X.K = K := by rfl) : PI X tg l (iTup K tl) := by subst e; exact pi_tup hl
theorem k_gtup {es : List Expr} {k : Nat} {pos : Pos} {t : TGs} {n : Nat} (hc : X.calm = true) (h : PGs X es t) (e : X.K = K := by rfl) (hn : (assignEach es X.env).length = n := by rfl) (hst : (assignEach es X.env).findIdx? (·.1) = none := by rfl) : PG X (.Tuple es k pos) (gTup K n t) := by subst e; exact pg_tup hc h hn hst
theorem k_joinK {o e' : Expr} {to te : TE} {apos pos : Pos} (ho : PE X o to) (he : PE X e' te) (e : X.K = K := by rfl) (hs : starEach [e'] X.env = [(false, eval e' X.env)] := by rfl) (hbase : attributeBase o "join" X.env (eval o X.env) = eval o X.env := by rfl) (hline : (apos.endLine == pos.line) = true := by rfl) :
    PE X (.Call (.Attribute o "join" apos) [e'] [] pos) (tM1 (rJoin K) to te) := by subst e; exact pe_joinK ho he hs hbase hline
end
def spDraw (Pv : V → Prop) : Sp := fun vs H Q _ => ∃ (p : Addr), vs = [.ref p] ∧ PoolAt H p ∧ ∀ v H', Pv v → Drawn p H H' → Q v H'
theorem spDraw_len {Pv : V → Prop} {vs : List V} {H : Hp} {Q : VK} {E : XK} (h : spDraw Pv vs H Q E) : vs.length = 1 := by
  obtain ⟨p, rfl, _⟩ := h
  rfl
theorem r_draw {Pv : V → Prop} {p : Addr} {H : Hp} {Q : VK} {E : XK} (h : PoolAt H p) (q : ∀ v H', Pv v → Drawn p H H' → Q v H') : spDraw Pv ([.ref p] ++ []) H Q E := ⟨p, rfl, h, q⟩
/-- a text of at most n signs -/
def TextV (n : Nat) (v : V) : Prop := ∃ x : Str, v = .str x ∧ x.length ≤ n
theorem turns_of (m l : Nat) (hm : 1 ≤ m) : ∃ n : Nat, (if (if (m : Int) < (l : Int) then (m : Int) else (l : Int)) > 1 then (if (m : Int) < (l : Int) then (m : Int) else (l : Int)) else 1) = (n : Int) ∧ n ≤ m := by
  by_cases h : (m : Int) < (l : Int)
  · rw [if_pos h]
    by_cases h2 : (m : Int) > 1
    · exact ⟨m, if_pos h2, Nat.le_refl _⟩
    · exact ⟨1, if_neg h2, hm⟩
  · rw [if_neg h]
    by_cases h2 : (l : Int) > 1
    · exact ⟨l, if_pos h2, by omega⟩
    · exact ⟨1, if_neg h2, hm⟩
theorem r_pool {K : PySem.W.Frag} {s : Addr} {ns : List Int} {k : Int} {H : Hp} {Q : VK} {E : XK} (h : SqL K H s (ns.map V.int)) (hl : ns.length ≤ 63) (h0 : 0 ≤ k) (h1 : k < 64) (q : ∀ p H', H p = none → Same H H' → PoolAt H' p → Q (.ref p) H') : spPool K ([.ref s, .int k] ++ []) H Q E :=
  ⟨s, ns, k, rfl, h, hl, h0, h1, q⟩
/-- the law's own promise -/
def spLaw (K : PySem.W.Frag) : Sp := fun vs H Q _ => ∃ (a : Addr) (ns : List Int), vs = [.ref a] ∧ SqL K H a (ns.map V.int) ∧ ns.length ≤ 63 ∧ ∀ H', Q (.bl true) H'
theorem spLaw_len {K : PySem.W.Frag} {vs : List V} {H : Hp} {Q : VK} {E : XK} (h : spLaw K vs H Q E) : vs.length = 1 := by
  obtain ⟨a, ns, rfl, _⟩ := h
  rfl
theorem ev_use {K : PySem.W.Frag} {te : TE} {σ : L2.St} {d : PyData} {H : Hp} {Q : VK} (h : EvD K te σ d) (q : ∀ v H', Same H H' → Dd K H' v d → Q v H') : te σ H Q := h H Q q
theorem g_cat {K : PySem.W.Frag} {v w : V} {ds es : List PyData} {H : Hp} {Q : VK} (h1 : Dd K H v (.list ds)) (h2 : Dd K H w (.list es)) (hl : ds.length + es.length ≤ 100000) (q : ∀ v' H2, Same H H2 → Dd K H2 v' (.list (ds ++ es)) → Q v' H2) : GAdd K v w H Q := by
  cases h1 with
  | lst e1 a1 =>
    cases h2 with
    | lst e2 a2 =>
      exact .inr (.inr (.inl ⟨_, _, _, _, rfl, rfl, e1, e2, sz_of (by rw [a1.length, a2.length]; exact hl), fun p hp => q _ _ (Same.new hp) (.lst upd_same (DdAll.same (Same.new hp) _ _ (a1.append a2)))⟩))
/-- a comprehension over a list of data whose tests all fail -/
theorem lc_none {K : PySem.W.Frag} {T : Addr} {xs : List V} {ds : List PyData} {s : Nat} {tt : TT} {te : TE} {σ : L2.St} {H : Hp} {Q : VK} (e : H T = some (.lst xs)) (al : DdAll K H xs ds) (ok : okAll ds) (hl : ds.length ≤ 100000)
    (ht : ∀ v d, Dd K H v d → okD d → ∀ (H2 : Hp) (R : Bool → Hp → Prop), Same H H2 → (∀ H3, Same H2 H3 → R false H3) → tt (σ.set s (some v)) H2 R)
    (hd : ∀ (D : Addr) (H' : Hp), H D = none → Same H H' → H' D = some (.lst []) → Q (.ref D) H') : LcG (Itl K T) (gName s) tt te [s] σ H Q := by
  refine lc_pure walk_list (fun H' s' => SqL.of (s' _ _ e)) (by rw [al.length]; exact hl) (fun _ => false) (fun v => v) ?_ (fun _ _ h => nomatch h) ?_
  · intro v hv H2 R s2 q
    obtain ⟨d, hd, od⟩ := al.mem ok hv
    exact ht v d hd od H2 R s2 q
  · intro D H' h0 s' e'
    refine hd D H' h0 s' ?_
    rw [e']
    have z : xs.filter (fun _ => false) = [] := List.filter_eq_nil_iff.mpr (fun _ _ h => nomatch h)
    rw [z]
    rfl
/-- a loop over a list of data that only makes new things -/
theorem for_data {K : PySem.W.Frag} {T : Addr} {xs : List V} {g : TG} {tb : TS} {D : Ends} {σ : L2.St} {H : Hp} (e : H T = some (.lst xs)) (Sl : L2.St → Prop) (h0 : Sl σ)
    (hs : ∀ v ∈ xs, ∀ (σ : L2.St) (H2 : Hp), Sl σ → Same H H2 → g v σ H2 fun σ2 H3 => tb { D with nx := fun σ' H' => Sl σ' ∧ Same H H', ct := fun σ' H' => Sl σ' ∧ Same H H', bk := D.nx } σ2 H3) (hd : ∀ σ H', Sl σ → Same H H' → D.nx σ H') :
    ForG (Itl K T) g tb D σ H := by
  refine for_it walk_list (fun _ σ H' => Sl σ ∧ Same H H') ⟨h0, Same.refl H⟩ (fun i σ H' _ p => SqL.of (p.2 _ _ e)) ?_ (fun σ H' p => hd σ H' p.1 p.2)
  rintro i x σ H2 H2' hi ⟨p1, p2⟩ ⟨rfl, hx⟩
  exact hs x (List.mem_of_getElem? hx) σ _ p1 p2
end Tk

set_option Elab.async false
set_option linter.all false
set_option maxRecDepth 100000
set_option maxHeartbeats 4000000
/-! defs as they are called where no repr runs around them: a promise that may lean on it (repr of lists and tuples asks it) -/
namespace Tk
open PySem PySem.Spec PyProof.Rows L2
structure FnG (P : Program) (w : World) (K : PySem.W.Frag) (mg : Str → Option Value) (base : Heap) (CX : CXT) (k : Nat) (f : Addr) (fd : FuncData) (ps : List Str) (sp : Sp) : Prop where
  arity : ∀ zs H Q E, sp zs H Q E → zs.length = ps.length
  go : ∀ (B : Around) (outs : List Env) (t : Shared) (H : Hp) (ar : Args) (us : List Value) (zs : List V) (Q : VK) (E : XK), B.guards = some [] → Room k B → Env0 P w K mg base B outs t H →
    BindsTo t fd ar (ps.zip us) → Vals zs us → sp zs H Q E → codeAny (model P w) B (.call (.ref f) ar) (CR CX outs P w H t Q E) t
section
variable {P : Program} {w : World} {K : PySem.W.Frag} {mg : Str → Option Value} {base : Heap} {CX : CXT} {j k : Nat} {f : Addr} {fd : FuncData} {ps : List Str} {sp : Sp}
theorem FnG.of (F : FnOk P w K mg base CX k f fd ps sp) : FnG P w K mg base CX k f fd ps sp :=
  ⟨F.len, fun B outs t H ar us zs Q E _ rm => F.run B outs t H ar us zs Q E rm⟩
theorem FnG.mono (F : FnG P w K mg base CX j f fd ps sp) (h : j ≤ k) : FnG P w K mg base CX k f fd ps sp :=
  ⟨F.arity, fun B outs t H ar us zs Q E gd rm => F.go B outs t H ar us zs Q E gd (rm.mono h)⟩
end
structure CalG (P : Program) (w : World) (K : PySem.W.Frag) (mg : Str → Option Value) (base : Heap) (CX : CXT) (k : Nat) (x : Str) (ps : List Str) (sp : Sp) : Prop where
  ex : ∃ (f : Addr) (fd : FuncData), mg x = some (.ref f) ∧ PySem.W.keepIn K (.ref f) = true ∧ Binds K fd ps [] ∧ FnG P w K mg base CX k f fd ps sp
section
variable {P : Program} {w : World} {K : PySem.W.Frag} {mg : Str → Option Value} {base : Heap} {CX : CXT} {j k : Nat} {x : Str} {ps : List Str} {sp : Sp}
theorem CalG.mono (C : CalG P w K mg base CX j x ps sp) (h : j ≤ k) : CalG P w K mg base CX k x ps sp := by
  obtain ⟨f, fd, m1, m2, m3, F⟩ := C.ex
  exact ⟨f, fd, m1, m2, m3, F.mono h⟩
theorem Cal.toG (C : Cal P w K mg base CX k x ps sp) : CalG P w K mg base CX k x ps sp := by
  obtain ⟨f, fd, m1, m2, m3, F⟩ := C.ex
  exact ⟨f, fd, m1, m2, m3, FnG.of F⟩
theorem CalG.of {f : Addr} {fd : FuncData} (m1 : mg x = some (.ref f)) (m2 : PySem.W.keepIn K (.ref f) = true) (m3 : Binds K fd ps []) (F : FnG P w K mg base CX k f fd ps sp) : CalG P w K mg base CX k x ps sp := ⟨f, fd, m1, m2, m3, F⟩
end
/-! ### calls -/
section
variable {X : Cx} {CX : CXT} {k : Nat} {f : Addr} {fd : FuncData} {ps : List Str} {sp : Sp} {E : XK} {x : Str} {p pos : Pos} {e : Expr} {es : List Expr} {t : TA}
theorem goG {pn : List (Addr × Obj)} {σ : L2.St} {H : Hp} {s : Shared} {Q : VK} {us : List Value} {zs : List V} (F : FnG X.prog X.w X.K X.mg X.base CX k f fd ps sp) (gd : X.A.guards = some []) (rm : Room k X.A) (bd : Binds X.K fd ps []) (hE : ∀ u s', Inv X pn σ H s → CX X.stack H s E u s' → X.xe u s')
    (I : Inv X pn σ H s) (rv : Vals zs us) (q : sp zs H Q E) : wpAny (model X.prog X.w) X.A (call (.ref f) us) (EP X pn σ Q) X.xe s := by
  have ar : us.length = ps.length := rv.length.symm.trans (F.arity _ _ _ _ q)
  have b := bd s us I.kIn (by rw [List.append_nil]; exact ar)
  rw [List.append_nil] at b
  refine wpAny_call (codeAny_mono (F.go X.A X.stack s H ⟨us, []⟩ us zs Q E gd rm I.env0 b rv q) ?_)
  rintro (e' | fl) s' hq
  · exact hE _ s' I hq
  · rcases fl with _ | _ | _ | u
    all_goals first | exact I.after hq | exact hq.elim
theorem pe_calg (C : CalG X.prog X.w X.K X.mg X.base CX k x ps sp) (gd : X.A.guards = some []) (rm : Room k X.A) (hx : Passes CX X E) (ha : PA X (e :: es) t) (hg : Gl X x := by rfl)
    (hdb : (x == ("__debug__" : Str)) = false := by decide) (he : starEach (e :: es) X.env = (false, eval e X.env) :: starEach es X.env := by rfl) (hpl : (backTo pos (starEach es X.env)).any (·.1) = false := by rfl) :
    PE X (.Call (.Name x p) (e :: es) [] pos) (tCall sp [] E t) := by
  obtain ⟨f, fd, m1, m2, m3, F⟩ := C.ex
  constructor
  intro pn s σ H Q I h
  refine wpAny_Call_Name_kw (ld_glob I hg m1 ?_ hdb)
  refine PySem.W.callWith_K (h₀ := X.base) I.ok.mod.kin m2 (thn (ha.run pos pn s σ H _ I h) ?_) he hpl
  rintro us s1 ⟨zs, H1, I1, rv, q⟩
  refine ⟨I1.kIn, goG F gd rm m3 (fun u s' I c => hx pn σ H1 s1 u s' I c) I1 rv ?_⟩
  rw [List.append_nil] at q
  exact q
end
/-! ### a def's body -/
section
variable {P : Program} {w : World} {K : PySem.W.Frag} {mg : Str → Option Value} {base : Heap} {CX : CXT} {k : Nat} {f : Addr} {N ps : List Str} {sp : Sp} {nm qn : Str} {prm : Arguments} {bd : List Stmt} {sco : Scope} {u1 u2 u3 u4 u5 u6 u7 : Value} {an od : Option Addr} {osl : Array (Option Value)}
theorem fnG_of (at_f : K.lookup f = some ⟨u7, od, .func (PySem.W.fnOf nm qn prm bd sco u1 u2 u3 u4 an u5 u6), osl⟩) (cd : PySem.W.codeIn K u5 qn = true) (S : FnScope N ps sco) (ary : ∀ zs H Q E, sp zs H Q E → zs.length = ps.length)
    (body : ∀ (B : Around) (outs : List Env) (t : Shared) (H : Hp) (zs : List V) (Q : VK) (E : XK), B.guards = some [] → Room k (B.deeper (envOfC qn sco t.heap.objs.size f u5)) → sp zs H Q E →
      ∃ tr, PSs (cxOf CX P w K mg base N qn sco f u5 B outs t H E) bd tr ∧ tr { nx := fun _ H' => Q .non H', rt := Q } (start N zs) H) :
    FnG P w K mg base CX (k + 1) f (PySem.W.fnOf nm qn prm bd sco u1 u2 u3 u4 an u5 u6) ps sp := by
  constructor
  case arity => exact ary
  intro B outs t H ar us zs Q E gd rm e0 bt rv q
  have len := ary _ _ _ _ q
  have up := fun b o e => (e0.bs b o e).1
  have kin : K.In t.heap := e0.mod.kin.keeps up
  have ndl : t.heap.NoLimit := e0.mod.nolimit.keeps up
  have kd : ∀ y ∈ ps.zip us, sco.names.lookup y.1 = some .local ∨ (sco.names.lookup y.1 = some .cell ∧ ((cellsFrom (t.heap.objs.size + 1) sco.names []).lookup y.1).isSome = true) := by
    rintro ⟨a, b⟩ hy
    cases S.par a (List.of_mem_zip hy).1 with
    | inl z => exact .inl z
    | inr z => exact .inr ⟨z, PySem.W.cellsFrom_some _ _ _ (.inl z)⟩
  refine codeAny_call_function rm.depth (kin _ _ at_f) rfl S.co S.gen rfl (PySem.W.codeRec_of kin cd) (bt _ _ _ _ ?_)
  refine wpAny_newFunctionEnv_cells S.kind kd ?_
  intro ff eq t1 xx
  cases eq
  refine ⟨ndl.keeps xx.toInCall.keep, codeAny_func ?_⟩
  obtain ⟨tr, der, rd⟩ := body B outs t H zs Q E gd (rm.deeper _) q
  have I0 := inv_start (CX := CX) (E := E) S rm.hd e0 len rv xx
  refine wpAny_mono (der.run [] t1 (start N zs) H _ I0 rd) ?_ (fun _ _ z => z)
  intro fl t2 hz
  cases fl with
  | next => obtain ⟨σ', H', J, z⟩ := hz; exact ⟨.non, H', J.os, J.bare, J.base, J.hok, rfl, z⟩
  | ret u => obtain ⟨v, σ', H', J, rr, z⟩ := hz; exact ⟨v, H', J.os, J.bare, J.base, J.hok, rr, z⟩
  | brk => obtain ⟨_, _, _, z⟩ := hz; exact z.elim
  | cont => obtain ⟨_, _, _, z⟩ := hz; exact z.elim
theorem funG {x qual : Str} {st : Stmt} {fd : FuncData} (F : Fun K x qual st f fd) (S : FnScope N ps (defScope st)) (ary : ∀ zs H Q E, sp zs H Q E → zs.length = ps.length)
    (body : ∀ (cdv : Value) (B : Around) (outs : List Env) (t : Shared) (H : Hp) (zs : List V) (Q : VK) (E : XK), B.guards = some [] → Room k (B.deeper (envOfC qual (defScope st) t.heap.objs.size f cdv)) → sp zs H Q E →
      ∃ tr, PSs (cxOf CX P w K mg base N qual (defScope st) f cdv B outs t H E) (defBody st) tr ∧ tr { nx := fun _ H' => Q .non H', rt := Q } (start N zs) H) : FnG P w K mg base CX (k + 1) f fd ps sp := by
  obtain ⟨_, _, _, _, _, _, cdv, _, _, rfl, at_f, cd⟩ := F.ex
  exact fnG_of at_f cd S ary fun B outs t H zs Q E gd rm q => body cdv B outs t H zs Q E gd rm q
/-- where no error leaves it -/
theorem funG0 {x qual : Str} {st : Stmt} {fd : FuncData} (F : Fun K x qual st f fd) (S : FnScope N ps (defScope st)) (ary : ∀ zs H Q E, sp zs H Q E → zs.length = ps.length)
    (body : ∀ (cdv : Value) (B : Around) (outs : List Env) (t : Shared) (H : Hp) (zs : List V) (Q : VK) (E : XK), B.guards = some [] → Room k (B.deeper (envOfC qual (defScope st) t.heap.objs.size f cdv)) → sp zs H Q E →
      ∃ tr, PSs (cxOf CX0 P w K mg base N qual (defScope st) f cdv B outs t H E).nox (defBody st) tr ∧ tr { nx := fun _ H' => Q .non H', rt := Q } (start N zs) H) : FnG P w K mg base CX0 (k + 1) f fd ps sp :=
  funG F S ary fun cdv B outs t H zs Q E gd rm q => by
    obtain ⟨tr, d, r⟩ := body cdv B outs t H zs Q E gd rm q
    exact ⟨tr, d.nox, r⟩
end
/-! ### the law's own call -/
section
variable {P : Program} {w : World} {K : PySem.W.Frag} {mg mb : Str → Option Value} {k : Nat} {fa a : Addr} {fd : FuncData} {x : Str} {t : Shared} {vs : List Value} {ns : List Int}
theorem lawG (kin : K.In t.heap) (n1 : t.heap.Ns mainGlobals mg) (n2 : t.heap.Ns builtinsNs mb) (n3 : ∀ y : Str, y ≠ "__name__" → mb y = bootBuiltins y) (ndl : t.heap.NoLimit) (gz : t.gens = #[])
    (obj : t.heap.get? a = some { cls := .type "list", data := .seq vs.toArray }) (are : IntsAre vs ns) (small : ns.length ≤ 63) (rm : Room k callerA)
    (F : ∀ bh : Heap, K.In bh → bh.Ns mainGlobals mg → FnG P w K mg bh CX0 k fa fd [x] (spLaw K)) (bt : ∀ (s : Shared) (u : Value), BindsTo s fd ⟨[u], []⟩ [(x, u)]) :
    codeAny (model P w) callerA (.call (.ref fa) ⟨[.ref a], []⟩) (fun r s' => r = .ok (.ret (.bool true)) ∧ OldK t.heap s'.heap ∧ s'.os = t.os ∧ AllBare s'.gens) t := by
  have lens := are.length
  have rel := vals_ints are
  have main : ∀ H : Hp, (∀ b, H b = none ∨ (b = a ∧ H b = some (.frz { cls := .type "list", data := .seq vs.toArray } (.lst (ns.map V.int))))) → (H a ≠ none → K.lookup a = none) → SqL K H a (ns.map V.int) →
      codeAny (model P w) callerA (.call (.ref fa) ⟨[.ref a], []⟩) (fun r s' => r = .ok (.ret (.bool true)) ∧ OldK t.heap s'.heap ∧ s'.os = t.os ∧ AllBare s'.gens) t := by
    intro H form free sq
    have hok : HOk P w H t.heap := by
      intro b u e
      rcases form b with z | ⟨rfl, z⟩
      · rw [z] at e; cases e
      · rw [z] at e
        cases e
        exact ⟨obj, by rw [List.length_map]; exact sz_of (by omega), vs, _, rel, obj⟩
    have hide : ∀ {b : Addr} {o : Obj}, t.heap.get? b = some o → H b = none → (hidT t.heap H).get? b = some o := fun e z => hidT_get e z
    have plain : ∀ {b : Addr} {o : Obj} {es : Array DictEntry} {ep : Nat}, t.heap.get? b = some o → o.data = .dict es ep → H b = none := by
      intro b o es ep e dd
      rcases form b with z | ⟨rfl, _⟩
      · exact z
      · rw [obj] at e
        cases e
        exact nomatch dd
    have names : ∀ {b : Addr} {m : Str → Option Value}, t.heap.Ns b m → (hidT t.heap H).Ns b m := by
      rintro b m ⟨o, es, ep, e, dd, rr⟩
      exact ⟨o, es, ep, hide e (plain e dd), dd, rr⟩
    have kin2 : K.In (hidT t.heap H) := by
      intro b o e
      refine hide (kin b o e) ?_
      rcases form b with z | ⟨rfl, z⟩
      · exact z
      · rw [free (by rw [z]; exact fun q => nomatch q)] at e
        cases e
    obtain ⟨mc, c1, c2⟩ := ndl
    have md : Mod K mg (hidT t.heap H) := ⟨kin2, names n1, ⟨mb, names n2, n3⟩, ⟨mc, names c1, c2⟩⟩
    have e0 : Env0 P w K mg (hidT t.heap H) callerA [] t H :=
      { frames := rfl, mod := md, bs := fun b o e => of_hidT e, bsz := Nat.le_of_eq (hidT_size _ _), funs := trivial, frf := (fun _ hb => nomatch hb), hok := hok, bare := .of_eq gz }
    refine codeAny_mono ((F _ kin2 (names n1)).go callerA [] t H ⟨[.ref a], []⟩ [.ref a] [.ref a] (fun v _ => v = .bl true) (fun _ _ _ => False) rfl rm e0 (bt t (.ref a)) (.cons rfl .nil) ⟨a, ns, rfl, sq, small, fun _ => rfl⟩) ?_
    rintro (e' | fl) s' hz
    · exact False.elim hz
    · rcases fl with _ | _ | _ | u
      · exact False.elim hz
      · exact False.elim hz
      · exact False.elim hz
      · obtain ⟨v, H', h1, h2, h3, h4, h5, h6⟩ := hz
        have h6' : v = .bl true := h6
        subst h6'
        obtain rfl : u = Value.bool true := h5
        refine ⟨rfl, OldK.of_keep ?_, h1, h2⟩
        intro b o e
        rcases form b with z | ⟨rfl, z⟩
        · exact h3.keep b o e z (by intro y; cases y) (by intro y; cases y)
        · obtain ⟨y1, _⟩ := h4 b _ (h3.frzs b _ _ z)
          rw [obj] at e
          cases e
          exact y1
  cases lk : K.lookup a with
  | some o =>
    have e := kin a o lk
    rw [obj] at e
    cases e
    exact main (fun _ => none) (fun _ => .inl rfl) (fun z => absurd rfl z) (.inr ⟨_, vs.toArray, _, lk, rfl, rfl, rfl, by rw [List.size_toArray, lens]; exact sz_of (by omega), by simpa using rel⟩)
  | none =>
    refine main (fun b => if b = a then some (.frz { cls := .type "list", data := .seq vs.toArray } (.lst (ns.map V.int))) else none) ?_ (fun _ => lk) (.inl (.inr ⟨_, if_pos rfl⟩))
    intro b
    by_cases z : b = a
    · exact .inr ⟨z, if_pos z⟩
    · exact .inl (if_neg z)
end
theorem walkG {l : PySem.W.OpenLaw} {k : Nat} {q : Program} {loose : List Str} {XP : (Str → Option Value) → Heap → Prop} {YP : World → Heap → Prop} {d : DefRec} {K : Params → PySem.W.Frag} {x : Str} (hn : l.most = some 63) (hdf : d.params.defaults = []) (rm : Room k callerA)
    (hY : ∀ (w : World) (h : Heap), YP w h → (K w.params).In h)
    (F : ∀ (w : World) (mg : Str → Option Value) (fa : Addr) (h : Heap), (K w.params).In h → h.Ns mainGlobals mg → mg d.name = some (.ref fa) →
      ∃ fd : FuncData, (∀ (s : Shared) (u : Value), BindsTo s fd ⟨[u], []⟩ [(x, u)]) ∧ ∀ bh : Heap, (K w.params).In bh → bh.Ns mainGlobals mg → FnG l.prog w (K w.params) mg bh CX0 k fa fd [x] (spLaw (K w.params))) :
    PySem.W.WalkO q loose XP YP l.row.toRowW d [] (fun f vs => PySem.call f vs) := by
  refine Att.attach_call hn hdf ?_
  intro w s₀ t mg mb fa o pm cd doc a vs ns G Y ho hd hcd hmg obj are small gz
  have kin := hY w _ Y
  obtain ⟨fd, bt, FF⟩ := F w mg fa _ kin G.T.g hmg
  exact lawG kin G.T.g G.T.b G.T.builtins G.T.nolimit gz obj are small rm FF bt
end Tk

set_option Elab.async false
set_option linter.all false
set_option maxRecDepth 100000
set_option maxHeartbeats 4000000
/-! repr of data; errors of own classes that store their argument as value -/
namespace Tk
open PySem PySem.Spec PyProof.Rows L2
section
variable {X : Cx} {pn : List (Addr × Obj)} {σ : L2.St} {H : Hp} {s : Shared}
mutual
theorem Dd.reads (I : Inv X pn σ H s) : ∀ (d : PyData) (v : V) (u : Value), Dd X.K H v d → RelV v u → ∃ as, Reads s.heap u d as
  | .none, _, _, h, r => by
    cases h; cases r
    exact ⟨_, Reads.none⟩
  | .bool b, _, _, h, r => by
    cases h; cases r
    exact ⟨_, Reads.bool b⟩
  | .int i, _, _, h, r => by
    cases h
    obtain ⟨t, rfl⟩ := r
    exact ⟨_, Reads.int i t⟩
  | .str x, _, _, h, r => by
    cases h
    obtain ⟨t, rfl⟩ := r
    exact ⟨_, Reads.str x t⟩
  | .list ds, _, _, h, r => by
    cases h with
    | lst e al =>
      cases r
      obtain ⟨its, rv, ⟨o, n, ho, hc, _, hd⟩, _⟩ := I.list (SqL.of e)
      obtain ⟨as, q⟩ := DdAll.reads I ds _ its al rv
      exact ⟨_, Reads.list ho hc hd q⟩
  | .tuple ds, _, _, h, r => by
    cases h with
    | tup e al =>
      cases r
      obtain ⟨its, rv, ⟨o, ho, hc, n, hd⟩, _⟩ := I.tuple (SqT.of e)
      obtain ⟨as, q⟩ := DdAll.reads I ds _ its al rv
      exact ⟨_, Reads.tuple ho hc hd q⟩
  | .dict kvs, _, _, h, r => by
    cases h with
    | dct e =>
      cases r
      obtain ⟨_, _, vs, kv, o, es, ep, h1, h2, h3, h4, h5, h6⟩ := (show ObjOk X.prog X.w H s.heap _ (.dK []) from I.hok _ _ e)
      cases kv
      have z : es.toList = [] := by
        generalize es.toList = l at h5
        cases h5
        rfl
      exact ⟨_, Reads.dict (as := []) (bs := []) h1 h2.1 h3 (by rw [z]; exact .nil) (by rw [z]; exact .nil)⟩
theorem DdAll.reads (I : Inv X pn σ H s) : ∀ (ds : List PyData) (vs : List V) (us : List Value), DdAll X.K H vs ds → Vals vs us → ∃ as, ReadsAll s.heap us ds as
  | [], _, _, h, r => by
    cases h; cases r
    exact ⟨_, ReadsAll.nil⟩
  | d :: ds, _, _, h, r => by
    cases h with
    | cons h1 h2 =>
      cases r with
      | cons r1 r2 =>
        obtain ⟨as, q1⟩ := Dd.reads I d _ _ h1 r1
        obtain ⟨bs, q2⟩ := DdAll.reads I ds _ _ h2 r2
        exact ⟨_, ReadsAll.cons q1 q2⟩
end
end
/-- what repr is asked of -/
structure Shows (d : PyData) : Prop where
  form : d.hasDict = false ∨ d = .dict []
  show_ : d.showable = true
  len : d.shown.length ≤ 1000000
  deep : d.depth ≤ 60
def rReprD (K : PySem.W.Frag) : List V → Hp → VK → Prop := fun xs H Q => ∃ v d, xs = [v] ∧ Dd K H v d ∧ Shows d ∧ Q (.str d.shown) H
theorem r_reprD {K : PySem.W.Frag} {v : V} {d : PyData} {H : Hp} {Q : VK} (h : Dd K H v d) (S : Shows d) (q : Q (.str d.shown) H) : rReprD K [v] H Q := ⟨v, d, rfl, h, S, q⟩
theorem call_reprD {X : Cx} {K : PySem.W.Frag} (gd : X.A.guards = some []) (hu : X.A.units + 64 < cLine) (e : X.K = K := by rfl) : CallR X (.builtin "repr") (rReprD K) := by
  subst e
  intro pn s σ H xs us Q I r h
  obtain ⟨v, d, rfl, hd, S, q⟩ := h
  obtain ⟨u, rfl, ru⟩ := vals1 r
  have hl : d.shown.length ≤ sizeLine := Nat.le_trans S.len (by decide)
  obtain ⟨as, rd⟩ := Dd.reads I d v u hd ru
  have dp := S.deep
  have fin : ∀ a : Addr, Reads s.heap (.ref a) d as → (d.hasDict = true → sysModules ∉ as) → wpAny (model X.prog X.w) X.A (call (.builtin "repr") [.ref a]) (EP X pn σ Q) X.xe s := fun a rd hs =>
    repr_of_reads' rd S.show_ hs gd (by omega) (fun _ _ z => z) (fun h' t tk k => ⟨.str d.shown, H, I.kept (t' := tk) k, ⟨t, rfl⟩, q⟩) hl
  cases hd with
  | non => cases ru; exact PySem.P.repr_of_none ⟨.str _, H, I.tok _, ⟨_, rfl⟩, q⟩
  | bl b =>
    cases ru
    have q' : Q (.str (if b then "True" else "False")) H := q
    exact PySem.P.repr_of_bool ⟨.str _, H, I.tok _, ⟨_, rfl⟩, q'⟩
  | int i =>
    obtain ⟨t, rfl⟩ := ru
    exact PySem.P.repr_of_int (by simpa [PyData.showable] using S.show_) ⟨.str _, H, I.tok _, ⟨_, rfl⟩, q⟩
  | str x =>
    obtain ⟨t, rfl⟩ := ru
    exact PySem.P.repr_of_str ⟨.str _, H, I.tok _, ⟨_, rfl⟩, q⟩ hl
  | lst e al =>
    cases ru
    exact fin _ rd (PyData.noDict_hsm (S.form.resolve_right fun z => nomatch z))
  | tup e al =>
    cases ru
    exact fin _ rd (PyData.noDict_hsm (S.form.resolve_right fun z => nomatch z))
  | dct e =>
    cases ru
    obtain ⟨_, ns, _⟩ := (show ObjOk X.prog X.w H s.heap _ (.dK []) from I.hok _ _ e)
    cases rd with
    | dict h1 h2 h3 h4 h5 =>
      rename_i es ep as1 bs1
      cases h4' : es.toList with
      | nil =>
        rw [h4'] at h4 h5
        cases h4; cases h5
        refine fin _ (.dict h1 h2 h3 (by rw [h4']; exact .nil) (by rw [h4']; exact .nil)) fun _ m => ?_
        rcases List.mem_cons.mp m with z | z
        · rw [← z] at ns; simp at ns
        · cases z
      | cons y ys => rw [h4'] at h4; cases h4
/-! ### own errors with one argument, kept as value -/
structure ExcCls (K : PySem.W.Frag) (mg : Str → Option Value) (x : Str) (C fI : Addr) : Prop where
  gC : mg x = some (.ref C)
  T : OexC K C
  nv : PySem.W.findIn K (.ref C) "value" = some none
  iC : PySem.W.findIn K (.ref C) "__init__" = some (some (.ref fI))
  tI : PySem.W.typeIn K (.ref fI) = some (.type "function")
  xf : XfC K C
  te : PySem.W.exmOne K (.ref C) (.ref C) = some true
theorem exm_own {K : PySem.W.Frag} {C : Addr} (a : PySem.W.subIn K (.ref C) (.type "BaseException") = some true) (b : PySem.W.isClsIn K C = true) (c : PySem.W.typeIn K (.ref C) = some (.type "type")) (d : PySem.W.subIn K (.ref C) (.ref C) = some true) : PySem.W.exmOne K (.ref C) (.ref C) = some true := by
  have b' : (PySem.W.clsIn K C).isSome = true := b
  unfold PySem.W.exmOne PySem.W.kitCls
  simp [a, b', c, d]
abbrev valF (v : V) : List (Str × V) := [(("value" : Str), v)]
def spIni (K : PySem.W.Frag) (C : Addr) : Sp := fun vs H Q _ => ∃ (a : Addr) (v : V), vs = [.ref a, v] ∧ H a = some (exo a C none) ∧ ∀ dx, H dx = none → dx ≠ a → Q .non (upd (upd H dx (exd dx (valF v))) a (exo a C (some dx)))
structure ExcR (P : Program) (w : World) (K : PySem.W.Frag) (mg : Str → Option Value) (base : Heap) (x : Str) (C : Addr) : Prop where
  cls : ∃ (fI : Addr) (fd : FuncData), ExcCls K mg x C fI ∧ Binds K fd ["self", "value"] [] ∧ FnOk P w K mg base CX0 1 fI fd ["self", "value"] (spIni K C)
theorem ok_ini {P : Program} {w : World} {K : PySem.W.Frag} {mg : Str → Option Value} {base : Heap} {st : Stmt} {q : Str} {f C : Addr} {fd : FuncData} (F : Fun K "__init__" q st f fd) (sc : FnScope ["self", "value"] ["self", "value"] (defScope st))
    (hb : ∃ p1 p2 p3 p4, defBody st = [.Assign [.Attribute (.Name "self" p1) "value" p2] (.Name "value" p3) p4]) (T : OexC K C) (nv : PySem.W.findIn K (.ref C) "value" = some none) : FnOk P w K mg base CX0 1 f fd ["self", "value"] (spIni K C) := by
  refine F.ok sc (fun vs H Q E h => ?_) (fun cdv A outer s H vs Q E hr h => ?_)
  · obtain ⟨a, v, rfl, _⟩ := h
    rfl
  · obtain ⟨a, v, rfl, ha, k⟩ := h
    obtain ⟨p1, p2, p3, p4, eb⟩ := hb
    rw [eb]
    have v0 : Vis (defScope st) "self" := (sc.par "self" (by simp)).elim Or.inl fun z => Or.inr (Or.inl z)
    have v1 : Vis (defScope st) "value" := (sc.par "value" (by simp)).elim Or.inl fun z => Or.inr (Or.inl z)
    refine ⟨_, pss_one (ps_ost (pv 0 rfl v0) (pv 1 rfl v1)), ?_⟩
    exact ⟨_, rfl, _, rfl, a, C, rfl, T, nv, .inl ⟨ha, fun dx hd hn => k dx hd hn⟩⟩
/-- what is wished where such an error is made -/
def MkG (K : PySem.W.Frag) (C : Addr) (v : V) (H1 : Hp) (R : XK) : Prop := [v].length ≤ 1000 ∧ ∀ a, H1 a = none → spIni K C (.ref a :: ([v] ++ [])) (upd H1 a (exo a C none))
  (fun z H2 => z = .non ∧ ∃ (d : Addr) (fs : List (Str × V)), H2 a = some (exo a C (some d)) ∧ H2 d = some (exd d fs) ∧ H1 d = none ∧ R (.ref C) (some d) (upd (del H2 a) d (.xd fs))) (fun _ _ _ => False)
theorem r_mk {K : PySem.W.Frag} {C : Addr} {v : V} {H : Hp} {R : XK} (q : ∀ d H2, H d = none → Same H H2 → H2 d = some (.xd (valF v)) → R (.ref C) (some d) H2) : MkG K C v H R := by
  refine ⟨by simp, fun a ha => ⟨a, v, rfl, upd_same, fun dx hd hn => ⟨rfl, dx, valF v, upd_same, by rw [upd_ne hn, upd_same], ?_, ?_⟩⟩⟩
  · rw [upd_ne hn] at hd
    exact hd
  · rw [upd_ne hn] at hd
    refine q dx _ hd (fun b o e => ?_) upd_same
    have n1 := ne_of_none e hd
    have n2 := ne_of_none e ha
    rw [upd_ne n1, del_ne n2, upd_ne n2, upd_ne n1, upd_ne n2]
    exact e
def tRaiseV (K : PySem.W.Frag) (C : Addr) (W : WX) (te : TE) : TS := fun _ σ H => te σ H fun v H1 => MkG K C v H1 fun cls d H' => W cls d σ H'
theorem ps_raiseV {X : Cx} {K : PySem.W.Frag} {x : Str} {C : Addr} {W : WX} {e : Expr} {te : TE} {p pos pos2 : Pos} (R : ExcR X.prog X.w K X.mg X.base x C) (tk : Takes X W) (hr : Room 2 X.A) (he : PE X e te) (eK : X.K = K := by rfl) (hc : X.calm = true := by rfl) (hg : Gl X x := by rfl)
    (hdb : (x == ("__debug__" : Str)) = false := by decide) (hs : starEach (e :: []) X.env = (false, eval e X.env) :: starEach [] X.env := by rfl) (hpl : (backTo pos (starEach [] X.env)).any (·.1) = false := by rfl) :
    PS X (.Raise (some (.Call (.Name x p) [e] [] pos)) none pos2) (tRaiseV K C W te) := by
  subst eK
  obtain ⟨fI, fd, c, b, F1⟩ := R.cls
  exact ps_raise hc tk (pmk_oex (p := p) c.T c.iC c.tI F1 hr b .nil pass0 hg c.gC (pa_cons he pa_nil hs) hdb hs hpl)
theorem r_raise {K : PySem.W.Frag} {C : Addr} {W : WX} {te : TE} {D : Ends} {σ : L2.St} {H : Hp} (h : te σ H fun v H1 => MkG K C v H1 fun cls d H' => W cls d σ H') : tRaiseV K C W te D σ H := h
/-! ### isinstance of the caught error, where it is one -/
section
open PySem.W
variable {prog : Program} {w : World} {A : Around} {E : Value → Shared → Prop} {Q : Value → Shared → Prop} {s : Shared} {K : PySem.W.Frag} {x D : Addr} {ox : Obj} {od : Option Obj} {c : Value}
theorem isi_yes (X : K.In s.heap) (I : InstAt s.heap x ox D od) (ht : ∀ h : Heap, K.In h → Looks (model prog w) h (typeOf c) (.type "type")) (hi : ∀ h : Heap, K.In h → Looks (model prog w) h (isType c) true) (hs : subIn K (.ref D) c = some true) (q : Q (.bool true) s) :
    wpAny (model prog w) A (call (.builtin "isinstance") [.ref x, c]) Q E s := by
  refine PyProof.Rows.call_isinstance_of ?_ (fun z => nomatch z)
  unfold Builtin.«isinstance.nested»
  have L0 := I.type (M := model prog w)
  refine wpAny_bind (m := typeOf (.ref x)) (L0.at ?_)
  show wpAny _ _ (if (Value.ref D == c) = true then _ else _) _ _ s
  by_cases he : (Value.ref D == c) = true
  · rw [if_pos he]
    repeat (first | refine wpAny_pure ?_ | refine wpAny_rule ?_ | refine wpAny_bind ?_)
    exact q
  · rw [if_neg he]
    refine wpAny_bind (m := typeOf c) ((ht _ X).at ?_)
    show wpAny _ _ (if (Value.type "type" == Value.type "type") = true then _ else _) _ _ s
    rw [if_pos (by decide)]
    refine wpAny_bind (wpAny_bind (m := isType c) ((hi _ X).at ?_))
    have L9 : Looks (model prog w) s.heap (isInstance (.ref x) c) true := L0.andThen (looks_subIn X hs)
    refine wpAny_bind (m := isInstance (.ref x) c) (L9.at ?_)
    exact wpAny_pure (a := true) (wpAny_pure q)
theorem isType_ref {C : Addr} (hd : hasDictIn K C = true) (h : Heap) (X : K.In h) : Looks (model prog w) h (isType (.ref C)) true := by
  obtain ⟨cd, hc, _⟩ := any_some hd
  unfold clsIn at hc
  split at hc
  · rename_i c' d' cd' sl' ho
    intro A' Q' E' s' k q
    unfold isType
    unfold loadHead
    exact wpAny_bind (wpAny_loadPart (k _ _ (X _ _ ho)) (wpAny_pure q))
  · cases hc
end
/-- isinstance(e, c) is True -/
def rIsE1 (K : PySem.W.Frag) (D a : Addr) (dd : Addr) : List V → Hp → VK → Prop := fun xs H Q => ∃ (c : V) (cv : Value) (fs : List (Str × V)), xs = [.ref a, c] ∧ H dd = some (.xd fs) ∧ (∀ u, RelV c u → u = cv) ∧
  (PySem.W.typeIn K cv = some (.type "type") ∨ typeOf cv = pure (.type "type")) ∧ ((∃ n, cv = .type n) ∨ ∃ C, cv = .ref C ∧ PySem.W.hasDictIn K C = true) ∧ PySem.W.subIn K (.ref D) cv = some true ∧ Q (.bl true) H
theorem call_isE1 {X : Cx} {K : PySem.W.Frag} {a D dd : Addr} {oe : Obj} {pn : List (Addr × Obj)} (hz : Zc (.ref D) (some dd) oe) (hf : ∃ vs, oe.data = .fields vs) (eK : X.K = K := by rfl) : CallR (X.suite a ((a, oe) :: pn)) (.builtin "isinstance") (rIsE1 K D a dd) := by
  subst eK
  intro pins s σ H xs us Q I r h
  obtain ⟨c, cv, fs, rfl, hx, hcv, ht, hk, hs, q⟩ := h
  obtain ⟨u1, u2, rfl, r1, r2⟩ := vals2 r
  cases r1
  obtain rfl := hcv _ r2
  obtain ⟨hget, _⟩ := I.pin (a, oe) (List.mem_append.mpr (.inl List.mem_cons_self))
  obtain ⟨vs, hv⟩ := hf
  obtain ⟨mA, hns, _⟩ := (show ObjOk X.prog X.w H s.heap dd (.xd fs) from I.hok dd _ hx)
  obtain ⟨od, ho, _⟩ := lookIn_ns hns
  have J : PySem.W.InstAt s.heap a oe D (some od) := ⟨hget, hz.1, by unfold PySem.W.notCls; rw [hv] <;> rfl, by rw [hz.2]; exact ho⟩
  refine isi_yes I.kIn J (fun h Xh => ht.elim (fun e => PySem.W.looks_typeIn Xh e) fun e => PySem.W.Looks.of_pure e) ?_ hs ⟨.bl true, H, I, rfl, q⟩
  rcases hk with ⟨n, rfl⟩ | ⟨C, rfl, hd⟩
  · exact fun _ _ => PySem.W.Looks.of_pure rfl
  · exact isType_ref hd
end Tk

set_option Elab.async false
set_option linter.all false
set_option maxRecDepth 100000
set_option maxHeartbeats 4000000
/-! an entry as text: what is written is read back, and nothing else is -/
namespace TkM
open PySem PySem.StrLaws PySem.Builtin.Str SX
open TL (spl par joinL numL)
def esc (v : List Nat) : List Nat := v.flatMap fun c => if c = 92 ∨ c = 34 then [92, c] else [c]
def esc1 (v : List Nat) : List Nat := v.flatMap fun c => if c = 92 then [92, 92] else [c]
theorem esc_cons (c : Nat) (v : List Nat) : esc (c :: v) = (if c = 92 ∨ c = 34 then [92, c] else [c]) ++ esc v := by
  unfold esc
  rw [List.flatMap_cons]
theorem esc1_cons (c : Nat) (v : List Nat) : esc1 (c :: v) = (if c = 92 then [92, 92] else [c]) ++ esc1 v := by
  unfold esc1
  rw [List.flatMap_cons]
theorem repl1 (a : Nat) (z : List Nat) : ∀ l : List Nat, replL [a] z l = l.flatMap fun c => if c = a then z else [c]
  | [] => by rw [replL_nil]; rfl
  | c :: r => by
    rw [List.flatMap_cons]
    by_cases e : c = a
    · subst e
      rw [if_pos rfl, replL_hit (by simp) (by simp), ← repl1 c z r]
      rfl
    · rw [if_neg e, replL_miss (by simp [e]), repl1 a z r]
      rfl
theorem esc_repl (v : List Nat) : replL [34] [92, 34] (replL [92] [92, 92] v) = esc v := by
  rw [repl1, repl1, List.flatMap_assoc]
  unfold esc
  congr 1
  funext c
  by_cases e : c = 92
  · subst e; rfl
  · by_cases e2 : c = 34
    · subst e2; rfl
    · simp [e, e2]
theorem esc_head : ∀ (v : List Nat) (r : List Nat), esc v ≠ 34 :: r
  | [], _ => by intro h; cases h
  | c :: v, r => by
    rw [esc_cons]
    by_cases e : c = 92 ∨ c = 34
    · rw [if_pos e]
      intro h
      injection h with h1 _
      omega
    · rw [if_neg e]
      intro h
      injection h with h1 _
      omega
theorem back1 : ∀ v : List Nat, replL [92, 34] [34] (esc v) = esc1 v
  | [] => replL_nil
  | c :: v => by
    have ih := back1 v
    rw [esc_cons, esc1_cons]
    by_cases e : c = 92
    · subst e
      rw [if_pos (.inl rfl), if_pos rfl]
      show replL [92, 34] [34] (92 :: 92 :: esc v) = 92 :: 92 :: esc1 v
      rw [replL_miss (by simp), replL_miss, ih]
      intro h
      cases ev : esc v with
      | nil => rw [ev] at h; cases h
      | cons d r =>
        rw [ev] at h
        have h2 : [92, d] = [92, 34] := h
        injection h2 with _ h3
        injection h3 with h4 _
        exact esc_head v r (by rw [ev, h4])
    · by_cases e2 : c = 34
      · subst e2
        rw [if_pos (.inr rfl), if_neg e]
        show replL [92, 34] [34] (92 :: 34 :: esc v) = 34 :: esc1 v
        rw [replL_hit (by simp) (by simp)]
        show [34] ++ replL [92, 34] [34] (esc v) = _
        rw [ih]
        rfl
      · rw [if_neg (by omega), if_neg e]
        show replL [92, 34] [34] (c :: esc v) = c :: esc1 v
        rw [replL_miss (by
          intro h
          have h2 : c = 92 := by
            cases ev : esc v with
            | nil => rw [ev] at h; cases h
            | cons d r =>
              rw [ev] at h
              have h2 : [c, d] = [92, 34] := h
              injection h2
          exact e h2), ih]
theorem back2 : ∀ v : List Nat, replL [92, 92] [92] (esc1 v) = v
  | [] => replL_nil
  | c :: v => by
    have ih := back2 v
    rw [esc1_cons]
    by_cases e : c = 92
    · subst e
      rw [if_pos rfl]
      show replL [92, 92] [92] (92 :: 92 :: esc1 v) = _
      rw [replL_hit (by simp) (by simp)]
      show [92] ++ replL [92, 92] [92] (esc1 v) = _
      rw [ih]
      rfl
    · rw [if_neg e]
      show replL [92, 92] [92] (c :: esc1 v) = c :: v
      rw [replL_miss (by
        intro h
        have h2 : c = 92 := by
          cases ev : esc1 v with
          | nil => rw [ev] at h; cases h
          | cons d r =>
            rw [ev] at h
            have h2 : [c, d] = [92, 92] := h
            injection h2
        exact e h2), ih]
theorem esc_back (v : List Nat) : replL [92, 92] [92] (replL [92, 34] [34] (esc v)) = v := by rw [back1, back2]
/-! ### the careful reader of a value -/
def vr : List Nat → List Nat → Option (List Nat)
  | [], found => some found
  | [c], found => if c = 34 ∨ c = 92 then none else some (found ++ [c])
  | c :: d :: r, found => if c = 34 then none else if c = 92 then (if d = 92 ∨ d = 34 then vr r (found ++ [d]) else none) else vr (d :: r) (found ++ [c])
theorem vr_esc : ∀ (v found : List Nat), vr (esc v) found = some (found ++ v)
  | [], found => by
    show some found = some (found ++ [])
    rw [List.append_nil]
  | c :: v, found => by
    have ih := vr_esc v (found ++ [c])
    rw [List.append_assoc] at ih
    rw [esc_cons]
    by_cases e : c = 92 ∨ c = 34
    · rw [if_pos e]
      show vr (92 :: c :: esc v) found = _
      unfold vr
      rw [if_neg (by decide), if_pos rfl, if_pos e, ih]
      rfl
    · rw [if_neg e]
      show vr (c :: esc v) found = _
      cases ev : esc v with
      | nil =>
        rw [ev] at ih
        unfold vr
        rw [if_neg (by omega)]
        have : v = [] := by
          cases v with
          | nil => rfl
          | cons d v => rw [esc_cons] at ev; split at ev <;> cases ev
        subst this
        rfl
      | cons d r =>
        rw [ev] at ih
        unfold vr
        rw [if_neg (by omega), if_neg (by omega), ih]
        rfl
theorem vr_back : ∀ (n : Nat) (t found w : List Nat), t.length ≤ n → vr t found = some w → ∃ v, w = found ++ v ∧ esc v = t
  | _, [], found, w, _, h => by
    have h2 : some found = some w := h
    injection h2 with h3
    exact ⟨[], by rw [List.append_nil]; exact h3.symm, rfl⟩
  | _, [c], found, w, _, h => by
    unfold vr at h
    by_cases e : c = 34 ∨ c = 92
    · rw [if_pos e] at h; cases h
    · rw [if_neg e] at h
      injection h with h3
      refine ⟨[c], h3.symm, ?_⟩
      rw [esc_cons, if_neg (by omega)]
      rfl
  | n + 1, c :: d :: r, found, w, hl, h => by
    unfold vr at h
    simp only [List.length_cons] at hl
    by_cases e : c = 34
    · rw [if_pos e] at h; cases h
    · rw [if_neg e] at h
      by_cases e2 : c = 92
      · rw [if_pos e2] at h
        by_cases e3 : d = 92 ∨ d = 34
        · rw [if_pos e3] at h
          obtain ⟨v, h1, h2⟩ := vr_back n r _ _ (by omega) h
          refine ⟨d :: v, by rw [h1, List.append_assoc]; rfl, ?_⟩
          rw [esc_cons, if_pos e3, h2, e2]
          rfl
        · rw [if_neg e3] at h; cases h
      · rw [if_neg e2] at h
        obtain ⟨v, h1, h2⟩ := vr_back n (d :: r) _ _ (by simp only [List.length_cons]; omega) h
        refine ⟨c :: v, by rw [h1, List.append_assoc]; rfl, ?_⟩
        rw [esc_cons, if_neg (by omega), h2]
        rfl
  | 0, _ :: _ :: _, _, _, h, _ => by simp at h
/-! ### numbers -/
theorem num_back {a : List Nat} (h : NumText.AllDigits a) (h0 : ∃ c r, a = c :: r ∧ c ≠ 48) : numL (NumText.digitsVal a) = a := by
  obtain ⟨c, r, rfl, h1⟩ := h0
  have hc := h.head
  show (Nat.toDigits 10 (NumText.digitsVal (c :: r))).map Char.toNat = c :: r
  rw [NumText.toDigits_digitsVal r.length (c :: r) rfl h (.inr ⟨c, r, rfl, by omega⟩), List.map_map]
  refine (List.map_congr_left fun d hd => ?_).trans (List.map_id _)
  have := h d hd
  show (Char.ofNat d).toNat = d
  have key : ∀ d : Nat, d < 58 → (Char.ofNat d).toNat = d := by decide
  exact key d (by omega)
theorem numL_head {n : Nat} (h : 1 ≤ n) : ∃ c r, numL n = c :: r ∧ c ≠ 48 := by
  induction n using Nat.strongRecOn with
  | _ n ih =>
    by_cases hn : n < 10
    · rw [TL.numL_lt hn]
      exact ⟨_, _, rfl, by omega⟩
    · rw [TL.numL_step (by omega)]
      obtain ⟨c, r, e, h1⟩ := ih (n / 10) (by omega) (by omega)
      exact ⟨c, r ++ [48 + n % 10], by rw [e]; rfl, h1⟩
end TkM

set_option Elab.async false
set_option linter.all false
set_option maxRecDepth 100000
set_option maxHeartbeats 4000000
/-! split at most twice; numbers as text; an entry read and written -/
namespace TkM
open PySem PySem.StrLaws PySem.Builtin PySem.Builtin.Str SX Tk
open TL (spl par joinL numL tl)
/-! ### occurrences, at most so many -/
theorem occ_most (s sub : Str) (hi most lo : Nat) (hw : 1 ≤ sub.length) : ∀ (m cur : Nat) (p : Array Nat × Nat), ChainG s sub hi lo p.1.toList p.2 → (p.1.size < most → ∀ k, p.2 ≤ k → k < cur → ¬ At s sub hi k) →
    ∃ q : Array Nat × Nat, (forIn (List.range' cur m) p (occBody s sub hi most)).run = q ∧ ChainG s sub hi lo q.1.toList q.2 ∧ (q.1.size < most → ∀ k, q.2 ≤ k → k < cur + m → ¬ At s sub hi k)
  | 0, cur, p, g, no => ⟨p, rfl, g, no⟩
  | m + 1, cur, p, g, no => by
    rw [List.range'_succ, List.forIn_cons, show cur + (m + 1) = cur + 1 + m by omega]
    unfold occBody
    split
    · rename_i c
      obtain ⟨⟨⟨c1, c2⟩, c3⟩, c4⟩ := c
      refine occ_most s sub hi most lo hw m (cur + 1) (p.1.push cur, cur + sub.length) ?_ ?_
      · show ChainG s sub hi lo (p.1.push cur).toList _
        rw [Array.toList_push]
        exact chainG_snoc g c2 ⟨c3, c4⟩ (no c1)
      · intro _ k k1 k2
        have k1' : cur + sub.length ≤ k := k1
        omega
    · rename_i c
      refine occ_most s sub hi most lo hw m (cur + 1) p g ?_
      intro z k k1 k2 at_k
      rcases Nat.lt_or_ge k cur with q | q
      · exact no z k k1 q at_k
      · obtain rfl : k = cur := by omega
        exact c ⟨⟨⟨z, k1⟩, at_k.1⟩, at_k.2⟩
theorem occ_two (x y : Str) (most : Nat) (hw : 1 ≤ y.length) : ∃ f, ChainG x y x.length 0 (occurrences x y 0 x.length most) f ∧ ((occurrences x y 0 x.length most).length < most → ∀ k, f ≤ k → ¬ At x y x.length k) := by
  rw [occ_eq]
  obtain ⟨q, e, g, no⟩ := occ_most x y x.length most 0 hw (x.length + 1 - 0) 0 ((#[] : Array Nat), 0) rfl (fun _ k _ z => by omega)
  refine ⟨q.2, ?_, ?_⟩
  · rw [e]; exact g
  · rw [e]
    intro z k k1 a
    exact no (by rw [← Array.length_toList]; exact z) k k1 (by have := a.1; omega) a
/-- parts, at most three -/
theorem split2_few (x : Str) (c : Nat) : (Txt.splitMax x (S [c]) 2).length ≤ 3 := by
  unfold Txt.splitMax
  split
  · exact Nat.le_add_left 1 2
  · split
    · exact Nat.le_add_left 1 2
    · rw [length_partsBetween]
      have : (occurrences x (S [c]) 0 x.length (limitOf x 2)).length ≤ limitOf x 2 := occ_length_le _ _ _ _ _
      have e : limitOf x 2 = 2 := rfl
      omega
theorem first_at {L : List Nat} {c f : Nat} {p r : List Nat} (x : Str) (ex : x = S L) (hp : c ∉ p) (e : L.drop f = p ++ c :: r) {k : Nat} (k1 : f ≤ k) (at_k : At x (S [c]) x.length k) (no : ∀ j, f ≤ j → j < k → ¬ At x (S [c]) x.length j) : k = f + p.length := by
  subst ex
  have is : ∀ j, At (S L) (S [c]) (S L).length j ↔ L[j]? = some c := subAt_one (S L) c
  have g : ∀ j, L[f + j]? = (p ++ c :: r)[j]? := fun j => by rw [← e, List.getElem?_drop]
  have here : At (S L) (S [c]) (S L).length (f + p.length) := (is _).mpr (by rw [g, List.getElem?_append_right (Nat.le_refl _), Nat.sub_self]; rfl)
  rcases Nat.lt_trichotomy k (f + p.length) with q | q | q
  · have z := (is k).mp at_k
    rw [show k = f + (k - f) by omega, g, List.getElem?_append_left (by omega)] at z
    exact absurd (List.mem_of_getElem? z) hp
  · exact q
  · exact absurd here (no _ (by omega) q)
theorem split2 {p q r : List Nat} {c : Nat} (hc : c < 256) (hp : c ∉ p) (hq : c ∉ q) : Txt.splitMax (S (p ++ c :: (q ++ c :: r))) (S [c]) 2 = [S p, S q, S r] := by
  obtain ⟨f, g, no⟩ := occ_two (S (p ++ c :: (q ++ c :: r))) (S [c]) 2 (Nat.le_refl _)
  have lim : limitOf (S (p ++ c :: (q ++ c :: r))) 2 = 2 := rfl
  have hl : (S (p ++ c :: (q ++ c :: r))).length = p.length + (q.length + (r.length + 1) + 1) := by rw [S_len]; simp only [List.length_append, List.length_cons]
  have is : ∀ j, At (S (p ++ c :: (q ++ c :: r))) (S [c]) (S (p ++ c :: (q ++ c :: r))).length j ↔ (p ++ c :: (q ++ c :: r))[j]? = some c := subAt_one _ c
  have d1 : (p ++ c :: (q ++ c :: r)).drop (p.length + 1) = q ++ c :: r := by rw [← List.drop_drop, List.drop_left]; rfl
  have d2 : (p ++ c :: (q ++ c :: r)).drop (p.length + 1 + q.length + 1) = r := by rw [← List.drop_drop, ← List.drop_drop, d1, List.drop_left]; rfl
  have a1 : At (S (p ++ c :: (q ++ c :: r))) (S [c]) (S (p ++ c :: (q ++ c :: r))).length p.length := (is _).mpr (by rw [List.getElem?_append_right (Nat.le_refl _), Nat.sub_self]; rfl)
  have a2 : At (S (p ++ c :: (q ++ c :: r))) (S [c]) (S (p ++ c :: (q ++ c :: r))).length (p.length + 1 + q.length) := (is _).mpr (by rw [← List.getElem?_drop, d1, List.getElem?_append_right (Nat.le_refl _), Nat.sub_self]; rfl)
  have key : occurrences (S (p ++ c :: (q ++ c :: r))) (S [c]) 0 (S (p ++ c :: (q ++ c :: r))).length 2 = [p.length, p.length + 1 + q.length] := by
    have few : (occurrences (S (p ++ c :: (q ++ c :: r))) (S [c]) 0 (S (p ++ c :: (q ++ c :: r))).length 2).length ≤ 2 := occ_length_le _ _ _ _ _
    generalize occurrences (S (p ++ c :: (q ++ c :: r))) (S [c]) 0 (S (p ++ c :: (q ++ c :: r))).length 2 = cs at g no few
    match cs, g, no, few with
    | [], g, no, _ =>
      have e : f = 0 := g
      exact absurd a1 (no (by decide) _ (by omega))
    | [b], g, no, _ =>
      obtain ⟨g1, g2, g3, g4⟩ := g
      have e : f = b + 1 := g4
      have eb := first_at (L := p ++ c :: (q ++ c :: r)) (f := 0) (p := p) (r := q ++ c :: r) _ rfl hp rfl g1 g2 g3
      exact absurd a2 (no (by simp) _ (by omega))
    | [b, d], g, no, _ =>
      obtain ⟨g1, g2, g3, g4, g5, g6, g7⟩ := g
      have eb := first_at (L := p ++ c :: (q ++ c :: r)) (f := 0) (p := p) (r := q ++ c :: r) _ rfl hp rfl g1 g2 g3
      have e0 : b + (S [c]).length = p.length + 1 := by rw [eb]; show 0 + p.length + 1 = _; omega
      rw [e0] at g4 g6
      have ed := first_at (L := p ++ c :: (q ++ c :: r)) (f := p.length + 1) (p := q) (r := r) _ rfl hq d1 g4 g5 g6
      rw [eb, ed, Nat.zero_add]
    | _ :: _ :: _ :: _, _, _, few => simp at few
  unfold Txt.splitMax
  rw [lim, key, if_neg, if_neg (by simp), partsBetween_eq]
  · show [strSub _ 0 p.length, strSub _ (p.length + 1) (p.length + 1 + q.length), strSub _ (p.length + 1 + q.length + 1) (S (p ++ c :: (q ++ c :: r))).length] = _
    have e1 : strSub (S (p ++ c :: (q ++ c :: r))) 0 p.length = S p := TL.ext_tl (by rw [TL.tl_strSub]; show ((p ++ _).drop 0).take (p.length - 0) = p; rw [List.drop_zero, Nat.sub_zero, List.take_left])
    have e2 : strSub (S (p ++ c :: (q ++ c :: r))) (p.length + 1) (p.length + 1 + q.length) = S q := TL.ext_tl (by
      rw [TL.tl_strSub]
      show ((p ++ c :: (q ++ c :: r)).drop (p.length + 1)).take _ = q
      rw [d1, Nat.add_sub_cancel_left, List.take_left])
    have e3 : strSub (S (p ++ c :: (q ++ c :: r))) (p.length + 1 + q.length + 1) (S (p ++ c :: (q ++ c :: r))).length = S r := TL.ext_tl (by
      rw [TL.tl_strSub_end]
      exact d2)
    rw [e1, e2, e3]
  · rw [Bool.or_eq_true, decide_eq_true_eq, decide_eq_true_eq]
    rintro (z | z)
    · rw [hl] at z
      have : (S [c]).length = 1 := rfl
      omega
    · exact TL.kind_ok (all256 (b := [c]) (by simp [hc])) z
/-! ### numbers -/
theorem ascii_digit {c : Nat} (h : c < 128) : Unicode.isDigit c = (decide (48 ≤ c) && decide (c ≤ 57)) := by
  have key : ∀ c : Fin 128, Unicode.isDigit c.val = (decide (48 ≤ c.val) && decide (c.val ≤ 57)) := by decide +kernel
  exact key ⟨c, h⟩
def digB (c : Nat) : Bool := decide (48 ≤ c) && decide (c ≤ 57)
theorem all_dig : ∀ a : List Nat, (∀ x ∈ a, x < 128) → a.all Unicode.isDigit = a.all digB
  | [], _ => rfl
  | c :: r, h => by
    rw [List.all_cons, List.all_cons, all_dig r fun x hx => h x (List.mem_cons_of_mem _ hx), ascii_digit (h c (List.mem_cons_self ..))]
    rfl
theorem digits_told (a : List Nat) : (Txt.isascii (S a) && Txt.isdigit (S a)) = (!a.isEmpty && a.all digB) := by
  have e1 : Txt.isascii (S a) = a.all fun c => decide (c < 128) := by
    unfold Txt.isascii
    rw [← Array.all_toList]
  have e2 : Txt.isdigit (S a) = (decide (0 < a.length) && a.all Unicode.isDigit) := by
    unfold Txt.isdigit
    rw [← Array.all_toList, S_len]
  have e3 : (!a.isEmpty) = decide (0 < a.length) := by cases a <;> simp
  rw [e1, e2, e3]
  cases h : a.all fun c => decide (c < 128) with
  | true =>
    rw [Bool.true_and, all_dig a fun x hx => of_decide_eq_true (List.all_eq_true.mp h x hx)]
  | false =>
    rw [Bool.false_and]
    symm
    rw [Bool.and_eq_false_iff]
    right
    rw [List.all_eq_false] at h ⊢
    obtain ⟨c, hc, hn⟩ := h
    refine ⟨c, hc, fun z => hn ?_⟩
    unfold digB at z
    simp at z ⊢
    omega
end TkM

set_option Elab.async false
set_option linter.all false
set_option maxRecDepth 100000
set_option maxHeartbeats 4000000
/-! an entry, its text, its two readers -/
namespace TkM
open PySem PySem.StrLaws PySem.Builtin PySem.Builtin.Str SX Tk L2
open TL (spl par joinL numL tl)
abbrev Ent := List Nat × Nat × List Nat × Option (List Nat)
def optV : Option (List Nat) → PyData
  | none => .none
  | some v => .str (S v)
def entD (e : Ent) : PyData := .tuple [.str (S e.1), .tuple [.int e.2.1, .str (S e.2.2.1)], optV e.2.2.2]
def optD : Option Ent → PyData
  | none => .none
  | some e => entD e
def toldL : Option (List Nat) → List Nat
  | none => [45]
  | some v => 34 :: (esc v ++ [34])
def fmtL (e : Ent) : List Nat := e.1 ++ 32 :: ((numL e.2.1 ++ 46 :: e.2.2.1) ++ 32 :: toldL e.2.2.2)
def midL (t : List Nat) : List Nat := (t.drop 1).take (t.length - 2)
def valR (t : List Nat) : Option (Option (List Nat)) :=
  if t = [45] then some none else if t.length < 2 ∨ t.head? ≠ some 34 ∨ t.getLast? ≠ some 34 then none else (vr (midL t) []).map some
def entR (a b w : List Nat) (v : Option (List Nat)) : Option Ent :=
  if (a ≠ [] ∧ a.head? ≠ some 48 ∧ a.length ≤ 16 ∧ a.all digB = true) ∧ entryD (entD (w, NumText.digitsVal a, b, v)) = true then some (w, NumText.digitsVal a, b, v) else none
def readL (t : List Nat) : Option Ent :=
  match spl [32] 0 [] t with
  | w0 :: w1 :: w2 :: ws =>
    match spl [46] 0 [] w1, valR (joinL [32] (w2 :: ws)) with
    | [a, b], some v => entR a b w0 v
    | _, _ => none
  | _ => none
/-! what an entry is -/
structure IsE (e : Ent) : Prop where
  key : wordS (S e.1) = true
  lo : 1 ≤ e.2.1
  hi : e.2.1 ≤ 1000000000000000
  home : wordS (S e.2.2.1) = true
  val : ∀ v, e.2.2.2 = some v → valueS (S v) = true
theorem isE_iff {e : Ent} : entryD (entD e) = true ↔ IsE e := by
  obtain ⟨k, n, h, v⟩ := e
  have num : numD (.int (n : Int)) = true ↔ 1 ≤ n ∧ n ≤ 1000000000000000 := by
    unfold numD
    rw [Bool.and_eq_true, decide_eq_true_eq, decide_eq_true_eq]
    omega
  have val : (noneD (optV v) || valueD (optV v)) = true ↔ ∀ u, v = some u → valueS (S u) = true := by
    cases v with
    | none => exact ⟨fun _ _ z => (nomatch z), fun _ => rfl⟩
    | some u => exact ⟨fun z w e => by cases e; exact z, fun z => z u rfl⟩
  have e0 : entryD (entD (k, n, h, v)) = (wordS (S k) && ((numD (.int (n : Int)) && wordS (S h)) && (noneD (optV v) || valueD (optV v)))) := rfl
  rw [e0, Bool.and_eq_true, Bool.and_eq_true, Bool.and_eq_true, num, val]
  exact ⟨fun ⟨a, ⟨⟨b, c⟩, d⟩, e⟩ => ⟨a, b, c, d, e⟩, fun ⟨a, b, c, d, e⟩ => ⟨a, ⟨⟨b, c⟩, d⟩, e⟩⟩
theorem ent_of {d : PyData} (h : entryD d = true) : ∃ e : Ent, d = entD e := by
  unfold entryD at h
  split at h
  · rename_i k s v
    rw [Bool.and_eq_true, Bool.and_eq_true, Bool.or_eq_true] at h
    obtain ⟨hk, hs, hv⟩ := h
    have ek : ∃ x, k = .str (S x) := by
      unfold wordD at hk
      split at hk
      · rename_i x
        exact ⟨x.cps.toList, by rw [S_tl]⟩
      · cases hk
    have es : ∃ n x, s = .tuple [.int ((n : Nat) : Int), .str (S x)] := by
      unfold stampD at hs
      split at hs
      · rename_i a b
        rw [Bool.and_eq_true] at hs
        obtain ⟨h1, h2⟩ := hs
        unfold numD at h1
        split at h1
        · rename_i i
          rw [Bool.and_eq_true, decide_eq_true_eq, decide_eq_true_eq] at h1
          unfold wordD at h2
          split at h2
          · rename_i x
            refine ⟨i.toNat, x.cps.toList, ?_⟩
            rw [S_tl, Int.toNat_of_nonneg (by omega)]
          · cases h2
        · cases h1
      · cases hs
    have ev : ∃ o, v = optV o := by
      rcases hv with z | z
      · cases v <;> first | exact ⟨none, rfl⟩ | cases z
      · unfold valueD at z
        split at z
        · rename_i x
          exact ⟨some x.cps.toList, by show _ = PyData.str (S _); rw [S_tl]⟩
        · cases z
    obtain ⟨x, rfl⟩ := ek
    obtain ⟨n, y, rfl⟩ := es
    obtain ⟨o, rfl⟩ := ev
    exact ⟨(x, n, y, o), rfl⟩
  · cases h
theorem word_free {x : List Nat} (h : wordS (S x) = true) {c : Nat} (hc : c < 97) : c ∉ x := by
  intro m
  unfold wordS at h
  rw [Bool.and_eq_true] at h
  have := List.all_eq_true.mp h.2 c m
  unfold lowB at this
  rw [Bool.and_eq_true, decide_eq_true_eq] at this
  omega
theorem word_len {x : List Nat} (h : wordS (S x) = true) : 1 ≤ x.length ∧ x.length ≤ 8 := by
  unfold wordS at h
  rw [Bool.and_eq_true, Bool.and_eq_true, decide_eq_true_eq, decide_eq_true_eq, S_len] at h
  omega
theorem value_len {x : List Nat} (h : valueS (S x) = true) : x.length ≤ 40 := by
  unfold valueS at h
  rw [Bool.and_eq_true] at h
  have h1 := h.1
  rw [Bool.not_eq_true', decide_eq_false_iff_not, S_len] at h1
  omega
/-! joined again -/
theorem spl_ne (S0 : List Nat) : ∀ (t acc : List Nat), spl S0 0 acc t ≠ []
  | [], acc => by rw [TL.spl_nil]; simp
  | c :: r, acc => by
    cases h : TL.pre S0 (c :: r) with
    | true => rw [TL.spl_hit h]; simp
    | false => rw [TL.spl_miss h]; exact spl_ne S0 r _
theorem spl_joined (c : Nat) : ∀ (t acc : List Nat), joinL [c] (spl [c] 0 acc t) = acc ++ t
  | [], acc => by
    rw [TL.spl_nil, List.append_nil]
    rfl
  | d :: r, acc => by
    by_cases e : d = c
    · subst e
      rw [TL.spl_hit (by unfold TL.pre; simp)]
      have ih := spl_joined d r []
      cases h : spl [d] 0 [] r with
      | nil => exact absurd h (spl_ne _ _ _)
      | cons x y =>
        rw [h] at ih
        show joinL [d] (acc :: (spl [d] 0 [] r)) = _
        rw [h]
        show acc ++ ([d] ++ joinL [d] (x :: y)) = _
        rw [ih]
        rfl
    · rw [TL.spl_miss (by unfold TL.pre; simp [e]), spl_joined c r, List.append_assoc]
      rfl
theorem mid_back {t : List Nat} (h1 : ¬ t.length < 2) (h2 : t.head? = some 34) (h3 : t.getLast? = some 34) : t = 34 :: (midL t ++ [34]) := by
  cases t with
  | nil => simp at h1
  | cons c r =>
    have e : c = 34 := by simpa using h2
    subst e
    have hr : r ≠ [] := by rintro rfl; simp at h1
    have hl : r.getLast hr = 34 := by
      rw [List.getLast?_eq_some_getLast (by simp), List.getLast_cons hr] at h3
      exact Option.some.inj h3
    have em : midL (34 :: r) = r.dropLast := by
      unfold midL
      rw [List.dropLast_eq_take]
      rfl
    rw [em]
    have := List.dropLast_concat_getLast hr
    rw [hl] at this
    rw [this]
theorem mid_of (m : List Nat) : midL (34 :: (m ++ [34])) = m := by
  unfold midL
  have e : (34 :: (m ++ [34])).length - 2 = m.length := by simp
  rw [e]
  show (m ++ [34]).take m.length = m
  rw [List.take_left]
theorem valR_back {t : List Nat} {v : Option (List Nat)} (h : valR t = some v) : toldL v = t := by
  unfold valR at h
  by_cases e : t = [45]
  · rw [if_pos e] at h
    cases h
    exact e.symm
  · rw [if_neg e] at h
    by_cases e2 : t.length < 2 ∨ t.head? ≠ some 34 ∨ t.getLast? ≠ some 34
    · rw [if_pos e2] at h; cases h
    · rw [if_neg e2] at h
      rw [not_or, not_or] at e2
      obtain ⟨h1, h2, h3⟩ := e2
      cases hv : vr (midL t) [] with
      | none => rw [hv] at h; cases h
      | some w =>
        rw [hv] at h
        cases h
        obtain ⟨u, eu, hu⟩ := vr_back _ _ _ _ (Nat.le_refl _) hv
        rw [List.nil_append] at eu
        subst eu
        show 34 :: (esc w ++ [34]) = t
        rw [hu]
        exact (mid_back h1 (Classical.not_not.mp h2) (Classical.not_not.mp h3)).symm
theorem valR_told (v : Option (List Nat)) : valR (toldL v) = some v := by
  cases v with
  | none => rfl
  | some u =>
    unfold valR toldL
    rw [if_neg (by intro h; injection h with h1 _; omega), if_neg, mid_of, vr_esc, List.nil_append]
    · rfl
    · have e : (34 :: (esc u ++ [34])).getLast? = some 34 := by
        show ((34 :: esc u) ++ [34]).getLast? = _
        rw [List.getLast?_concat]
      rw [e]
      simp
theorem read_back {t : List Nat} {e : Ent} (h : readL t = some e) : IsE e ∧ fmtL e = t := by
  unfold readL at h
  split at h
  · rename_i w0 w1 w2 ws e1
    split at h
    · rename_i a b v e2 e3
      unfold entR at h
      by_cases c : (a ≠ [] ∧ a.head? ≠ some 48 ∧ a.length ≤ 16 ∧ a.all digB = true) ∧ entryD (entD (w0, NumText.digitsVal a, b, v)) = true
      · rw [if_pos c] at h
        cases h
        obtain ⟨⟨c1, c2, c3, c4⟩, c5⟩ := c
        refine ⟨isE_iff.mp c5, ?_⟩
        have ad : NumText.AllDigits a := fun x hx => by
          have := List.all_eq_true.mp c4 x hx
          unfold digB at this
          rw [Bool.and_eq_true, decide_eq_true_eq, decide_eq_true_eq] at this
          exact this
        have na : numL (NumText.digitsVal a) = a := num_back ad (by
          cases a with
          | nil => exact absurd rfl c1
          | cons x y => exact ⟨x, y, rfl, fun z => c2 (by rw [z]; rfl)⟩)
        have j1 := spl_joined 32 t []
        rw [e1] at j1
        have j2 := spl_joined 46 w1 []
        rw [e2] at j2
        show w0 ++ 32 :: ((numL (NumText.digitsVal a) ++ 46 :: b) ++ 32 :: toldL v) = t
        rw [na, valR_back e3]
        have j2' : a ++ 46 :: b = w1 := j2
        rw [j2']
        exact j1
      · rw [if_neg c] at h; cases h
    · cases h
  · cases h
theorem num_len {n : Nat} (h : n ≤ 1000000000000000) : (numL n).length ≤ 16 := TL.numL_len (by decide) (by omega)
theorem read_fmt {e : Ent} (h : IsE e) : readL (fmtL e) = some e := by
  obtain ⟨k, n, m, v⟩ := e
  have k1 : 32 ∉ k := word_free h.key (by decide)
  have m1 : 32 ∉ m := word_free h.home (by decide)
  have m2 : 46 ∉ m := word_free h.home (by decide)
  have lo : 1 ≤ n := h.lo
  have hi : n ≤ 1000000000000000 := h.hi
  have n1 : 32 ∉ numL n := TL.numL_free (by decide)
  have n2 : 46 ∉ numL n := TL.numL_free (by decide)
  have s1 : 32 ∉ numL n ++ 46 :: m := by
    intro z
    rcases List.mem_append.mp z with z | z
    · exact n1 z
    · rcases List.mem_cons.mp z with z | z
      · cases z
      · exact m1 z
  have e1 : spl [32] 0 [] (fmtL (k, n, m, v)) = k :: (numL n ++ 46 :: m) :: spl [32] 0 [] (toldL v) := by
    show spl [32] 0 [] (k ++ ([32] ++ ((numL n ++ 46 :: m) ++ ([32] ++ toldL v)))) = _
    rw [TL.spl_part1 k1, TL.spl_part1 s1]
    rfl
  have e2 : spl [46] 0 [] (numL n ++ 46 :: m) = [numL n, m] := by
    show spl [46] 0 [] (numL n ++ ([46] ++ m)) = _
    rw [TL.spl_part1 n2, TL.spl_last1 m2]
    rfl
  have e3 := spl_joined 32 (toldL v) []
  rw [List.nil_append] at e3
  have ne := spl_ne [32] (toldL v) []
  unfold readL
  rw [e1]
  cases h0 : spl [32] 0 [] (toldL v) with
  | nil => exact absurd h0 ne
  | cons x y =>
    rw [h0] at e3
    show (match spl [46] 0 [] (numL n ++ 46 :: m), valR (joinL [32] (x :: y)) with
      | [a, b], some v => entR a b k v
      | _, _ => none) = _
    rw [e2, e3, valR_told]
    show entR (numL n) m k v = _
    unfold entR
    rw [TL.numL_val, if_pos]
    refine ⟨⟨TL.numL_ne n, ?_, num_len hi, ?_⟩, isE_iff.mpr h⟩
    · obtain ⟨c, r, e, q⟩ := numL_head lo
      rw [e]
      intro z
      exact q (by simpa using z)
    · refine List.all_eq_true.mpr fun c hc => ?_
      have := TL.numL_digits n c hc
      unfold digB
      rw [Bool.and_eq_true, decide_eq_true_eq, decide_eq_true_eq]
      exact this
theorem read_iff {t : List Nat} {e : Ent} : readL t = some e ↔ IsE e ∧ fmtL e = t := ⟨read_back, fun ⟨a, b⟩ => b ▸ read_fmt a⟩
/-! ### the quick reader -/
def likN (a : Str) : PyData := if decide ((16 : Int) < (a.length : Int)) || !(Txt.isascii a && Txt.isdigit a) then .none else .int (NumText.digitsVal a.cps.toList)
def unq (x : Str) : Str := Txt.replace (Txt.replace (cutS x (some 1) (some (-1))) (S [92, 34]) (S [34])) (S [92, 92]) (S [92])
def likT (k st told : Str) : PyData := .tuple [.str k, .tuple [likN (Txt.partition st (S [46])).1, .str (Txt.partition st (S [46])).2.2], if (told == S [45]) = true then .none else .str (unq told)]
def likE (x : Str) : PyData :=
  match Txt.splitMax x (S [32]) 2 with
  | [k, st, told] => likT k st told
  | _ => .none
theorem unq_told (u : List Nat) : unq (S (34 :: (esc u ++ [34]))) = S u := by
  have c : cutS (S (34 :: (esc u ++ [34]))) (some 1) (some (-1)) = S (esc u) := by
    refine TL.ext_tl ?_
    have l : (S (34 :: (esc u ++ [34]))).length = (esc u).length + 2 := by rw [S_len]; simp
    have i1 : HT.sIx (S (34 :: (esc u ++ [34]))).length 0 (some 1) = 1 := by rw [l]; unfold HT.sIx; simp
    have i2 : HT.sIx (S (34 :: (esc u ++ [34]))).length (S (34 :: (esc u ++ [34]))).length (some (-1)) = (esc u).length + 1 := by rw [l]; unfold HT.sIx; simp; omega
    unfold cutS
    rw [i1, i2]
    show (((34 :: (esc u ++ [34])).drop 1).take ((esc u).length + 1 - 1)) = esc u
    rw [Nat.add_sub_cancel]
    show (esc u ++ [34]).take (esc u).length = _
    rw [List.take_left]
  unfold unq
  rw [c]
  refine TL.ext_tl ?_
  show (Txt.replace (Txt.replace (S (esc u)) (S [92, 34]) (S [34])) (S [92, 92]) (S [92])).cps.toList = u
  rw [replace_list (by decide), replace_list (by decide)]
  exact esc_back u
theorem lik_fmt {e : Ent} (h : IsE e) : likE (S (fmtL e)) = entD e := by
  obtain ⟨k, n, m, v⟩ := e
  have k1 : 32 ∉ k := word_free h.key (by decide)
  have m1 : 32 ∉ m := word_free h.home (by decide)
  have n1 : 32 ∉ numL n := TL.numL_free (by decide)
  have n2 : 46 ∉ numL n := TL.numL_free (by decide)
  have hi : n ≤ 1000000000000000 := h.hi
  have s1 : 32 ∉ numL n ++ 46 :: m := by
    intro z
    rcases List.mem_append.mp z with z | z
    · exact n1 z
    · rcases List.mem_cons.mp z with z | z
      · cases z
      · exact m1 z
  unfold likE
  have e1 : Txt.splitMax (S (fmtL (k, n, m, v))) (S [32]) 2 = [S k, S (numL n ++ 46 :: m), S (toldL v)] := split2 (by decide) k1 s1
  rw [e1]
  show likT (S k) (S (numL n ++ 46 :: m)) (S (toldL v)) = _
  unfold likT
  have e2 : Txt.partition (S (numL n ++ 46 :: m)) (S [46]) = (S (numL n), S [46], S m) := partition_some (by simp) (TL.par_part1 (S := []) (acc := []) n2)
  have e3 : likN (S (numL n)) = .int n := by
    unfold likN
    have al : (numL n).all digB = true := List.all_eq_true.mpr fun c hc => by
      have := TL.numL_digits n c hc
      unfold digB
      rw [Bool.and_eq_true, decide_eq_true_eq, decide_eq_true_eq]
      exact this
    have ne : (numL n).isEmpty = false := by
      cases z : numL n with
      | nil => exact absurd z (TL.numL_ne n)
      | cons _ _ => rfl
    have hl := num_len hi
    rw [digits_told, al, ne, if_neg]
    · show PyData.int (NumText.digitsVal (numL n)) = _
      rw [TL.numL_val]
    · rw [S_len]
      simp
      omega
  rw [e2, e3]
  have e4 : (if (S (toldL v) == S [45]) = true then PyData.none else PyData.str (unq (S (toldL v)))) = optV v := by
    cases v with
    | none => rfl
    | some u =>
      rw [if_neg]
      · show PyData.str (unq (S (34 :: (esc u ++ [34])))) = _
        rw [unq_told]
        rfl
      · rw [S_beq]
        intro z
        have := eq_of_beq z
        injection this with q _
        cases q
  rw [e4]
  rfl
/-- what the program's reader tells is what the careful one tells -/
theorem parse_none {t : List Nat} (h : readL t = none) : ¬ ∃ e : Ent, IsE e ∧ fmtL e = t := fun ⟨e, a, b⟩ => by
  rw [read_iff.mpr ⟨a, b⟩] at h
  cases h
end TkM

set_option Elab.async false
set_option linter.all false
set_option maxRecDepth 100000
set_option maxHeartbeats 4000000
/-! texts: written texts out (replace), f-strings, split, partition; calls that may raise, in a try -/
namespace Tk
open PySem PySem.Spec PyProof.Rows L2 CwR
section
variable {X : Cx} {te : TE} {e : Expr} {pos : Pos}
/-- name = value, a token out -/
theorem pst_set {i : Nat} {x : Str} {pos' : Pos} (hN : X.N.Nodup) (hi : X.N[i]? = some x) (hx : Loc X.env.scope x) (he : PET X e te) (hs : swapsWith e (some (.Name x pos')) pos.line X.env = pure false := by rfl)
    (hf : X.fn x = true ∨ X.env.scope.names.lookup x = some .local := by first | exact .inl rfl | exact .inr rfl | assumption) : PST X (.Assign [.Name x pos'] e pos) (tAsg te (gName i)) := by
  intro pn s σ H D h0 I h
  refine wpAny_Assign_Name (thn (he pn s σ H _ h0 I h) fun v s1 hv => ?_) hs
  obtain ⟨y, H1, I1, r1, q1⟩ := hv
  exact store_ok I1 hN hi hx r1 (fun s2 I2 => ⟨_, H1, I2, q1⟩) hf
end
/-- a def with parameters, none of them in a cell: when it begins a token is out -/
theorem Fun_okT {P : Program} {w : World} {K : PySem.W.Frag} {mg : Str → Option Value} {base : Heap} {k : Nat} {x qual : Str} {st : Stmt} {f : Addr} {fd : FuncData} {N ps : List Str} {sp : Sp} (F : Fun K x qual st f fd) (S : FnScope N ps (defScope st)) (hnc : ∀ y ∈ (defScope st).names, y.2 ≠ .cell) (hps : 1 ≤ ps.length)
    (len : ∀ vs H Q E, sp vs H Q E → vs.length = ps.length)
    (go : ∀ (cdv : Value) (A : Around) (outer : List Env) (s : Shared) (H : Hp) (vs : List V) (Q : VK) (E : XK), Room k (A.deeper (envOfC qual (defScope st) s.heap.objs.size f cdv)) → sp vs H Q E →
      ∃ t, PSsT (cxOf CX0 P w K mg base N qual (defScope st) f cdv A outer s H E) (defBody st) t ∧ t { nx := fun _ H' => Q .non H', rt := Q } (start N vs) H) : FnOk P w K mg base CX0 (k + 1) f fd ps sp := by
  obtain ⟨_, _, _, _, _, _, cdv, _, _, rfl, at_f, cd⟩ := F.ex
  exact fn_ofT at_f cd S hnc hps len fun A outer s H vs Q E hr h => go cdv A outer s H vs Q E hr h
/-! ### calls that may raise -/
section
variable {X : Cx} {k : Nat} {sp : Sp} {x : Str} {ps : List Str} {p pos : Pos} {e : Expr} {es : List Expr} {t : TA} {W : WX}
theorem pe_calS {CX : CXT} {E : L2.St → XK} (C : Cal X.prog X.w X.K X.mg X.base CX k x ps sp) (hr : Room k X.A) (hx : ∀ σ, PassesAt CX X σ (E σ)) (ha : PA X (e :: es) t) (hg : Gl X x := by rfl)
    (hdb : (x == ("__debug__" : Str)) = false := by decide) (he : starEach (e :: es) X.env = (false, eval e X.env) :: starEach es X.env := by rfl) (hpl : (backTo pos (starEach es X.env)).any (·.1) = false := by rfl) :
    PE X (.Call (.Name x p) (e :: es) [] pos) (tCallS sp E t) := by
  obtain ⟨f, fd, m1, m2, m3, F⟩ := C.ex
  exact pe_callS F hr hg m1 m2 m3 hx ha hdb he hpl
/-- a raising def called in a def that lets it out -/
theorem passOut (tk : Takes X fun cls d _ H => E cls d H) : Passes (L2.CX X.prog X.w) X E := fun pn σ H s e s' I c => passes_call tk (fun _ _ _ _ h => h) pn σ H s e s' I c
end
theorem r_callS {sp : Sp} {E : L2.St → XK} {t : TA} {σ : L2.St} {H : Hp} {Q : VK} (h : t σ H fun vs H1 => sp vs H1 Q (E σ)) : tCallS sp E t σ H Q := h
/-! ### methods of texts -/
def rSplit1 : V → List V → Hp → VK → Prop := fun x xs H Q => ∃ a b, x = .str a ∧ xs = [.str b] ∧ (b.length == 0) = false ∧ a.length + 2 ≤ sizeLine ∧ rNewStrs (Txt.split a b) H Q
def rSplit2 : V → List V → Hp → VK → Prop := fun x xs H Q => ∃ (a b : Str) (k : Int), x = .str a ∧ xs = [.str b, .int k] ∧ (b.length == 0) = false ∧ -(2 ^ 63) ≤ k ∧ k < 2 ^ 63 ∧ a.length + 2 ≤ sizeLine ∧ rNewStrs (Txt.splitMax a b k) H Q
def rPart3 : V → List V → Hp → VK → Prop := fun x xs H Q => ∃ a b, x = .str a ∧ xs = [.str b] ∧ (b.length == 0) = false ∧ a.length ≤ sizeLine ∧
  ∀ p, H p = none → Q (.ref p) (upd H p (.tup [.str (Txt.partition a b).1, .str (Txt.partition a b).2.1, .str (Txt.partition a b).2.2]))
def rTold (g : Str → Bool) : V → List V → Hp → VK → Prop := fun x xs H Q => ∃ a, x = .str a ∧ xs = [] ∧ True ∧ Q (.bl (g a)) H
section
variable {X : Cx}
theorem k_split1 : MtR X "str.split" rSplit1 := mt_split
theorem k_split2 : MtR X "str.split" rSplit2 := mt_splitMax
theorem k_part3 : MtR X "str.partition" rPart3 := mt_partition
theorem k_ascii : MtR X "str.isascii" (rTold Txt.isascii) := mt_isascii
theorem k_digit : MtR X "str.isdigit" (rTold Txt.isdigit) := mt_isdigit
end
section
variable {K : PySem.W.Frag} {σ : L2.St} {H : Hp} {Q : VK} {a b : Str} {r : V → List V → Hp → VK → Prop} {to te : TE} {t : TA}
theorem r_m0 (h : to σ H fun x H1 => (∃ a, x = .str a) ∧ r x [] H1 Q) : tM0 r to σ H Q := h
theorem r_bm {T : String} (h : to σ H fun x H1 => tyV K T x H1 ∧ t σ H1 fun xs H2 => r x xs H2 Q) : tBM K T r to t σ H Q := h
theorem new_strs {ys : List Str} (q : ∀ p H', H p = none → Same H H' → H' p = some (.lst (ys.map V.str)) → Q (.ref p) H') : rNewStrs ys H Q := fun p hp => q p _ hp (Same.new hp) upd_same
theorem r_split1 (hb : (b.length == 0) = false) (ha : a.length ≤ 90000) (q : ∀ p H', H p = none → Same H H' → H' p = some (.lst ((Txt.split a b).map V.str)) → Q (.ref p) H') : rSplit1 (.str a) [.str b] H Q := ⟨a, b, rfl, rfl, hb, sz_of (n := a.length + 2) (by omega), new_strs q⟩
theorem r_split2 {k : Int} (hb : (b.length == 0) = false) (h0 : 0 ≤ k) (h1 : k < 100) (ha : a.length ≤ 90000) (q : ∀ p H', H p = none → Same H H' → H' p = some (.lst ((Txt.splitMax a b k).map V.str)) → Q (.ref p) H') : rSplit2 (.str a) [.str b, .int k] H Q :=
  ⟨a, b, k, rfl, rfl, hb, by omega, by omega, sz_of (n := a.length + 2) (by omega), new_strs q⟩
theorem r_part3 (hb : (b.length == 0) = false) (ha : a.length ≤ 100000) (q : ∀ p H', H p = none → Same H H' → H' p = some (.tup [.str (Txt.partition a b).1, .str (Txt.partition a b).2.1, .str (Txt.partition a b).2.2]) → Q (.ref p) H') : rPart3 (.str a) [.str b] H Q :=
  ⟨a, b, rfl, rfl, hb, sz_of ha, fun p hp => q p _ hp (Same.new hp) upd_same⟩
theorem r_told {g : Str → Bool} (q : Q (.bl (g a)) H) : rTold g (.str a) [] H Q := ⟨a, rfl, rfl, trivial, q⟩
theorem r_isS {B : Prop} (q : B) : (∃ u, V.str a = .str u) ∧ B := ⟨⟨a, rfl⟩, q⟩
theorem r_gLst {n : Nat} {t : TGs} {p : Addr} {xs : List V} {R : L2.St → Hp → Prop} (h : H p = some (.lst xs)) (hl : xs.length = n) (q : t xs σ H R) : gLst K n t (.ref p) σ H R := ⟨p, xs, rfl, SqL.of h, hl, q⟩
theorem k_glst {X : Cx} {es : List Expr} {k : Nat} {pos : Pos} {t : TGs} {n : Nat} (hc : X.calm = true) (h : PGs X es t) (e : X.K = K := by rfl) (hn : (assignEach es X.env).length = n := by rfl) (hst : (assignEach es X.env).findIdx? (·.1) = none := by rfl) : PG X (.Tuple es k pos) (gLst K n t) := by subst e; exact pg_lst hc h hn hst
theorem r_lenL {p : Addr} {xs : List V} (h : H p = some (.lst xs)) (q : Q (.int (xs.length : Nat)) H) : rLen K [.ref p] H Q := r_lenQ (SqL.of h) q
/-! f-strings -/
theorem r_fmtS (h : te σ H fun x H1 => ∃ y : Str, x = .str y ∧ y.length ≤ 100000 ∧ Q (.str y) H1) (mono : ∀ R R' : VK, (∀ v H', R v H' → R' v H') → te σ H R → te σ H R') : tFmt te σ H Q :=
  mono _ _ (fun v H' ⟨y, e, hl, q⟩ => .inl ⟨y, e, sz_of hl, q⟩) h
theorem r_fmtVar {i : Nat} {x : Str} (hv : σ[i]? = some (some (.str x))) (hl : x.length ≤ 100000) (q : Q (.str x) H) : tFmt (tVar i) σ H Q := ⟨_, hv, .inl ⟨x, rfl, sz_of hl, q⟩⟩
theorem r_fmtInt {i : Nat} {n : Int} (hv : σ[i]? = some (some (.int n))) (hl : n.natAbs.log2 < 1920) (q : Q (.str (toString n)) H) : tFmt (tVar i) σ H Q := ⟨_, hv, .inr ⟨n, rfl, hl, q⟩⟩
theorem r_js {ts : List TE} {acc : Str} {t : TE} {R : Str → Hp → Prop} (h : t σ H fun x H1 => ∃ y : Str, x = .str y ∧ (acc ++ y).length ≤ sizeLine ∧ tJs ts (acc ++ y) σ H1 R) : tJs (t :: ts) acc σ H R := h
theorem r_jsNil {acc : Str} {R : Str → Hp → Prop} (h : R acc H) : tJs [] acc σ H R := h
theorem r_jsIs {acc y : Str} {P : Str → Prop} (hl : (acc ++ y).length ≤ 100000) (q : P y) : ∃ z : Str, V.str y = .str z ∧ (acc ++ z).length ≤ sizeLine ∧ P z := ⟨y, rfl, sz_of hl, q⟩
/-! replace -/
theorem r_repl {y z : Str} (h : to σ H fun v H1 => ∃ x, v = .str x ∧ x.length + (x.length + 1) * z.length ≤ 16777216 ∧ Q (.str (Txt.replace x y z)) H1) : tReplC to y z σ H Q := h
theorem r_replIs {x y z : Str} (hl : x.length + (x.length + 1) * z.length ≤ 16777216) (q : Q (.str (Txt.replace x y z)) H) : ∃ u, V.str x = .str u ∧ u.length + (u.length + 1) * z.length ≤ 16777216 ∧ Q (.str (Txt.replace u y z)) H := ⟨x, rfl, hl, q⟩
theorem r_replU {B : Prop} {x z : Str} (hx : x.length ≤ 100000) (hz : z.length ≤ 100) (q : B) : x.length + (x.length + 1) * z.length ≤ 16777216 ∧ B :=
  ⟨by have := Nat.mul_le_mul (show x.length + 1 ≤ 100001 by omega) hz; omega, q⟩
theorem cat_len (x y : Str) : (x ++ y).length = x.length + y.length := by rw [TL.len_tl, TL.tl_append, List.length_append, ← TL.len_tl, ← TL.len_tl]
theorem r_fits {B : Prop} {x : Str} (hx : x.length ≤ 100000) (q : B) : x.length ≤ sizeLine ∧ B := ⟨sz_of hx, q⟩
theorem repl_le {x y z : Str} {n : Nat} (hx : x.length ≤ n) {m : Nat} (hz : z.length ≤ m) : (Txt.replace x y z).length ≤ n + (n + 1) * m := by
  have h1 := TK.replace_len x y z
  have h2 := Nat.mul_le_mul (show x.length + 1 ≤ n + 1 by omega) hz
  omega
end
/-! parts are no longer than the whole -/
theorem sub_le (x : Str) (i j : Nat) : (Builtin.Str.strSub x i j).length ≤ x.length := by
  rw [TL.len_tl, TL.tl_strSub, TL.len_tl x, List.length_take, List.length_drop]
  omega
theorem from_le (x : Str) (n : Nat) : ∀ (cs : List Nat) (a : Nat), ∀ p ∈ StrLaws.partsFrom x n a cs, p.length ≤ x.length
  | [], a, p, h => by
    rw [List.mem_singleton.mp h]
    exact sub_le _ _ _
  | c :: cs, a, p, h => by
    rcases List.mem_cons.mp h with rfl | h
    · exact sub_le _ _ _
    · exact from_le x n cs _ p h
theorem splitMax_le (x y : Str) (k : Int) : ∀ p ∈ Txt.splitMax x y k, p.length ≤ x.length := by
  intro p h
  unfold Txt.splitMax at h
  split at h
  · rw [List.mem_singleton.mp h]; exact Nat.le_refl _
  · split at h
    · rw [List.mem_singleton.mp h]; exact Nat.le_refl _
    · rw [StrLaws.partsBetween_eq] at h
      exact from_le _ _ _ _ p h
theorem split_le (x y : Str) : ∀ p ∈ Txt.split x y, p.length ≤ x.length := by
  intro p h
  unfold Txt.split at h
  split at h
  · rw [List.mem_singleton.mp h]; exact Nat.le_refl _
  · split at h
    · rw [List.mem_singleton.mp h]; exact Nat.le_refl _
    · rw [StrLaws.partsBetween_eq] at h
      exact from_le _ _ _ _ p h
theorem part3_le (x y : Str) : (Txt.partition x y).1.length ≤ x.length ∧ (Txt.partition x y).2.2.length ≤ x.length := by
  have h := congrArg Str.length (StrLaws.partition_sum x y)
  rw [cat_len, cat_len] at h
  omega
end Tk

set_option Elab.async false
set_option linter.all false
set_option maxRecDepth 100000
set_option maxHeartbeats 4000000
/-! == of data without dicts, membership among written texts, int of a bool, text at a place, while -/
namespace Tk
open PySem PySem.Spec PyProof.Rows L2 SX
def rEqP (K : PySem.W.Frag) : R2 := fun x y H Q => ∃ d e, Dd K H x d ∧ Dd K H y e ∧ d.plain = true ∧ e.plain = true ∧ d.depth ≤ 60 ∧ Q (.bl (PyData.eqv d e)) H
def rNeP (K : PySem.W.Frag) : R2 := fun x y H Q => ∃ d e, Dd K H x d ∧ Dd K H y e ∧ d.plain = true ∧ e.plain = true ∧ d.depth ≤ 60 ∧ Q (.bl (!PyData.eqv d e)) H
section
variable {X : Cx} {K : PySem.W.Frag}
theorem k_eqP (hu : X.A.units + 64 < cLine) (e : X.K = K := by rfl) : OpR X (compareOp .Eq) (rEqP K) := by
  subst e
  intro pn s σ H x y v u Q I rx ry h
  obtain ⟨d, e, hd, he, pd, pe, dp, q⟩ := h
  obtain ⟨as, r1⟩ := Dd.reads I d x v hd rx
  obtain ⟨bs, r2⟩ := Dd.reads I e y u he ry
  exact PySem.SeqAt.eq_plain r1 r2 pd pe (by have := Nat.min_le_left d.depth e.depth; omega) ⟨.bl _, H, I, rfl, q⟩
theorem k_neP (hu : X.A.units + 64 < cLine) (e : X.K = K := by rfl) : OpR X (compareOp .NotEq) (rNeP K) := by
  subst e
  intro pn s σ H x y v u Q I rx ry h
  obtain ⟨d, e, hd, he, pd, pe, dp, q⟩ := h
  obtain ⟨as, r1⟩ := Dd.reads I d x v hd rx
  obtain ⟨bs, r2⟩ := Dd.reads I e y u he ry
  exact PySem.SeqAt.ne_plain r1 r2 pd pe (by have := Nat.min_le_left d.depth e.depth; omega) ⟨.bl _, H, I, rfl, q⟩
theorem k_in (e : X.K = K := by rfl) : OpR X (compareOp .In) (rIn K false) := by subst e; exact op_in_seq
theorem k_notin (e : X.K = K := by rfl) : OpR X (compareOp .NotIn) (rIn K true) := by subst e; exact op_notIn_seq
end
section
variable {K : PySem.W.Frag} {H : Hp} {Q : VK} {v w : V} {d : PyData}
theorem r_neSame (h1 : Dd K H v d) (h2 : Dd K H w d) (pl : d.plain = true) (dp : d.depth ≤ 60) (q : Q (.bl false) H) : rNeP K v w H Q := ⟨d, d, h1, h2, pl, pl, dp, by rw [PySem.SeqAt.eqv_refl_plain d pl]; exact q⟩
theorem r_inL {p : Addr} {xs : List V} {x : V} (h : H p = some (.lst xs)) (fx : flatV x = true) (fs : xs.all flatV = true) (q : Q (.bl (inV x xs)) H) : rIn K false x (.ref p) H Q := ⟨p, xs, rfl, .inl (SqL.of h), fx, fs, q⟩
theorem r_notinL {p : Addr} {xs : List V} {x : V} (h : H p = some (.lst xs)) (fx : flatV x = true) (fs : xs.all flatV = true) (q : Q (.bl (!inV x xs)) H) : rIn K true x (.ref p) H Q := ⟨p, xs, rfl, .inl (SqL.of h), fx, fs, q⟩
theorem in_two (c a b : Nat) : inV (signV c) [.str (S [a]), .str (S [b])] = decide (c = a ∨ c = b) := by
  have e : ∀ x y : Nat, (S [x] == S [y]) = decide (x = y) := fun x y => by
    rw [S_beq_eq]
    by_cases h : x = y
    · subst h; simp
    · simp [h]
  show ((S [a] == S [c]) || ((S [b] == S [c]) || false)) = _
  rw [e, e, Bool.or_false]
  by_cases h1 : c = a
  · subst h1; simp
  · by_cases h2 : c = b
    · subst h2; simp
    · simp [h1, h2, Ne.symm h1, Ne.symm h2, eq_comm]
theorem in_two_none (a b : Nat) : inV (.str (S [])) [.str (S [a]), .str (S [b])] = false := by
  show ((S [a] == S []) || ((S [b] == S []) || false)) = _
  rw [S_beq, S_beq]
  rfl
def rInt1 : List V → Hp → VK → Prop := fun xs H Q => (∃ i, xs = [.int i] ∧ Q (.int i) H) ∨ ∃ k, xs = [.bl k] ∧ Q (.int (if k then 1 else 0)) H
theorem k_int1 {X : Cx} : CallR X (.type "int") rInt1 := call_int1
theorem r_int1 {k : Bool} (q : Q (.int (if k then 1 else 0)) H) : rInt1 [.bl k] H Q := .inr ⟨k, rfl, q⟩
def rStr1 : List V → Hp → VK → Prop := fun xs H Q => ∃ i, xs = [.int i] ∧ i.natAbs.log2 < 1920 ∧ Q (.str (toString i)) H
theorem k_str1 {X : Cx} : CallR X (.type "str") rStr1 := call_str_int
theorem r_str1 {i : Int} (hi : i.natAbs.log2 < 1920) (q : Q (.str (toString i)) H) : rStr1 [.int i] H Q := ⟨i, rfl, hi, q⟩
/-! a text at a place -/
theorem r_ixS {x : Str} {i : Int} {c : Nat} (hx : x.length ≤ 100000) (e : atI x.cps.toList i = some c) (q : Q (signV c) H) : rIx K (.str x) (.int i) H Q := .inr (.inr ⟨x, i, c, rfl, rfl, sz_of hx, e, q⟩)
theorem r_par {i j : Nat} {ta : TA} {D : Ends} {σ : L2.St} (h : ta σ H fun vs H1 => ∃ v w, vs = [v, w] ∧ D.nx ((σ.set i (some v)).set j (some w)) H1) : tPar i j ta D σ H := h
theorem r_pair {P : V → V → Prop} (q : P v w) : ∃ v' w', [v, w] = [v', w'] ∧ P v' w' := ⟨v, w, rfl, q⟩
theorem sg {c d : Nat} : ((⟨#[c]⟩ : Str) = (⟨#[d]⟩ : Str)) ↔ c = d := by
  constructor
  · intro h
    have : ([c] : List Nat) = [d] := congrArg (fun x : Str => x.cps.toList) h
    exact (List.cons.inj this).1
  · intro h
    rw [h]
end
section
variable {K : PySem.W.Frag} {H : Hp} {Q : VK}
def rSgn : R2 := fun x y H Q => ∃ (c : Nat) (z : Str), x = .str ⟨#[c]⟩ ∧ y = .str z ∧ Q (.bl (!decide (c ∈ z.cps.toList))) H
theorem k_notSign {X : Cx} : OpR X (compareOp .NotIn) rSgn := op_notIn_sign
theorem r_notSign {c : Nat} {z : Str} (q : Q (.bl (!decide (c ∈ z.cps.toList))) H) : rSgn (signV c) (.str z) H Q := ⟨c, z, rfl, rfl, q⟩
theorem g_slL {a : Addr} {xs : List V} {lo hi : Option Int} (h : H a = some (.lst xs)) (q : ∀ p H2, H p = none → Same H H2 → H2 p = some (.lst (cutV xs lo hi)) → Q (.ref p) H2) : GSlice K (.ref a) lo hi H Q := .inl ⟨a, xs, rfl, SqL.of h, fun p hp => q p _ (by exact hp) (Same.new hp) upd_same⟩
end
theorem cutV2 (a b : V) (xs : List V) : cutV (a :: b :: xs) (some 2) none = xs := by
  unfold cutV
  have i1 : HT.sIx (a :: b :: xs).length 0 (some 2) = 2 := by
    unfold HT.sIx
    simp
  rw [i1, HT.sIx_none]
  show xs.take ((a :: b :: xs).length - 2) = xs
  rw [List.take_of_length_le (by simp)]
theorem signs_data {K : PySem.W.Frag} {H : Hp} {p : Addr} : ∀ {cs : List Nat}, H p = some (.lst (cs.map signV)) → Dd K H (.ref p) (.list (cs.map fun c => .str (S [c]))) := fun {cs} h => .lst h (by
  clear h
  induction cs with
  | nil => exact .nil
  | cons c cs ih => exact .cons (.str _) ih)
theorem signs_plain (cs : List Nat) : (PyData.list (cs.map fun c => .str (S [c]))).plain = true := by
  show PyData.plainAll _ = true
  induction cs with
  | nil => rfl
  | cons c cs ih =>
    rw [List.map_cons, PyData.plainAll, ih]
    rfl
theorem signs_deep (cs : List Nat) : (PyData.list (cs.map fun c => .str (S [c]))).depth ≤ 60 := by
  have : PyData.depthAll (cs.map fun c => PyData.str (S [c])) = 0 := by
    induction cs with
    | nil => rfl
    | cons c cs ih =>
      rw [List.map_cons, PyData.depthAll, ih]
      rfl
  rw [PyData.depth, this]
  decide
theorem signs_eqv (cs : List Nat) : PyData.eqv (.list (cs.map fun c => .str (S [c]))) (.list []) = cs.isEmpty := by
  cases cs <;> rfl
/-! isinstance of what was caught, its class and dict by their letters -/
def rIsE2 (K : PySem.W.Frag) (cls : Value) (d : Option Addr) (a : Addr) : List V → Hp → VK → Prop := fun xs H Q => ∃ D dd, cls = .ref D ∧ d = some dd ∧ rIsE1 K D a dd xs H Q
theorem call_isE2 {X : Cx} {K : PySem.W.Frag} {a : Addr} {cls : Value} {d : Option Addr} {oe : Obj} {pn : List (Addr × Obj)} (hz : Zc cls d oe) (hf : ∃ vs, oe.data = .fields vs) (eK : X.K = K := by rfl) : CallR (X.suite a ((a, oe) :: pn)) (.builtin "isinstance") (rIsE2 K cls d a) := by
  intro pins s σ H xs us Q I r h
  obtain ⟨D, dd, rfl, rfl, h⟩ := h
  exact call_isE1 hz hf eK pins s σ H xs us Q I r h
theorem r_isE2 {K : PySem.W.Frag} {a D dd : Addr} {c : V} {cv : Value} {fs : List (Str × V)} {H : Hp} {Q : VK} (hd : H dd = some (.xd fs)) (hc : ∀ u, RelV c u → u = cv) (ht : PySem.W.typeIn K cv = some (.type "type") ∨ typeOf cv = pure (.type "type")) (hk : (∃ n, cv = .type n) ∨ ∃ C, cv = .ref C ∧ PySem.W.hasDictIn K C = true)
    (hs : PySem.W.subIn K (.ref D) cv = some true) (q : Q (.bl true) H) : rIsE2 K (.ref D) (some dd) a [.ref a, c] H Q := ⟨D, dd, rfl, rfl, c, cv, fs, rfl, hd, hc, ht, hk, hs, q⟩
theorem r_xf {K : PySem.W.Frag} {a C dd : Addr} {v : V} {te : TE} {σ : L2.St} {H : Hp} {Q : VK} (h : te σ H fun x H1 => x = .ref a ∧ H1 dd = some (.xd (valF v)) ∧ Q v H1) (mono : ∀ R R' : VK, (∀ v H', R v H' → R' v H') → te σ H R → te σ H R') : tXf a (.ref C) (some dd) C "value" te σ H Q :=
  mono _ _ (fun x H' ⟨e, h1, q⟩ => ⟨e, rfl, dd, _, v, rfl, h1, rfl, q⟩) h
theorem r_xfVar {a C dd : Addr} {v : V} {i : Nat} {σ : L2.St} {H : Hp} {Q : VK} (hv : σ[i]? = some (some (.ref a))) (hd : H dd = some (.xd (valF v))) (q : Q v H) : tXf a (.ref C) (some dd) C "value" (tVar i) σ H Q := ⟨_, hv, rfl, rfl, dd, _, v, rfl, hd, rfl, q⟩
/-! cuts of a text by its list -/
theorem cut1 (c : Nat) (r : List Nat) : cutS (S (c :: r)) (some 1) none = S r := by
  refine TL.ext_tl ?_
  have l : (S (c :: r)).length = r.length + 1 := by rw [S_len]; rfl
  have i1 : HT.sIx (S (c :: r)).length 0 (some 1) = 1 := by
    rw [l]
    unfold HT.sIx
    simp
  have i2 : HT.sIx (S (c :: r)).length (S (c :: r)).length none = r.length + 1 := by rw [HT.sIx_none, l]
  unfold cutS
  rw [i1, i2]
  show ((c :: r).drop 1).take (r.length + 1 - 1) = r
  rw [Nat.add_sub_cancel]
  exact List.take_length
theorem cut12 (c : Nat) (r : List Nat) : cutS (S (c :: r)) (some 1) (some 2) = S (r.take 1) := by
  refine TL.ext_tl ?_
  have l : (S (c :: r)).length = r.length + 1 := by rw [S_len]; rfl
  have i1 : HT.sIx (S (c :: r)).length 0 (some 1) = 1 := by
    rw [l]
    unfold HT.sIx
    simp
  have i2 : HT.sIx (S (c :: r)).length (S (c :: r)).length (some 2) = min 2 (r.length + 1) := by
    rw [l]
    rfl
  unfold cutS
  rw [i1, i2]
  show ((c :: r).drop 1).take (min 2 (r.length + 1) - 1) = r.take 1
  show r.take _ = _
  cases r with
  | nil => rfl
  | cons d r =>
    have : min 2 ((d :: r).length + 1) - 1 = 1 := by simp
    rw [this]
theorem cut1m {l : List Nat} (h : 2 ≤ l.length) : cutS (S l) (some 1) (some (-1)) = S ((l.drop 1).take (l.length - 2)) := by
  refine TL.ext_tl ?_
  have i1 : HT.sIx (S l).length 0 (some 1) = 1 := by
    rw [S_len]
    unfold HT.sIx
    simp
    omega
  have i2 : HT.sIx (S l).length (S l).length (some (-1)) = l.length - 1 := by
    rw [S_len]
    unfold HT.sIx
    simp
    omega
  unfold cutS
  rw [i1, i2]
  show (l.drop 1).take (l.length - 1 - 1) = _
  rw [show l.length - 1 - 1 = l.length - 2 by omega]
end Tk

set_option Elab.async false
set_option linter.all false
set_option maxRecDepth 100000
set_option maxHeartbeats 4000000
-- TOKS t1 t2 t3 t4
namespace K02
open PySem PySem.Spec PyProof.Rows L2 Tk TkM CwR SX
local macro_rules | `(tactic| walk_at "rd1") => `(tactic| first
  | with_reducible refine r_seq ?_
  | ((with_reducible refine r_var (v := ?vv) ?hrv ?_); (case hrv => rfl))
  | with_reducible refine r_c ?_
  | with_reducible refine r_op ?_
  | ((with_reducible refine r_ixL (xs := ?xx) (v := ?vv) ?hh ?he ?_); (case hh => first | assumption | exact upd_same); (case he => rfl))
  | with_reducible refine r_asg ?_
  | with_reducible refine r_sub ?_
  | ((with_reducible refine r_gTup (xs := ?xx) ?hh ?he ?_); (case hh => assumption); (case he => rfl))
  | with_reducible refine r_gCons ?_
  | with_reducible refine r_gNil ?_
  | ((with_reducible refine r_setL (xs := ?xx) (j := ?vv) ?hh ?he ?_); (case hh => first | assumption | exact upd_same); (case he => rfl))
  | with_reducible refine r_pow15 ?_
  | with_reducible refine r_pow18 ?_
  | with_reducible refine r_repr ?_
  | with_reducible refine iteT ?_
  | with_reducible refine iteF ?_
  | with_reducible refine r_cons ?_
  | with_reducible refine r_nil ?_
  | with_reducible refine r_call ?_
  | with_reducible refine r_cb ?_
  | with_reducible refine r_ret ?_
  | with_reducible refine r_gName ?_
  | with_reducible refine r_next ?_
  | with_reducible refine r_ifS ?_
  | with_reducible refine r_un ?_
  | with_reducible refine r_U ?_
  | with_reducible refine r_max2 ?_
  | with_reducible refine r_min2 ?_
  | with_reducible refine r_sl ?_
  | with_reducible refine r_noPart ?_
  | with_reducible refine r_part ?_
  | with_reducible refine r_inti ?_
  | with_reducible refine r_lc ?_
  | with_reducible refine r_for ?_
  | with_reducible refine r_rng1 ?_
  | with_reducible refine r_iList ?_
  | with_reducible refine r_iTup ?_
  | with_reducible refine r_iStr ?_
  | with_reducible refine r_strx ?_
  | ((with_reducible refine r_j ?hh ?hi ?_); (case hh => omega); (case hi => omega))
  | with_reducible refine r_m1 ?_
  | with_reducible refine r_test ?_
  | with_reducible refine r_B ?_
  | with_reducible refine r_not ?_
  | with_reducible refine r_and ?_
  | with_reducible refine r_or ?_
  | with_reducible refine r_andV ?_
  | with_reducible refine r_orV ?_
  | with_reducible refine r_notV ?_
  | with_reducible refine r_if ?_
  | with_reducible refine r_chain ?_
  | with_reducible refine r_lst ?_
  | with_reducible refine r_tup ?_
  | with_reducible refine r_k ?_
  | ((with_reducible refine r_isiS (d := ?dd) ?hh ?_); (case hh => assumption))
  | ((with_reducible refine r_isiT (d := ?dd) ?hh ?_); (case hh => assumption))
  | ((with_reducible refine r_isiI (d := ?dd) ?hh ?_); (case hh => assumption))
  | ((with_reducible refine r_isiB (d := ?dd) ?hh ?_); (case hh => assumption))
  | ((with_reducible refine r_lenS ?hh ?_); (case hh => assumption))
  | ((with_reducible refine r_lenT (xs := ?dd) ?hh ?_); (case hh => assumption))
  | ((with_reducible refine r_ixT (xs := ?xx) (v := ?vv) ?hh ?he ?_); (case hh => assumption); (case he => rfl))
  | with_reducible refine r_isN ?_
  | with_reducible refine r_I0 ?_
  | with_reducible refine g_addI ?_
  | ((with_reducible refine r_mod ?hh ?_); (case hh => first | decide | omega))
  | ((with_reducible refine r_div ?hh ?hi ?_); (case hh => first | decide | omega); (case hi => first | decide | omega))
  | ((with_reducible refine g_mulB ?hh ?hi ?_); (case hh => omega); (case hi => omega))
  | with_reducible refine g_ltI ?_
  | with_reducible refine g_leI ?_
  | with_reducible refine g_gtI ?_
  | with_reducible refine g_geI ?_
  | with_reducible refine g_eqI ?_
  | with_reducible refine g_neI ?_
  | with_reducible refine g_eqS ?_
  | with_reducible refine g_neS ?_
  | with_reducible refine g_leS ?_
  | with_reducible refine g_ltS ?_)
local macro_rules | `(tactic| walk_at "rd") => `(tactic| repeat (walk_at "rd1"))
local macro_rules | `(tactic| walk_at "ed") => `(tactic| repeat first
  | exact ed_int
  | exact ed_str
  | exact ed_bl
  | exact ed_non
  | exact ed_nil
  | exact ed_dct
  | exact ed_neg
  | with_reducible apply ed_cons
  | with_reducible apply ed_tup
  | with_reducible apply ed_lst
  | exact Nat.le_of_ble_eq_true rfl)
local macro_rules | `(tactic| walk_at "tx1") => `(tactic| first
  | walk_at "rd1"
  | with_reducible refine r_callS ?_
  | with_reducible refine r_par ?_
  | with_reducible refine r_pair ?_
  | with_reducible refine r_pow6 ?_
  | with_reducible refine r_m0 ?_
  | with_reducible refine r_bm ?_
  | with_reducible refine r_isS ?_
  | with_reducible refine r_told ?_
  | with_reducible refine r_js ?_
  | with_reducible refine r_jsNil ?_
  | with_reducible refine r_repl ?_
  | ((with_reducible refine r_gLst (xs := ?xx) ?hh ?he ?_); (case hh => assumption); (case he => rfl))
  | ((with_reducible refine r_lenL (xs := ?xx) ?hh ?_); (case hh => assumption)))
local macro_rules | `(tactic| walk_at "tx") => `(tactic| repeat (walk_at "tx1"))
def top (i : Nat) : Stmt := PySem.Challenge.pw_tombkeeper_k02_entries_as_text.main.body.getD i (.Pass ⟨0, 0, 0, 0⟩)
structure Txt (mg : Str → Option Value) (t1 t2 t3 t4 : Tok) : Prop where
  z_len : mg "len" = none
  z_all : mg "all" = none
  z_isinstance : mg "isinstance" = none
  z_str : mg "str" = none
  z_tuple : mg "tuple" = none
  z_int : mg "int" = none
  z_bool : mg "bool" = none
  z_repr : mg "repr" = none
  z_range : mg "range" = none
  z_max : mg "max" = none
  z_min : mg "min" = none
  z_ValueError : mg "ValueError" = none
  g_LONGEST_WORD : mg "LONGEST_WORD" = some (.int 8 t1)
  g_LONGEST_VALUE : mg "LONGEST_VALUE" = some (.int 40 t2)
  g_GREATEST_NUMBER : mg "GREATEST_NUMBER" = some (.int 1000000000000000 t3)
  g_MOST_DIGITS : mg "MOST_DIGITS" = some (.int 16 t4)
section
variable {t1 t2 t3 t4 : Tok} {P : Program} {w : World} {K : PySem.W.Frag} {mg : Str → Option Value} {base : Heap}
abbrev s_L_take : Stmt := top 22
abbrev n_L_take : List Str := ["_law_pool_here", "_law_many", "_law_found"]
abbrev p_L_take : List Str := ["_law_pool_here", "_law_many"]
theorem sc_L_take : FnScope n_L_take p_L_take (defScope s_L_take) := ⟨rfl, rfl, rfl, by decide +kernel, rfl, by decide +kernel, by decide +kernel⟩
theorem ok_L_take (T : Txt mg t1 t2 t3 t4) {f : Addr} {fd : FuncData} (F : Fun K "_law_take" "_law_take" s_L_take f fd) : FnOk P w K mg base CX0 1 f fd p_L_take spTake := by
  refine F.ok sc_L_take (fun vs H Q E h => spTake_len h) (fun cdv A outer s H vs Q E hr h => ?_)
  obtain ⟨p, m, rfl, ⟨a, b, hp, ha, hb, hb2⟩, hm, hm2, k⟩ := h
  have hu := hr.units
  have dr : ∀ {o : HO}, PoolAt (upd H p o) p → Drawn p H (upd H p o) := fun h => ⟨fun c u e n => by rw [upd_ne n]; exact e, h⟩
  refine ⟨_, (pss_cons (ps_if (pt_cmpR o_gt (pe_ix k_ix (pv 0) pe_int (fun _ _ => rfl)) pe_int (nomark _)) (pss_cons (ps_set (i := 2) sc_L_take.nd rfl (by first | exact Or.inl rfl | exact Or.inr rfl) (pe_op op_mod (pe_ix k_ix (pv 0) pe_int (fun _ _ => rfl)) (pv 1)))
      (pss_cons (ps_asg (pe_op o_fdiv (pe_ix k_ix (pv 0) pe_int (fun _ _ => rfl)) (pv 1)) (pg_sub (pv 0) pe_int set_list))
      (pss_one (ps_ret (pv 2))))) pss_nil)
      (pss_cons (ps_asg (pe_op op_mod (pe_op k_add (pe_op o_mul (pe_ix k_ix (pv 0) pe_int (fun _ _ => rfl)) pe_int) pe_int) pe_int) (pg_sub (pv 0) pe_int set_list))
      (pss_one (ps_ret (pe_op op_mod (pe_op o_fdiv (pe_op op_mod (pe_op o_mul (pe_ix k_ix (pv 0) pe_int (fun _ _ => rfl)) (pe_ix k_ix (pv 0) pe_int (fun _ _ => rfl))) pe_int) pe_int) (pv 1)))))), ?_⟩
  walk_at "rd"
  refine r_dec (fun c => ?_) (fun c => ?_)
  · walk_at "rd"
    exact k _ _ (Int.emod_nonneg _ (by omega)) (Int.emod_lt_of_pos _ hm) (dr (pool_mk (Int.ediv_nonneg ha (Int.le_of_lt hm)) hb hb2))
  · walk_at "rd"
    exact k _ _ (Int.emod_nonneg _ (by omega)) (Int.emod_lt_of_pos _ hm) (dr (pool_mk ha (Int.emod_nonneg _ (by decide)) (Int.emod_lt_of_pos _ (by decide))))
abbrev s_L_pool : Stmt := top 21
abbrev n_L_pool : List Str := ["_law_script", "_law_k", "_law_cell", "_law_seed"]
abbrev p_L_pool : List Str := ["_law_script", "_law_k"]
theorem sc_L_pool : FnScope n_L_pool p_L_pool (defScope s_L_pool) := ⟨rfl, rfl, rfl, by decide +kernel, rfl, by decide +kernel, by decide +kernel⟩
theorem ok_L_pool (T : Txt mg t1 t2 t3 t4) {f : Addr} {fd : FuncData} (F : Fun K "_law_pool" "_law_pool" s_L_pool f fd) : FnOk P w K mg base CX0 1 f fd p_L_pool (spPool K) := by
  refine F.ok sc_L_pool (fun vs H Q E h => spPool_len h) (fun cdv A outer s H vs Q E hr h => ?_)
  obtain ⟨sc, ns, i, rfl, hS, hl, h0, h1, k⟩ := h
  have hu := hr.units
  refine ⟨_, (pss_cons (ps_set (i := 2) sc_L_pool.nd rfl (by first | exact Or.inl rfl | exact Or.inr rfl) pe_int)
      (pss_cons (ps_if (pt_cmpR o_lt (pv 1) (pe_callB k_len (by rfl) T.z_len (by decide +kernel) (pa_cons (pv 0) pa_nil)) (nomark _)) (pss_one (ps_set (i := 2) sc_L_pool.nd rfl (by first | exact Or.inl rfl | exact Or.inr rfl) (pe_ix k_ix (pv 0) (pv 1) (fun _ _ => rfl)))) pss_nil)
      (pss_cons (ps_set (i := 3) sc_L_pool.nd rfl (by first | exact Or.inl rfl | exact Or.inr rfl) (pe_op op_mod (pe_op o_mul (pe_op k_add (pe_op k_add (pe_op op_mod (pv 2) pe_int) (pe_op o_mul (pe_op o_mul pe_int (pv 1)) (pv 1))) pe_int) pe_int) pe_int))
      (pss_cons (ps_if (pt_cmpR o_lt (pv 2) (pe_op op_pow pe_int pe_int) (nomark _)) (pss_one (ps_set (i := 2) sc_L_pool.nd rfl (by first | exact Or.inl rfl | exact Or.inr rfl) pe_int)) pss_nil)
      (pss_one (ps_ret (pe_lst (pa_cons (pv 2) (pa_cons (pe_op k_add (pe_op op_mod (pe_op o_mul (pv 3) (pv 3)) pe_int) pe_int) pa_nil))))))))), ?_⟩
  have fin : ∀ c : Int, (tSeq (tAsg (tOp (rI (fun x j => 0 < j) fun i j => V.int (i % j)) (tOp GMul (tOp (GAdd K) (tOp (GAdd K) (tOp (rI (fun x j => 0 < j) fun i j => V.int (i % j)) (tVar 2) (tC (V.int 2147483629))) (tOp GMul (tOp GMul (tC (V.int 7919)) (tVar 1)) (tVar 1))) (tC (V.int 13))) (tC (V.int 48271))) (tC (V.int 2147483647))) (gName 3)) (tSeq (tIfS (tTest (tOp GLt (tVar 2) (tOp (rI CPow fun i j => V.int (i ^ j.toNat)) (tC (V.int 10)) (tC (V.int 18))))) (tAsg (tC (V.int 0)) (gName 2)) tNext) (tRet (tLst (tCons (tVar 2) (tCons (tOp (GAdd K) (tOp (rI (fun x j => 0 < j) fun i j => V.int (i % j)) (tOp GMul (tVar 3) (tVar 3)) (tC (V.int 2147483587))) (tC (V.int 1))) tNil)))))) { nx := fun x H' => Q V.non H', rt := Q } [some (.ref sc), some (.int i), some (.int c), none] H := by
    intro c
    have e1 := Int.emod_nonneg c (show (2147483629 : Int) ≠ 0 by decide)
    have e2 := Int.emod_lt_of_pos c (show (0 : Int) < 2147483629 by decide)
    have e3 : 0 ≤ 7919 * i * i := Int.mul_nonneg (Int.mul_nonneg (by decide) h0) h0
    have e4 : 7919 * i * i ≤ 7919 * i * 64 := Int.mul_le_mul_of_nonneg_left (by omega) (Int.mul_nonneg (by decide) h0)
    walk_at "rd"
    generalize hx : (c % 2147483629 + 7919 * i * i + 13) * 48271 % 2147483647 = x
    have x1 : 0 ≤ x := by rw [← hx]; exact Int.emod_nonneg _ (by decide)
    have x2 : x < 2147483647 := by rw [← hx]; exact Int.emod_lt_of_pos _ (by decide)
    have y1 := Int.emod_nonneg (x * x) (show (2147483587 : Int) ≠ 0 by decide)
    have y2 := Int.emod_lt_of_pos (x * x) (show (0 : Int) < 2147483587 by decide)
    refine r_dec (fun c1 => ?_) (fun c1 => ?_)
    · walk_at "rd"
      exact ⟨by show 2 ≤ sizeLine; decide, fun p hp => k p _ hp (Same.new hp) (pool_mk (by decide) (by omega) (by omega))⟩
    · walk_at "rd"
      exact ⟨by show 2 ≤ sizeLine; decide, fun p hp => k p _ hp (Same.new hp) (pool_mk (by omega) (by omega) (by omega))⟩
  walk_at "rd"
  refine r_lenQ hS ?_
  walk_at "rd"
  refine r_dec (fun c1 => ?_) (fun c1 => ?_)
  · rw [List.length_map] at c1
    walk_at "rd"
    obtain ⟨j, rfl⟩ := Int.eq_ofNat_of_zero_le h0
    have hj : j < ns.length := by omega
    refine r_ixQ (v := .int ns[j]) hS (atI_nat (by simp [hj])) ?_
    exact fin _
  · exact fin _
abbrev s_is_word : Stmt := top 9
abbrev n_is_word : List Str := ["thing", "sign"]
abbrev p_is_word : List Str := ["thing"]
theorem sc_is_word : FnScope n_is_word p_is_word (defScope s_is_word) := ⟨rfl, rfl, rfl, by decide +kernel, rfl, by decide +kernel, by decide +kernel⟩
theorem ok_is_word (T : Txt mg t1 t2 t3 t4) {f : Addr} {fd : FuncData} (F : Fun K "is_word" "is_word" s_is_word f fd) : FnOk P w K mg base CX0 1 f fd p_is_word (spD K wordD) := by
  refine F.ok sc_is_word (fun vs H Q E h => spD_len h) (fun cdv A outer s H vs Q E hr h => ?_)
  obtain ⟨v, d, rfl, hd, ho, k⟩ := h
  refine ⟨_, (pss_cons (ps_if (PW.pt (pw_or (pt_not (pt_val (pe_callB k_isi (by rfl) T.z_isinstance (by decide +kernel) (pa_cons (pv 0) (pa_cons (pe_bltn (v := .ty "str") rfl T.z_str (by decide +kernel) rfl) pa_nil))))) (pw_or1 (pt_not (pt_chain o_le o_le pe_int (pe_callB k_len (by rfl) T.z_len (by decide +kernel) (pa_cons (pv 0) pa_nil)) (pe_glob (v := V.int (8)) rfl T.g_LONGEST_WORD ⟨_, rfl⟩)))))) (pss_one (ps_ret pe_bl)) pss_nil)
      (pss_one (ps_ret (pe_callB (k_all rfl) (by rfl) T.z_all (by decide +kernel) (pa_cons (pe_lc (own := [("sign", 1)]) rfl sc_is_word.nd (pi_str (pv 0)) (blkOk_by (own := [("sign", 1)]) (N := n_is_word) (sc := defScope s_is_word) (by decide +kernel)) (fun _ _ _ _ _ => (pg_name (i := 1) sc_is_word.nd rfl (by first | exact Or.inl rfl | exact Or.inr rfl))) (fun _ _ _ _ _ => pts_nil) (fun _ _ _ _ _ => (pe_chain o_le o_le pe_str (pv 1) pe_str))) pa_nil))))), ?_⟩
  walk_at "rd"
  rcases str_or d with ⟨x, rfl⟩ | hn
  · cases hd
    rw [isStr]
    refine iteF ?_
    have hx : x.length ≤ 100000 := ho
    walk_at "rd"
    refine r_dec (fun c1 => ?_) (fun c1 => ?_)
    · walk_at "rd"
      refine r_decN (fun c2 => ?_) (fun c2 => ?_)
      · walk_at "rd"
        have q := k H (Same.refl H)
        have e : wordD (.str x) = false := by simp [wordD, wordS, c2]
        rw [e] at q
        exact q
      · walk_at "rd"
        refine r_lcStr hx (fun _ => true) (fun v => .bl (lowB (codeV v))) (fun c _ H2 R s2 q => q H2 (Same.refl H2)) (fun c _ _ H2 R s2 q => ?_) (fun Dl H2 hD s2 e => ?_)
        · exact r_between rfl cps_a cps_z (q H2 (Same.refl H2))
        · refine r_all (bs := x.cps.toList.map lowB) (by rw [e, filt_true, List.map_map]; rfl) ?_
          have q := k H2 s2
          have e1 : wordD (.str x) = x.cps.toList.all lowB := by simp [wordD, wordS, c1, c2]
          rw [e1] at q
          rw [all_signs]
          exact q
    · walk_at "rd"
      have q := k H (Same.refl H)
      have e : wordD (.str x) = false := by simp [wordD, wordS, c1]
      rw [e] at q
      exact q
  · rw [isNotStr hn]
    refine iteT ?_
    walk_at "rd"
    have q := k H (Same.refl H)
    rw [wordD_no hn] at q
    exact q
abbrev s_is_value : Stmt := top 10
abbrev n_is_value : List Str := ["thing", "sign"]
abbrev p_is_value : List Str := ["thing"]
theorem sc_is_value : FnScope n_is_value p_is_value (defScope s_is_value) := ⟨rfl, rfl, rfl, by decide +kernel, rfl, by decide +kernel, by decide +kernel⟩
theorem ok_is_value (T : Txt mg t1 t2 t3 t4) {f : Addr} {fd : FuncData} (F : Fun K "is_value" "is_value" s_is_value f fd) : FnOk P w K mg base CX0 1 f fd p_is_value (spD K valueD) := by
  refine F.ok sc_is_value (fun vs H Q E h => spD_len h) (fun cdv A outer s H vs Q E hr h => ?_)
  obtain ⟨v, d, rfl, hd, ho, k⟩ := h
  refine ⟨_, (pss_cons (ps_if (PW.pt (pw_or (pt_not (pt_val (pe_callB k_isi (by rfl) T.z_isinstance (by decide +kernel) (pa_cons (pv 0) (pa_cons (pe_bltn (v := .ty "str") rfl T.z_str (by decide +kernel) rfl) pa_nil))))) (pw_or1 (pt_cmpR o_gt (pe_callB k_len (by rfl) T.z_len (by decide +kernel) (pa_cons (pv 0) pa_nil)) (pe_glob (v := V.int (40)) rfl T.g_LONGEST_VALUE ⟨_, rfl⟩) (nomark _))))) (pss_one (ps_ret pe_bl)) pss_nil)
      (pss_one (ps_ret (pe_callB (k_all rfl) (by rfl) T.z_all (by decide +kernel) (pa_cons (pe_lc (own := [("sign", 1)]) rfl sc_is_value.nd (pi_str (pv 0)) (blkOk_by (own := [("sign", 1)]) (N := n_is_value) (sc := defScope s_is_value) (by decide +kernel)) (fun _ _ _ _ _ => (pg_name (i := 1) sc_is_value.nd rfl (by first | exact Or.inl rfl | exact Or.inr rfl))) (fun _ _ _ _ _ => pts_nil) (fun _ _ _ _ _ => (pe_chain o_le o_le pe_str (pv 1) pe_str))) pa_nil))))), ?_⟩
  walk_at "rd"
  rcases str_or d with ⟨x, rfl⟩ | hn
  · cases hd
    rw [isStr]
    refine iteF ?_
    have hx : x.length ≤ 100000 := ho
    walk_at "rd"
    refine r_dec (fun c1 => ?_) (fun c1 => ?_)
    · walk_at "rd"
      have q := k H (Same.refl H)
      have e : valueD (.str x) = false := by simp [valueD, valueS, c1]
      rw [e] at q
      exact q
    · walk_at "rd"
      refine r_lcStr hx (fun _ => true) (fun v => .bl (shownB (codeV v))) (fun c _ H2 R s2 q => q H2 (Same.refl H2)) (fun c _ _ H2 R s2 q => ?_) (fun Dl H2 hD s2 e => ?_)
      · exact r_between rfl cps_sp cps_til (q H2 (Same.refl H2))
      · refine r_all (bs := x.cps.toList.map shownB) (by rw [e, filt_true, List.map_map]; rfl) ?_
        have q := k H2 s2
        have e1 : valueD (.str x) = x.cps.toList.all shownB := by simp [valueD, valueS, c1]
        rw [e1] at q
        rw [all_signs]
        exact q
  · rw [isNotStr hn]
    refine iteT ?_
    walk_at "rd"
    have q := k H (Same.refl H)
    rw [valueD_no hn] at q
    exact q
abbrev s_is_number : Stmt := top 11
abbrev n_is_number : List Str := ["thing"]
abbrev p_is_number : List Str := ["thing"]
theorem sc_is_number : FnScope n_is_number p_is_number (defScope s_is_number) := ⟨rfl, rfl, rfl, by decide +kernel, rfl, by decide +kernel, by decide +kernel⟩
theorem ok_is_number (T : Txt mg t1 t2 t3 t4) {f : Addr} {fd : FuncData} (F : Fun K "is_number" "is_number" s_is_number f fd) : FnOk P w K mg base CX0 1 f fd p_is_number (spD K numD) := by
  refine F.ok sc_is_number (fun vs H Q E h => spD_len h) (fun cdv A outer s H vs Q E hr h => ?_)
  obtain ⟨v, d, rfl, hd, ho, k⟩ := h
  refine ⟨_, (pss_cons (ps_if (PW.pt (pw_or (pt_not (pt_val (pe_callB k_isi (by rfl) T.z_isinstance (by decide +kernel) (pa_cons (pv 0) (pa_cons (pe_bltn (v := .ty "int") rfl T.z_int (by decide +kernel) rfl) pa_nil))))) (pw_or1 (pt_val (pe_callB k_isi (by rfl) T.z_isinstance (by decide +kernel) (pa_cons (pv 0) (pa_cons (pe_bltn (v := .ty "bool") rfl T.z_bool (by decide +kernel) rfl) pa_nil))))))) (pss_one (ps_ret pe_bl)) pss_nil)
      (pss_one (ps_ret (pe_chain o_le o_le pe_int (pv 0) (pe_glob (v := V.int (1000000000000000)) rfl T.g_GREATEST_NUMBER ⟨_, rfl⟩))))), ?_⟩
  have q := k H (Same.refl H)
  walk_at "rd"
  have hd2 := hd
  rcases isInt_or d with ⟨h1, h2, i, rfl⟩ | ⟨h1, h2, b, rfl⟩ | ⟨h1, h2⟩
  · rw [h1]
    cases hd
    refine iteF ?_
    walk_at "rd"
    rw [h2]
    refine iteF ?_
    walk_at "rd"
    refine r_dec (fun c1 => ?_) (fun c1 => ?_)
    · walk_at "rd"
      simpa [numD, c1] using q
    · simpa [numD, c1] using q
  · rw [h1]
    cases hd
    refine iteF ?_
    walk_at "rd"
    rw [h2]
    refine iteT ?_
    walk_at "rd"
    exact q
  · rw [h1]
    refine iteT ?_
    walk_at "rd"
    rw [h2] at q
    exact q
abbrev s_is_stamp : Stmt := top 12
abbrev n_is_stamp : List Str := ["thing"]
abbrev p_is_stamp : List Str := ["thing"]
theorem sc_is_stamp : FnScope n_is_stamp p_is_stamp (defScope s_is_stamp) := ⟨rfl, rfl, rfl, by decide +kernel, rfl, by decide +kernel, by decide +kernel⟩
theorem ok_is_stamp (T : Txt mg t1 t2 t3 t4) {f : Addr} {fd : FuncData} (F : Fun K "is_stamp" "is_stamp" s_is_stamp f fd) (K_is_number : Cal P w K mg base CX0 1 "is_number" p_is_number (spD K numD)) (K_is_word : Cal P w K mg base CX0 1 "is_word" p_is_word (spD K wordD)) :
    FnOk P w K mg base CX0 2 f fd p_is_stamp (spD K stampD) := by
  refine F.ok sc_is_stamp (fun vs H Q E h => spD_len h) (fun cdv A outer s H vs Q E hr h => ?_)
  obtain ⟨v, d, rfl, hd, ho, k⟩ := h
  have hu := hr.units
  refine ⟨_, (pss_cons (ps_if (PW.pt (pw_or (pt_not (pt_val (pe_callB k_isi (by rfl) T.z_isinstance (by decide +kernel) (pa_cons (pv 0) (pa_cons (pe_bltn (v := .ty "tuple") rfl T.z_tuple (by decide +kernel) rfl) pa_nil))))) (pw_or1 (pt_cmpR (k_ne hu) (pe_callB k_len (by rfl) T.z_len (by decide +kernel) (pa_cons (pv 0) pa_nil)) pe_int (nomark _))))) (pss_one (ps_ret pe_bl)) pss_nil)
      (pss_one (ps_ret (pe_and (pe_cal K_is_number (hr.mono (by decide)) pass0 (pa_cons (pe_ix k_ix (pv 0) pe_int (fun _ _ => rfl)) pa_nil)) (pe_one (pe_cal K_is_word (hr.mono (by decide)) pass0 (pa_cons (pe_ix k_ix (pv 0) pe_int (fun _ _ => rfl)) pa_nil))))))), ?_⟩
  walk_at "rd"
  have q := k H (Same.refl H)
  rcases tup_or hd with ⟨a, xs, ds, rfl, rfl, ha, hds, e⟩ | ⟨e, hn⟩
  · rw [e]
    refine iteF ?_
    walk_at "rd"
    refine r_decN (fun c1 => ?_) (fun c1 => ?_)
    · walk_at "rd"
      rw [stampD_len (fun z => c1 (by rw [hds.length, z]; rfl))] at q
      exact q
    · obtain ⟨v0, v1, d0, d1, rfl, rfl, h0, h1⟩ := all_two hds (by omega)
      obtain ⟨_, o0, o1, _⟩ := ho
      walk_at "rd"
      refine r_spD h0 o0 fun H2 s2 => ?_
      walk_at "rd"
      have ha2 := s2 _ _ ha
      refine r_bool (fun c2 => ?_) (fun c2 => ?_)
      · walk_at "rd"
        refine r_spD (h1.same' s2) o1 fun H3 s3 => ?_
        have q := k H3 (s2.trans s3)
        simpa [stampD, c2] using q
      · have q := k H2 s2
        simpa [stampD, c2] using q
  · rw [e]
    refine iteT ?_
    walk_at "rd"
    rw [stampD_no hn] at q
    exact q
abbrev s_is_entry : Stmt := top 13
abbrev n_is_entry : List Str := ["thing", "key", "stamp", "value"]
abbrev p_is_entry : List Str := ["thing"]
theorem sc_is_entry : FnScope n_is_entry p_is_entry (defScope s_is_entry) := ⟨rfl, rfl, rfl, by decide +kernel, rfl, by decide +kernel, by decide +kernel⟩
theorem ok_is_entry (T : Txt mg t1 t2 t3 t4) {f : Addr} {fd : FuncData} (F : Fun K "is_entry" "is_entry" s_is_entry f fd) (K_is_word : Cal P w K mg base CX0 2 "is_word" p_is_word (spD K wordD)) (K_is_stamp : Cal P w K mg base CX0 2 "is_stamp" p_is_stamp (spD K stampD))
    (K_is_value : Cal P w K mg base CX0 2 "is_value" p_is_value (spD K valueD)) : FnOk P w K mg base CX0 3 f fd p_is_entry (spD K entryD) := by
  refine F.ok sc_is_entry (fun vs H Q E h => spD_len h) (fun cdv A outer s H vs Q E hr h => ?_)
  obtain ⟨v, d, rfl, hd, ho, k⟩ := h
  have hu := hr.units
  refine ⟨_, (pss_cons (ps_if (PW.pt (pw_or (pt_not (pt_val (pe_callB k_isi (by rfl) T.z_isinstance (by decide +kernel) (pa_cons (pv 0) (pa_cons (pe_bltn (v := .ty "tuple") rfl T.z_tuple (by decide +kernel) rfl) pa_nil))))) (pw_or1 (pt_cmpR (k_ne hu) (pe_callB k_len (by rfl) T.z_len (by decide +kernel) (pa_cons (pv 0) pa_nil)) pe_int (nomark _))))) (pss_one (ps_ret pe_bl)) pss_nil)
      (pss_cons (ps_asg (pv 0) (k_gtup rfl (pgs_cons (pg_name (i := 1) sc_is_entry.nd rfl (by first | exact Or.inl rfl | exact Or.inr rfl)) (pgs_cons (pg_name (i := 2) sc_is_entry.nd rfl (by first | exact Or.inl rfl | exact Or.inr rfl)) (pgs_cons (pg_name (i := 3) sc_is_entry.nd rfl (by first | exact Or.inl rfl | exact Or.inr rfl)) pgs_nil)))))
      (pss_one (ps_ret (pe_and (pe_cal K_is_word (hr.mono (by decide)) pass0 (pa_cons (pv 1) pa_nil)) (pe_and (pe_cal K_is_stamp (hr.mono (by decide)) pass0 (pa_cons (pv 2) pa_nil)) (pe_one (pe_or (pe_cmpR o_isN (pv 3) pe_non (nomark _)) (pe_one (pe_cal K_is_value (hr.mono (by decide)) pass0 (pa_cons (pv 3) pa_nil))))))))))), ?_⟩
  walk_at "rd"
  have q := k H (Same.refl H)
  rcases tup_or hd with ⟨a, xs, ds, rfl, rfl, ha, hds, e⟩ | ⟨e, hn⟩
  · rw [e]
    refine iteF ?_
    walk_at "rd"
    refine r_decN (fun c1 => ?_) (fun c1 => ?_)
    · walk_at "rd"
      rw [entryD_len (fun z => c1 (by rw [hds.length, z]; rfl))] at q
      exact q
    · obtain ⟨v0, v1, v2, d0, d1, d2, rfl, rfl, h0, h1, h2⟩ := all_three hds (by omega)
      obtain ⟨_, o0, o1, o2, _⟩ := ho
      walk_at "rd"
      refine r_spD h0 o0 fun H2 s2 => ?_
      walk_at "rd"
      refine r_bool (fun c2 => ?_) (fun c2 => ?_)
      · walk_at "rd"
        refine r_spD (h1.same' s2) o1 fun H3 s3 => ?_
        walk_at "rd"
        refine r_bool (fun c3 => ?_) (fun c3 => ?_)
        · walk_at "rd"
          rw [noneD_iff h2]
          refine r_bool (fun c4 => ?_) (fun c4 => ?_)
          · have q := k H3 (s2.trans s3)
            simpa [entryD, c2, c3, c4] using q
          · walk_at "rd"
            refine r_spD (h2.same' (s2.trans s3)) o2 fun H4 s4 => ?_
            have q := k H4 ((s2.trans s3).trans s4)
            simpa [entryD, c2, c3, c4] using q
        · have q := k H3 (s2.trans s3)
          simpa [entryD, c2, c3] using q
      · have q := k H2 s2
        simpa [entryD, c2] using q
  · rw [e]
    refine iteT ?_
    walk_at "rd"
    rw [entryD_no hn] at q
    exact q

end
end K02

set_option Elab.async false
set_option linter.all false
set_option maxRecDepth 100000
set_option maxHeartbeats 4000000
namespace K02
open PySem PySem.Spec PyProof.Rows L2 Tk TkM CwR SX
local macro_rules | `(tactic| walk_at "rd1") => `(tactic| first
  | with_reducible refine r_seq ?_
  | ((with_reducible refine r_var (v := ?vv) ?hrv ?_); (case hrv => rfl))
  | with_reducible refine r_c ?_
  | with_reducible refine r_op ?_
  | ((with_reducible refine r_ixL (xs := ?xx) (v := ?vv) ?hh ?he ?_); (case hh => first | assumption | exact upd_same); (case he => rfl))
  | with_reducible refine r_asg ?_
  | with_reducible refine r_sub ?_
  | ((with_reducible refine r_gTup (xs := ?xx) ?hh ?he ?_); (case hh => assumption); (case he => rfl))
  | with_reducible refine r_gCons ?_
  | with_reducible refine r_gNil ?_
  | ((with_reducible refine r_setL (xs := ?xx) (j := ?vv) ?hh ?he ?_); (case hh => first | assumption | exact upd_same); (case he => rfl))
  | with_reducible refine r_pow15 ?_
  | with_reducible refine r_pow18 ?_
  | with_reducible refine r_repr ?_
  | with_reducible refine iteT ?_
  | with_reducible refine iteF ?_
  | with_reducible refine r_cons ?_
  | with_reducible refine r_nil ?_
  | with_reducible refine r_call ?_
  | with_reducible refine r_cb ?_
  | with_reducible refine r_ret ?_
  | with_reducible refine r_gName ?_
  | with_reducible refine r_next ?_
  | with_reducible refine r_ifS ?_
  | with_reducible refine r_un ?_
  | with_reducible refine r_U ?_
  | with_reducible refine r_max2 ?_
  | with_reducible refine r_min2 ?_
  | with_reducible refine r_sl ?_
  | with_reducible refine r_noPart ?_
  | with_reducible refine r_part ?_
  | with_reducible refine r_inti ?_
  | with_reducible refine r_lc ?_
  | with_reducible refine r_for ?_
  | with_reducible refine r_rng1 ?_
  | with_reducible refine r_iList ?_
  | with_reducible refine r_iTup ?_
  | with_reducible refine r_iStr ?_
  | with_reducible refine r_strx ?_
  | ((with_reducible refine r_j ?hh ?hi ?_); (case hh => omega); (case hi => omega))
  | with_reducible refine r_m1 ?_
  | with_reducible refine r_test ?_
  | with_reducible refine r_B ?_
  | with_reducible refine r_not ?_
  | with_reducible refine r_and ?_
  | with_reducible refine r_or ?_
  | with_reducible refine r_andV ?_
  | with_reducible refine r_orV ?_
  | with_reducible refine r_notV ?_
  | with_reducible refine r_if ?_
  | with_reducible refine r_chain ?_
  | with_reducible refine r_lst ?_
  | with_reducible refine r_tup ?_
  | with_reducible refine r_k ?_
  | ((with_reducible refine r_isiS (d := ?dd) ?hh ?_); (case hh => assumption))
  | ((with_reducible refine r_isiT (d := ?dd) ?hh ?_); (case hh => assumption))
  | ((with_reducible refine r_isiI (d := ?dd) ?hh ?_); (case hh => assumption))
  | ((with_reducible refine r_isiB (d := ?dd) ?hh ?_); (case hh => assumption))
  | ((with_reducible refine r_lenS ?hh ?_); (case hh => assumption))
  | ((with_reducible refine r_lenT (xs := ?dd) ?hh ?_); (case hh => assumption))
  | ((with_reducible refine r_ixT (xs := ?xx) (v := ?vv) ?hh ?he ?_); (case hh => assumption); (case he => rfl))
  | with_reducible refine r_isN ?_
  | with_reducible refine r_I0 ?_
  | with_reducible refine g_addI ?_
  | ((with_reducible refine r_mod ?hh ?_); (case hh => first | decide | omega))
  | ((with_reducible refine r_div ?hh ?hi ?_); (case hh => first | decide | omega); (case hi => first | decide | omega))
  | ((with_reducible refine g_mulB ?hh ?hi ?_); (case hh => omega); (case hi => omega))
  | with_reducible refine g_ltI ?_
  | with_reducible refine g_leI ?_
  | with_reducible refine g_gtI ?_
  | with_reducible refine g_geI ?_
  | with_reducible refine g_eqI ?_
  | with_reducible refine g_neI ?_
  | with_reducible refine g_eqS ?_
  | with_reducible refine g_neS ?_
  | with_reducible refine g_leS ?_
  | with_reducible refine g_ltS ?_)
local macro_rules | `(tactic| walk_at "rd") => `(tactic| repeat (walk_at "rd1"))
local macro_rules | `(tactic| walk_at "ed") => `(tactic| repeat first
  | exact ed_int
  | exact ed_str
  | exact ed_bl
  | exact ed_non
  | exact ed_nil
  | exact ed_dct
  | exact ed_neg
  | with_reducible apply ed_cons
  | with_reducible apply ed_tup
  | with_reducible apply ed_lst
  | exact Nat.le_of_ble_eq_true rfl)
local macro_rules | `(tactic| walk_at "tx1") => `(tactic| first
  | walk_at "rd1"
  | with_reducible refine r_callS ?_
  | with_reducible refine r_par ?_
  | with_reducible refine r_pair ?_
  | with_reducible refine r_pow6 ?_
  | with_reducible refine r_m0 ?_
  | with_reducible refine r_bm ?_
  | with_reducible refine r_isS ?_
  | with_reducible refine r_told ?_
  | with_reducible refine r_js ?_
  | with_reducible refine r_jsNil ?_
  | with_reducible refine r_repl ?_
  | ((with_reducible refine r_gLst (xs := ?xx) ?hh ?he ?_); (case hh => assumption); (case he => rfl))
  | ((with_reducible refine r_lenL (xs := ?xx) ?hh ?_); (case hh => assumption)))
local macro_rules | `(tactic| walk_at "tx") => `(tactic| repeat (walk_at "tx1"))
section
variable {t1 t2 t3 t4 : Tok} {P : Program} {w : World} {K : PySem.W.Frag} {mg : Str → Option Value} {base : Heap}
/-- a text made of a text -/
def spTxt (n : Nat) (f : Str → Str) : Sp := fun vs H Q _ => ∃ x : Str, vs = [.str x] ∧ x.length ≤ n ∧ ∀ H', Same H H' → Q (.str (f x)) H'
theorem spTxt_len {n : Nat} {f : Str → Str} {vs : List V} {H : Hp} {Q : VK} {E : XK} (h : spTxt n f vs H Q E) : vs.length = 1 := by
  obtain ⟨x, rfl, _⟩ := h
  rfl
theorem r_txt {n : Nat} {f : Str → Str} {x : Str} {H : Hp} {Q : VK} {E : XK} (hx : x.length ≤ n) (q : ∀ H', Same H H' → Q (.str (f x)) H') : spTxt n f ([.str x] ++ []) H Q E := ⟨x, rfl, hx, q⟩
def told (x : Str) : Str := S (34 :: (esc x.cps.toList ++ [34]))
theorem told_is (x : Str) : Str.empty ++ "\"" ++ Txt.replace (Txt.replace x "\\" "\\\\") "\"" "\\\"" ++ "\"" = told x := by
  refine TL.ext_tl ?_
  have e : (Txt.replace (Txt.replace x "\\" "\\\\") "\"" "\\\"").cps.toList = esc x.cps.toList := by
    rw [StrLaws.replace_list (by decide), StrLaws.replace_list (by decide)]
    exact esc_repl _
  rw [TL.tl_append, TL.tl_append, TL.tl_append]
  show [] ++ [34] ++ (Txt.replace (Txt.replace x "\\" "\\\\") "\"" "\\\"").cps.toList ++ [34] = 34 :: (esc x.cps.toList ++ [34])
  rw [e]
  rfl
abbrev s_format_value : Stmt := top 14
abbrev n_format_value : List Str := ["value", "inner"]
abbrev p_format_value : List Str := ["value"]
theorem sc_format_value : FnScope n_format_value p_format_value (defScope s_format_value) := ⟨rfl, rfl, rfl, by decide +kernel, rfl, by decide +kernel, by decide +kernel⟩
theorem ok_format_value (T : Txt mg t1 t2 t3 t4) {f : Addr} {fd : FuncData} (F : Fun K "format_value" "format_value" s_format_value f fd) : FnOk P w K mg base CX0 1 f fd p_format_value (spTxt 1000 told) := by
  refine Fun_okT F sc_format_value (by decide +kernel) (by decide) (fun vs H Q E h => spTxt_len h) (fun cdv A outer s H vs Q E hr h => ?_)
  obtain ⟨x, rfl, hx, k⟩ := h
  refine ⟨_, (psst_cons (pst_set (i := 1) sc_format_value.nd rfl (by first | exact Or.inl rfl | exact Or.inr rfl) (pet_replT (pet_replC (pv 0))))
      (psst_one (pst_ret (PET.of (pe_joined (PJ.cons pe_str (PJ.cons (pe_fmt (pv 1)) (PJ.cons pe_str PJ.nil)))))))), ?_⟩
  have l1 : (Txt.replace x "\\" "\\\\").length ≤ 3002 := repl_le hx (show ("\\\\" : Str).length ≤ 2 by decide)
  have l2 : (Txt.replace (Txt.replace x "\\" "\\\\") "\"" "\\\"").length ≤ 9008 := repl_le l1 (show ("\\\"" : Str).length ≤ 2 by decide)
  walk_at "tx"
  refine r_replU (by omega) (by decide) ?_
  walk_at "tx"
  refine r_replU (by omega) (by decide) ?_
  walk_at "tx"
  refine r_fits (by decide) ?_
  walk_at "tx"
  refine r_fmtVar rfl (by omega) ?_
  walk_at "tx"
  have c1 : (Str.empty ++ "\"").length = 1 := by decide
  refine r_fits (by rw [cat_len, c1]; omega) ?_
  walk_at "tx"
  refine r_fits (by rw [cat_len, cat_len, c1, show ("\"" : Str).length = 1 by decide]; omega) ?_
  walk_at "tx"
  have q := k H (Same.refl H)
  rw [← told_is] at q
  exact q
abbrev s_likely_value : Stmt := top 19
abbrev n_likely_value : List Str := ["text"]
abbrev p_likely_value : List Str := ["text"]
theorem sc_likely_value : FnScope n_likely_value p_likely_value (defScope s_likely_value) := ⟨rfl, rfl, rfl, by decide +kernel, rfl, by decide +kernel, by decide +kernel⟩
theorem ok_likely_value (T : Txt mg t1 t2 t3 t4) {f : Addr} {fd : FuncData} (F : Fun K "likely_value" "likely_value" s_likely_value f fd) : FnOk P w K mg base CX0 1 f fd p_likely_value (spTxt 20000 unq) := by
  refine Fun_okT F sc_likely_value (by decide +kernel) (by decide) (fun vs H Q E h => spTxt_len h) (fun cdv A outer s H vs Q E hr h => ?_)
  obtain ⟨x, rfl, hx, k⟩ := h
  refine ⟨_, (psst_one (pst_ret (pet_replT (pet_replC (pe_slice k_slice (pv 0) (po_some pe_int) (po_some (pe_un un_neg pe_int))))))), ?_⟩
  have l0 := cutS_len x (some 1) (some (-1))
  walk_at "tx"
  refine g_slS (by omega) ?_
  walk_at "tx"
  refine r_replU (by omega) (by decide) ?_
  walk_at "tx"
  refine r_replU ?_ (by decide) (k _ (Same.refl H))
  have l1 : (Txt.replace (cutS x (some 1) (some (-1))) "\\\"" "\"").length ≤ 20000 + 20001 * 1 := repl_le (by omega) (show ("\"" : Str).length ≤ 1 by decide)
  exact Nat.le_trans l1 (by decide)
abbrev s_likely_number : Stmt := top 18
abbrev n_likely_number : List Str := ["text"]
abbrev p_likely_number : List Str := ["text"]
theorem sc_likely_number : FnScope n_likely_number p_likely_number (defScope s_likely_number) := ⟨rfl, rfl, rfl, by decide +kernel, rfl, by decide +kernel, by decide +kernel⟩
def spLikN (K : PySem.W.Frag) : Sp := fun vs H Q _ => ∃ x : Str, vs = [.str x] ∧ x.length ≤ 20000 ∧ ∀ v H', Same H H' → Dd K H' v (likN x) → Q v H'
theorem ok_likely_number (T : Txt mg t1 t2 t3 t4) {f : Addr} {fd : FuncData} (F : Fun K "likely_number" "likely_number" s_likely_number f fd) : FnOk P w K mg base CX0 1 f fd p_likely_number (spLikN K) := by
  refine F.ok sc_likely_number (fun vs H Q E h => ?_) (fun cdv A outer s H vs Q E hr h => ?_)
  · obtain ⟨x, rfl, _⟩ := h
    rfl
  obtain ⟨x, rfl, hx, k⟩ := h
  have hu := hr.units
  refine ⟨_, (pss_cons (ps_if (PW.pt (pw_or (pt_cmpR o_gt (pe_callB k_len (by rfl) T.z_len (by decide +kernel) (pa_cons (pv 0) pa_nil)) (pe_glob (v := V.int (16)) rfl T.g_MOST_DIGITS ⟨_, rfl⟩) (nomark _)) (pw_or1 (pt_not (PW.pt (pw_and (pt_val (pe_m0 PySem.F.slot_str_isascii PySem.F.type_str_isascii k_ascii (pv 0))) (pw_and1 (pt_val (pe_m0 PySem.F.slot_str_isdigit PySem.F.type_str_isdigit k_digit (pv 0)))))))))) (pss_one (ps_ret pe_non)) pss_nil)
      (pss_one (ps_ret (pe_callTy call_int_str (by rfl) T.z_int (by decide +kernel) (pa_cons (pv 0) pa_nil))))), ?_⟩
  walk_at "tx"
  refine r_lenS (by omega) ?_
  walk_at "tx"
  have no : ∀ b : Bool, b = true → (decide ((16 : Int) < (x.length : Int)) || !(Txt.isascii x && Txt.isdigit x)) = b → Q .non H := fun b e1 e2 => by
    subst e1
    refine k _ H (Same.refl H) ?_
    unfold likN
    rw [e2]
    exact .non
  refine r_dec (fun c => ?_) (fun c => ?_)
  · walk_at "tx"
    exact no _ rfl (by simp [c])
  · walk_at "tx"
    refine r_bool (fun c1 => ?_) (fun c1 => ?_)
    · walk_at "tx"
      refine r_boolN (fun c2 => ?_) (fun c2 => ?_)
      · walk_at "tx"
        exact no _ rfl (by simp [c1, c2])
      · walk_at "tx"
        have e := digits_told x.cps.toList
        rw [S_tl, c1, c2, Bool.and_self] at e
        have e' := e.symm
        rw [Bool.and_eq_true] at e'
        have hl : x.cps.toList.length = x.length := by rw [Array.length_toList]; rfl
        have n := int_S (a := x.cps.toList) e'.2 (by intro z; rw [z] at e'; exact nomatch e'.1) (by omega)
        rw [S_tl] at n
        refine ⟨x, _, rfl, n, by omega, ?_⟩
        refine k _ H (Same.refl H) ?_
        unfold likN
        rw [if_neg (by simp [c, c1, c2])]
        exact .int _
    · walk_at "tx"
      exact no _ rfl (by simp [c1])
abbrev s_likely_entry : Stmt := top 17
abbrev n_likely_entry : List Str := ["text", "parts", "key", "stamp", "told", "number", "_", "home", "value"]
abbrev p_likely_entry : List Str := ["text"]
theorem sc_likely_entry : FnScope n_likely_entry p_likely_entry (defScope s_likely_entry) := ⟨rfl, rfl, rfl, by decide +kernel, rfl, by decide +kernel, by decide +kernel⟩
def spLikE (K : PySem.W.Frag) : Sp := fun vs H Q _ => ∃ x : Str, vs = [.str x] ∧ x.length ≤ 20000 ∧ ∀ v H', Same H H' → Dd K H' v (likE x) → Q v H'
theorem ok_likely_entry (T : Txt mg t1 t2 t3 t4) {f : Addr} {fd : FuncData} (F : Fun K "_likely_entry" "_likely_entry" s_likely_entry f fd) (K_likely_value : Cal P w K mg base CX0 1 "likely_value" p_likely_value (spTxt 20000 unq))
    (K_likely_number : Cal P w K mg base CX0 1 "likely_number" p_likely_number (spLikN K)) : FnOk P w K mg base CX0 2 f fd p_likely_entry (spLikE K) := by
  refine F.ok sc_likely_entry (fun vs H Q E h => ?_) (fun cdv A outer s H vs Q E hr h => ?_)
  · obtain ⟨x, rfl, _⟩ := h
    rfl
  obtain ⟨x, rfl, hx, k⟩ := h
  have hu := hr.units
  refine ⟨_, (pss_cons (ps_set (i := 1) sc_likely_entry.nd rfl (by first | exact Or.inl rfl | exact Or.inr rfl) (pe_bm PySem.F.plainAttrs_str PySem.F.slot_str_split PySem.F.type_str_split k_split2 (pv 0) (pa_cons pe_str (pa_cons pe_int pa_nil))))
      (pss_cons (ps_if (pt_cmpR o_lt (pe_callB k_len (by rfl) T.z_len (by decide +kernel) (pa_cons (pv 1) pa_nil)) pe_int (nomark _)) (pss_one (ps_ret pe_non)) pss_nil)
      (pss_cons (ps_asg (pv 1) (k_glst rfl (pgs_cons (pg_name (i := 2) sc_likely_entry.nd rfl (by first | exact Or.inl rfl | exact Or.inr rfl)) (pgs_cons (pg_name (i := 3) sc_likely_entry.nd rfl (by first | exact Or.inl rfl | exact Or.inr rfl)) (pgs_cons (pg_name (i := 4) sc_likely_entry.nd rfl (by first | exact Or.inl rfl | exact Or.inr rfl)) pgs_nil)))))
      (pss_cons (ps_asg (pe_m1 PySem.F.slot_str_partition PySem.F.type_str_partition k_part3 (pv 3) pe_str) (k_gtup rfl (pgs_cons (pg_name (i := 5) sc_likely_entry.nd rfl (by first | exact Or.inl rfl | exact Or.inr rfl)) (pgs_cons (pg_name (i := 6) sc_likely_entry.nd rfl (by first | exact Or.inl rfl | exact Or.inr rfl)) (pgs_cons (pg_name (i := 7) sc_likely_entry.nd rfl (by first | exact Or.inl rfl | exact Or.inr rfl)) pgs_nil)))))
      (pss_cons (ps_set (i := 8) sc_likely_entry.nd rfl (by first | exact Or.inl rfl | exact Or.inr rfl) (pe_ifExp (pt_cmpR (k_eq hu) (pv 4) pe_str (nomark _)) pe_non (pe_cal K_likely_value (hr.mono (by decide)) pass0 (pa_cons (pv 4) pa_nil))))
      (pss_one (ps_ret (pe_tup (pa_cons (pv 2) (pa_cons (pe_tup (pa_cons (pe_cal K_likely_number (hr.mono (by decide)) pass0 (pa_cons (pv 5) pa_nil)) (pa_cons (pv 7) pa_nil))) (pa_cons (pv 8) pa_nil))))))))))), ?_⟩
  walk_at "tx"
  refine ⟨rfl, ?_⟩
  walk_at "tx"
  refine r_split2 (by decide) (by decide) (by decide) (by omega) fun L H1 n1 s1 e1 => ?_
  have few := split2_few x 32
  walk_at "tx"
  have few' : (Txt.splitMax x " " 2).length ≤ 3 := few
  have short := splitMax_le x " " 2
  have due : likE x = (match Txt.splitMax x " " 2 with | [k, st, told] => likT k st told | _ => .none) := rfl
  generalize Txt.splitMax x " " 2 = ys at *
  refine r_dec (fun c => ?_) (fun c => ?_)
  · walk_at "tx"
    refine k _ H1 s1 ?_
    rw [due]
    rw [List.length_map] at c
    match ys, c with
    | [], _ => exact .non
    | [_], _ => exact .non
    | [_, _], _ => exact .non
    | _ :: _ :: _ :: _, c => simp at c; omega
  · rw [List.length_map] at c
    match ys, c, few', short, due, e1 with
    | [y, st, td], c, few', short, due, e1 =>
      have l1 := short y (by simp)
      have l2 := short st (by simp)
      have l3 := short td (by simp)
      have l4 := part3_le st "."
      have e1 : H1 L = some (.lst [.str y, .str st, .str td]) := e1
      walk_at "tx"
      refine r_part3 (a := st) (b := ".") (by decide) (by omega) fun T2 H2 n2 s2 e2 => ?_
      have due : likE x = .tuple [.str y, .tuple [likN (Txt.partition st ".").1, .str (Txt.partition st ".").2.2], if (td == S [45]) = true then .none else .str (unq td)] := due
      generalize Txt.partition st "." = pt at *
      obtain ⟨p1, p2, p3⟩ := pt
      have e2 : H2 T2 = some (.tup [.str p1, .str p2, .str p3]) := e2
      have due : likE x = .tuple [.str y, .tuple [likN p1, .str p3], if (td == S [45]) = true then .none else .str (unq td)] := due
      have l5 : p1.length ≤ x.length := Nat.le_trans l4.1 l2
      walk_at "tx"
      have fin : ∀ (u : V) (H3 : Hp), Same H2 H3 → (∀ H4, Same H3 H4 → Dd K H4 u (if (td == S [45]) = true then .none else .str (unq td))) →
          ∀ v1 H4, Same H3 H4 → Dd K H4 v1 (likN p1) → ∀ q1 H5, Same H4 H5 → H5 q1 = some (.tup [v1, .str p3]) → ∀ q2 H6, Same H5 H6 → H6 q2 = some (.tup [.str y, .ref q1, u]) → Q (.ref q2) H6 := fun u H3 s3 du v1 H4 s4 d4 q1 H5 s5 e5 q2 H6 s6 e6 => by
        refine k _ H6 (s1.trans (s2.trans (s3.trans (s4.trans (s5.trans s6))))) ?_
        rw [due]
        refine .tup e6 (.cons (.str _) (.cons (.tup (s6 _ _ e5) (.cons (Dd.same (s5.trans s6) _ _ d4) (.cons (.str _) .nil))) (.cons (du _ (s4.trans (s5.trans s6))) .nil)))
      refine r_dec (fun cc => ?_) (fun cc => ?_)
      · walk_at "tx"
        refine ⟨p1, rfl, by omega, fun v1 H3 s3 d3 => ?_⟩
        walk_at "tx"
        refine a_tup (by simp) fun q1 H5 n5 s5 e5 => ?_
        walk_at "tx"
        refine a_tup (by simp) fun q2 H6 n6 s6 e6 => ?_
        refine fin .non H2 (Same.refl H2) (fun H4 _ => ?_) v1 H3 s3 d3 q1 H5 s5 e5 q2 H6 s6 e6
        have cc' : td = S [45] := cc
        rw [cc', if_pos (by decide)]
        exact .non
      · walk_at "tx"
        refine r_txt (by omega) fun H3 s3 => ?_
        walk_at "tx"
        refine ⟨p1, rfl, by omega, fun v1 H4 s4 d4 => ?_⟩
        walk_at "tx"
        refine a_tup (by simp) fun q1 H5 n5 s5 e5 => ?_
        walk_at "tx"
        refine a_tup (by simp) fun q2 H6 n6 s6 e6 => ?_
        refine fin (.str (unq td)) H3 s3 (fun H5 _ => ?_) v1 H4 s4 d4 q1 H5 s5 e5 q2 H6 s6 e6
        have cc' : ¬ (td == S [45]) = true := fun z => cc (eq_of_beq z)
        rw [if_neg cc']
        exact .str _
    | [], c, _, _, _, _ => simp at c
    | [_], c, _, _, _, _ => simp at c
    | [_, _], c, _, _, _, _ => simp at c
    | _ :: _ :: _ :: _ :: _, _, few', _, _, _ => simp at few'
theorem fmt_is (ky hm : List Nat) (n : Nat) (o : Option (List Nat)) : Str.empty ++ S ky ++ " " ++ Str.ofString (toString ((n : Nat) : Int)) ++ "." ++ S hm ++ " " ++ S (toldL o) = S (fmtL (ky, n, hm, o)) := by
  rw [num_S]
  show S [] ++ S ky ++ S [32] ++ S (TL.numL n) ++ S [46] ++ S hm ++ S [32] ++ S (toldL o) = _
  simp only [S_cat]
  unfold fmtL
  simp
theorem esc_len (v : List Nat) : (esc v).length ≤ 2 * v.length := by
  induction v with
  | nil => exact Nat.le_refl _
  | cons c v ih =>
    rw [esc_cons, List.length_append, List.length_cons]
    split <;> simp <;> omega
/-- the lengths of an entry's parts -/
structure Lens (e : Ent) : Prop where
  a : (S e.1).length ≤ 8
  b : (Str.ofString (toString ((e.2.1 : Nat) : Int))).length ≤ 16
  c : (S e.2.2.1).length ≤ 8
  d : (S (toldL e.2.2.2)).length ≤ 82
  z : ((e.2.1 : Nat) : Int).natAbs.log2 < 1920
  v : ∀ u, e.2.2.2 = some u → (S u).length ≤ 40
theorem fmt_lens {e : Ent} (h : IsE e) : Lens e := by
  obtain ⟨k, n, m, o⟩ := e
  have hi : n ≤ 1000000000000000 := h.hi
  refine ⟨?_, ?_, ?_, ?_, ?_, ?_⟩
  · rw [S_len]; exact (word_len h.key).2
  · rw [num_S, S_len]; exact num_len hi
  · rw [S_len]; exact (word_len h.home).2
  · rw [S_len]
    cases o with
    | none => exact (by decide : ([45] : List Nat).length ≤ 82)
    | some u =>
      have := value_len (h.val u rfl)
      have := esc_len u
      show (34 :: (esc u ++ [34])).length ≤ 82
      simp
      omega
  · show n.log2 < 1920
    exact Nat.lt_of_le_of_lt (Nat.log2_le_self n |> fun _ => (by
      have : n.log2 < 50 := by
        by_cases z : n = 0
        · subst z; decide
        · exact (Nat.log2_lt z).mpr (by omega)
      exact Nat.le_of_lt this)) (by decide : 50 < 1920)
  · intro u e
    rw [S_len]
    exact value_len (h.val u e)
/-! what is raised -/
def raised (C : Addr) (v : V) (H : Hp) (E : XK) : Prop := ∀ d H', H d = none → Same H H' → H' d = some (.xd (valF v)) → E (.ref C) (some d) H'
theorem mk_raised {C : Addr} {v : V} {H H1 : Hp} {E : XK} (h : raised C v H E) (s : Same H H1) : MkG K C v H1 fun cls d H' => E cls d H' := r_mk fun d H2 n2 s2 e2 => h d H2 (by
  cases z : H d with
  | none => rfl
  | some o => rw [s _ _ z] at n2; cases n2) (s.trans s2) e2
/-- format_entry -/
def spFmt (K : PySem.W.Frag) (C : Addr) : Sp := fun vs H Q E => ∃ (v : V) (d : PyData), vs = [v] ∧ Dd K H v d ∧ okD d ∧ (∀ e : Ent, d = entD e → IsE e → ∀ H', Same H H' → Q (.str (S (fmtL e))) H') ∧ (entryD d = false → raised C v H E)
abbrev s_format_entry : Stmt := top 15
abbrev n_format_entry : List Str := ["entry", "key", "number", "home", "value", "told"]
abbrev p_format_entry : List Str := ["entry"]
theorem sc_format_entry : FnScope n_format_entry p_format_entry (defScope s_format_entry) := ⟨rfl, rfl, rfl, by decide +kernel, rfl, by decide +kernel, by decide +kernel⟩
theorem ok_format_entry {CB : Addr} (T : Txt mg t1 t2 t3 t4) (R_BadEntry : ExcR P w K mg base "BadEntry" CB) {f : Addr} {fd : FuncData} (F : Fun K "format_entry" "format_entry" s_format_entry f fd) (K_is_entry : Cal P w K mg base CX0 3 "is_entry" p_is_entry (spD K entryD))
    (K_format_value : Cal P w K mg base CX0 1 "format_value" p_format_value (spTxt 1000 told)) : FnOk P w K mg base (L2.CX P w) 4 f fd p_format_entry (spFmt K CB) := by
  refine F.okX sc_format_entry (fun vs H Q E h => ?_) (fun cdv A outer s H vs Q E hr h => ?_)
  · obtain ⟨v, d, rfl, _⟩ := h
    rfl
  obtain ⟨v, d, rfl, hd, ho, k, kx⟩ := h
  have hu := hr.units
  refine ⟨_, (pss_cons (ps_if (pt_not (pt_val (pe_cal K_is_entry (hr.mono (by decide)) pass0 (pa_cons (pv 0) pa_nil)))) (pss_one (ps_raiseV R_BadEntry (takes_of rfl rfl rfl rfl) (hr.mono (by decide)) (pv 0))) pss_nil)
      (pss_cons (ps_asg (pv 0) (k_gtup rfl (pgs_cons (pg_name (i := 1) sc_format_entry.nd rfl (by first | exact Or.inl rfl | exact Or.inr rfl)) (pgs_cons (k_gtup rfl (pgs_cons (pg_name (i := 2) sc_format_entry.nd rfl (by first | exact Or.inl rfl | exact Or.inr rfl)) (pgs_cons (pg_name (i := 3) sc_format_entry.nd rfl (by first | exact Or.inl rfl | exact Or.inr rfl)) pgs_nil))) (pgs_cons (pg_name (i := 4) sc_format_entry.nd rfl (by first | exact Or.inl rfl | exact Or.inr rfl)) pgs_nil)))))
      (pss_cons (ps_set (i := 5) sc_format_entry.nd rfl (by first | exact Or.inl rfl | exact Or.inr rfl) (pe_ifExp (pt_cmpR o_isN (pv 4) pe_non (nomark _)) pe_str (pe_cal K_format_value (hr.mono (by decide)) pass0 (pa_cons (pv 4) pa_nil))))
      (pss_one (ps_ret (pe_joined (PJ.cons (pe_fmt (pv 1)) (PJ.cons pe_str (PJ.cons (pe_fmt (pv 2)) (PJ.cons pe_str (PJ.cons (pe_fmt (pv 3)) (PJ.cons pe_str (PJ.cons (pe_fmt (pv 5)) PJ.nil))))))))))))), ?_⟩
  walk_at "tx"
  refine r_spD hd ho fun H1 s1 => ?_
  walk_at "tx"
  refine r_boolN (fun c => ?_) (fun c => ?_)
  · refine r_raise ?_
    walk_at "tx"
    exact mk_raised (kx c) s1
  · obtain ⟨e, rfl⟩ := ent_of c
    have ie := isE_iff.mp c
    have k := k e rfl ie
    obtain ⟨ky, n, hm, o⟩ := e
    have hd1 := Dd.same s1 _ _ hd
    cases hd1 with
    | tup a1 al =>
      cases al with
      | cons d1 al =>
        cases al with
        | cons d2 al =>
          cases al with
          | cons d3 al =>
            cases al
            cases d1
            cases d2 with
            | tup a2 al2 =>
              cases al2 with
              | cons b1 al2 =>
                cases al2 with
                | cons b2 al2 =>
                  cases al2
                  cases b1
                  cases b2
                  have l1 := fmt_lens ie
                  walk_at "tx"
                  have fin : ∀ H2, Same H1 H2 → ∀ y : Str, y = S (toldL o) → Q (.str (Str.empty ++ S ky ++ " " ++ Str.ofString (toString ((n : Nat) : Int)) ++ "." ++ S hm ++ " " ++ y)) H2 := fun H2 s2 y ey => by
                    rw [ey, fmt_is]
                    exact k H2 (s1.trans s2)
                  have c0 : Str.empty.length = 0 := rfl
                  have c1 : (" " : Str).length = 1 := by decide
                  have c2 : ("." : Str).length = 1 := by decide
                  obtain ⟨la, lb, lc, ld, lz, lv⟩ := l1
                  have la : (S ky).length ≤ 8 := la
                  have lb : (Str.ofString (toString ((n : Nat) : Int))).length ≤ 16 := lb
                  have lc : (S hm).length ≤ 8 := lc
                  have tail : ∀ (H2 : Hp) (y : Str), Same H1 H2 → y = S (toldL o) → ∀ (v0 v4 : V), tJs [tFmt (tVar 1), tC (.str " "), tFmt (tVar 2), tC (.str "."), tFmt (tVar 3), tC (.str " "), tFmt (tVar 5)] Str.empty
                      [some v0, some (.str (S ky)), some (.int (n : Nat)), some (.str (S hm)), some v4, some (.str y)] H2 fun out H3 => Q (.str out) H3 := fun H2 y s2 ey v0 v4 => by
                    have ly : y.length ≤ 82 := by rw [ey]; exact ld
                    walk_at "tx"
                    refine r_fmtVar rfl (by omega) ?_
                    walk_at "tx"
                    refine r_fits (by simp only [cat_len, c0, c1, c2]; omega) ?_
                    walk_at "tx"
                    refine r_fits (by simp only [cat_len, c0, c1, c2]; omega) ?_
                    walk_at "tx"
                    refine r_fmtInt rfl lz ?_
                    walk_at "tx"
                    refine r_fits (by simp only [cat_len, c0, c1, c2]; omega) ?_
                    walk_at "tx"
                    refine r_fits (by simp only [cat_len, c0, c1, c2]; omega) ?_
                    walk_at "tx"
                    refine r_fmtVar rfl (by omega) ?_
                    walk_at "tx"
                    refine r_fits (by simp only [cat_len, c0, c1, c2]; omega) ?_
                    walk_at "tx"
                    refine r_fits (by simp only [cat_len, c0, c1, c2]; omega) ?_
                    walk_at "tx"
                    refine r_fmtVar rfl (by omega) ?_
                    walk_at "tx"
                    refine r_fits (by simp only [cat_len, c0, c1, c2]; omega) ?_
                    walk_at "tx"
                    exact fin H2 s2 y ey
                  cases o with
                  | none =>
                    cases (show Dd K H1 _ PyData.none from d3)
                    refine r_dec (fun cc => ?_) (fun cc => absurd rfl cc)
                    walk_at "tx1"
                    walk_at "tx1"
                    walk_at "tx1"
                    exact tail H1 "-" (Same.refl H1) rfl _ _
                  | some u =>
                    cases (show Dd K H1 _ (PyData.str (S u)) from d3)
                    refine r_dec (fun cc => nomatch cc) (fun cc => ?_)
                    have lu := lv u rfl
                    walk_at "tx"
                    refine r_txt (by omega) fun H2 s2 => ?_
                    walk_at "tx1"
                    walk_at "tx1"
                    exact tail H2 (told (S u)) s2 rfl _ _
end
end K02

set_option Elab.async false
set_option linter.all false
set_option maxRecDepth 100000
set_option maxHeartbeats 4000000
namespace K02
open PySem PySem.Spec PyProof.Rows L2 Tk TkM CwR SX
local macro_rules | `(tactic| walk_at "rd1") => `(tactic| first
  | with_reducible refine r_seq ?_
  | ((with_reducible refine r_var (v := ?vv) ?hrv ?_); (case hrv => rfl))
  | with_reducible refine r_c ?_
  | with_reducible refine r_op ?_
  | ((with_reducible refine r_ixL (xs := ?xx) (v := ?vv) ?hh ?he ?_); (case hh => first | assumption | exact upd_same); (case he => rfl))
  | with_reducible refine r_asg ?_
  | with_reducible refine r_sub ?_
  | ((with_reducible refine r_gTup (xs := ?xx) ?hh ?he ?_); (case hh => assumption); (case he => rfl))
  | with_reducible refine r_gCons ?_
  | with_reducible refine r_gNil ?_
  | ((with_reducible refine r_setL (xs := ?xx) (j := ?vv) ?hh ?he ?_); (case hh => first | assumption | exact upd_same); (case he => rfl))
  | with_reducible refine r_pow15 ?_
  | with_reducible refine r_pow18 ?_
  | with_reducible refine r_repr ?_
  | with_reducible refine iteT ?_
  | with_reducible refine iteF ?_
  | with_reducible refine r_cons ?_
  | with_reducible refine r_nil ?_
  | with_reducible refine r_call ?_
  | with_reducible refine r_cb ?_
  | with_reducible refine r_ret ?_
  | with_reducible refine r_gName ?_
  | with_reducible refine r_next ?_
  | with_reducible refine r_ifS ?_
  | with_reducible refine r_un ?_
  | with_reducible refine r_U ?_
  | with_reducible refine r_max2 ?_
  | with_reducible refine r_min2 ?_
  | with_reducible refine r_sl ?_
  | with_reducible refine r_noPart ?_
  | with_reducible refine r_part ?_
  | with_reducible refine r_inti ?_
  | with_reducible refine r_lc ?_
  | with_reducible refine r_for ?_
  | with_reducible refine r_rng1 ?_
  | with_reducible refine r_iList ?_
  | with_reducible refine r_iTup ?_
  | with_reducible refine r_iStr ?_
  | with_reducible refine r_strx ?_
  | ((with_reducible refine r_j ?hh ?hi ?_); (case hh => omega); (case hi => omega))
  | with_reducible refine r_m1 ?_
  | with_reducible refine r_test ?_
  | with_reducible refine r_B ?_
  | with_reducible refine r_not ?_
  | with_reducible refine r_and ?_
  | with_reducible refine r_or ?_
  | with_reducible refine r_andV ?_
  | with_reducible refine r_orV ?_
  | with_reducible refine r_notV ?_
  | with_reducible refine r_if ?_
  | with_reducible refine r_chain ?_
  | with_reducible refine r_lst ?_
  | with_reducible refine r_tup ?_
  | with_reducible refine r_k ?_
  | ((with_reducible refine r_isiS (d := ?dd) ?hh ?_); (case hh => assumption))
  | ((with_reducible refine r_isiT (d := ?dd) ?hh ?_); (case hh => assumption))
  | ((with_reducible refine r_isiI (d := ?dd) ?hh ?_); (case hh => assumption))
  | ((with_reducible refine r_isiB (d := ?dd) ?hh ?_); (case hh => assumption))
  | ((with_reducible refine r_lenS ?hh ?_); (case hh => assumption))
  | ((with_reducible refine r_lenT (xs := ?dd) ?hh ?_); (case hh => assumption))
  | ((with_reducible refine r_ixT (xs := ?xx) (v := ?vv) ?hh ?he ?_); (case hh => assumption); (case he => rfl))
  | with_reducible refine r_isN ?_
  | with_reducible refine r_I0 ?_
  | with_reducible refine g_addI ?_
  | ((with_reducible refine r_mod ?hh ?_); (case hh => first | decide | omega))
  | ((with_reducible refine r_div ?hh ?hi ?_); (case hh => first | decide | omega); (case hi => first | decide | omega))
  | ((with_reducible refine g_mulB ?hh ?hi ?_); (case hh => omega); (case hi => omega))
  | with_reducible refine g_ltI ?_
  | with_reducible refine g_leI ?_
  | with_reducible refine g_gtI ?_
  | with_reducible refine g_geI ?_
  | with_reducible refine g_eqI ?_
  | with_reducible refine g_neI ?_
  | with_reducible refine g_eqS ?_
  | with_reducible refine g_neS ?_
  | with_reducible refine g_leS ?_
  | with_reducible refine g_ltS ?_)
local macro_rules | `(tactic| walk_at "rd") => `(tactic| repeat (walk_at "rd1"))
local macro_rules | `(tactic| walk_at "ed") => `(tactic| repeat first
  | exact ed_int
  | exact ed_str
  | exact ed_bl
  | exact ed_non
  | exact ed_nil
  | exact ed_dct
  | exact ed_neg
  | with_reducible apply ed_cons
  | with_reducible apply ed_tup
  | with_reducible apply ed_lst
  | exact Nat.le_of_ble_eq_true rfl)
local macro_rules | `(tactic| walk_at "tx1") => `(tactic| first
  | walk_at "rd1"
  | with_reducible refine r_callS ?_
  | with_reducible refine r_par ?_
  | with_reducible refine r_pair ?_
  | with_reducible refine r_pow6 ?_
  | with_reducible refine r_m0 ?_
  | with_reducible refine r_bm ?_
  | with_reducible refine r_isS ?_
  | with_reducible refine r_told ?_
  | with_reducible refine r_js ?_
  | with_reducible refine r_jsNil ?_
  | with_reducible refine r_repl ?_
  | ((with_reducible refine r_gLst (xs := ?xx) ?hh ?he ?_); (case hh => assumption); (case he => rfl))
  | ((with_reducible refine r_lenL (xs := ?xx) ?hh ?_); (case hh => assumption)))
local macro_rules | `(tactic| walk_at "tx") => `(tactic| repeat (walk_at "tx1"))
section
variable {t1 t2 t3 t4 : Tok} {P : Program} {w : World} {K : PySem.W.Frag} {mg : Str → Option Value} {base : Heap}
theorem okD_lik {x : Str} (hx : x.length ≤ 20000) : okD (likE x) := by
  unfold likE
  have short := splitMax_le x (S [32]) 2
  generalize Txt.splitMax x (S [32]) 2 = ys at *
  match ys with
  | [y, st, td] =>
    have l1 := short y (by simp)
    have l2 := short st (by simp)
    have l3 := short td (by simp)
    have l4 := part3_le st (S [46])
    have l5 : (Txt.replace (cutS td (some 1) (some (-1))) (S [92, 34]) (S [34])).length ≤ 20000 + 20001 * 1 := repl_le (Nat.le_trans (cutS_len _ _ _) (by omega)) (by decide)
    have l6 : (unq td).length ≤ 40001 + 40002 * 1 := repl_le (Nat.le_trans l5 (by decide)) (by decide)
    have a : okD (likN (Txt.partition st (S [46])).1) := by
      unfold likN
      split <;> trivial
    have b : okD (if (td == S [45]) = true then PyData.none else PyData.str (unq td)) := by
      split
      · trivial
      · show (unq td).length ≤ 100000
        omega
    refine ⟨by simp, (show y.length ≤ 100000 by omega), ⟨by simp, a, (show (Txt.partition st (S [46])).2.2.length ≤ 100000 by omega), trivial⟩, b, trivial⟩
  | [] => trivial
  | [_] => trivial
  | [_, _] => trivial
  | _ :: _ :: _ :: _ :: _ => trivial
theorem entD_inj {e f : Ent} (h : entD e = entD f) : e = f := by
  obtain ⟨k, n, m, o⟩ := e
  obtain ⟨k', n', m', o'⟩ := f
  unfold entD at h
  injection h with h
  injection h with h1 h
  injection h1 with h1
  injection h with h2 h
  injection h with h3 _
  injection h2 with h2
  injection h2 with h4 h2
  injection h2 with h5 _
  injection h4 with h4
  injection h5 with h5
  have e1 : k = k' := S_inj h1
  have e2 : n = n' := Int.ofNat.inj h4
  have e3 : m = m' := S_inj h5
  have e4 : o = o' := by
    cases o with
    | none => cases o' with
      | none => rfl
      | some _ => cases h3
    | some u => cases o' with
      | none => cases h3
      | some u' =>
        have h3 : PyData.str (S u) = PyData.str (S u') := h3
        injection h3 with h3
        rw [S_inj h3]
  rw [e1, e2, e3, e4]
/-- parse_entry -/
def readD : PyData → Option Ent
  | .str x => readL x.cps.toList
  | _ => none
def spParse (K : PySem.W.Frag) (C : Addr) : Sp := fun vs H Q E => ∃ (v : V) (d : PyData), vs = [v] ∧ Dd K H v d ∧ (∀ x, d = .str x → x.length ≤ 20000) ∧ (∀ e : Ent, readD d = some e → ∀ v' H', Same H H' → Dd K H' v' (entD e) → Q v' H') ∧ (readD d = none → raised C v H E)
abbrev s_parse_entry : Stmt := top 16
abbrev n_parse_entry : List Str := ["text", "entry"]
abbrev p_parse_entry : List Str := ["text"]
theorem sc_parse_entry : FnScope n_parse_entry p_parse_entry (defScope s_parse_entry) := ⟨rfl, rfl, rfl, by decide +kernel, rfl, by decide +kernel, by decide +kernel⟩
theorem ok_parse_entry {CB CT : Addr} (T : Txt mg t1 t2 t3 t4) (R_BadText : ExcR P w K mg base "BadText" CT) {f : Addr} {fd : FuncData} (F : Fun K "parse_entry" "parse_entry" s_parse_entry f fd) (K_is_entry : Cal P w K mg base CX0 3 "is_entry" p_is_entry (spD K entryD))
    (K_likely_entry : Cal P w K mg base CX0 2 "_likely_entry" p_likely_entry (spLikE K)) (K_format_entry : Cal P w K mg base (L2.CX P w) 4 "format_entry" p_format_entry (spFmt K CB)) : FnOk P w K mg base (L2.CX P w) 5 f fd p_parse_entry (spParse K CT) := by
  refine F.okX sc_parse_entry (fun vs H Q E h => ?_) (fun cdv A outer s H vs Q E hr h => ?_)
  · obtain ⟨v, d, rfl, _⟩ := h
    rfl
  obtain ⟨v, d, rfl, hd, hx, k, kx⟩ := h
  have hu := hr.units
  refine ⟨_, (pss_cons (ps_set (i := 1) sc_parse_entry.nd rfl (by first | exact Or.inl rfl | exact Or.inr rfl) (pe_ifExp (pt_val (pe_callB k_isi (by rfl) T.z_isinstance (by decide +kernel) (pa_cons (pv 0) (pa_cons (pe_bltn (v := .ty "str") rfl T.z_str (by decide +kernel) rfl) pa_nil)))) (pe_cal K_likely_entry (hr.mono (by decide)) pass0 (pa_cons (pv 0) pa_nil)) pe_non))
      (pss_cons (ps_if (PW.pt (pw_or (pt_not (pt_val (pe_cal K_is_entry (hr.mono (by decide)) pass0 (pa_cons (pv 1) pa_nil)))) (pw_or1 (pt_cmpR (k_ne hu) (pe_cal K_format_entry (hr.mono (by decide)) (passOut (takes_of rfl rfl rfl rfl)) (pa_cons (pv 1) pa_nil)) (pv 0) (nomark _))))) (pss_one (ps_raiseV R_BadText (takes_of rfl rfl rfl rfl) (hr.mono (by decide)) (pv 0))) pss_nil)
      (pss_one (ps_ret (pv 1))))), ?_⟩
  walk_at "tx"
  rcases str_or d with ⟨x, rfl⟩ | hn
  · rw [isStr]
    refine iteT ?_
    have hx := hx x rfl
    cases hd
    walk_at "tx"
    refine ⟨x, rfl, hx, fun v1 H1 s1 d1 => ?_⟩
    walk_at "tx"
    refine r_spD d1 (okD_lik hx) fun H2 s2 => ?_
    walk_at "tx"
    have back : ∀ e : Ent, readL x.cps.toList = some e → likE x = entD e ∧ IsE e ∧ fmtL e = x.cps.toList := fun e h => by
      obtain ⟨a, b⟩ := read_back h
      refine ⟨?_, a, b⟩
      have := lik_fmt a
      rw [b, S_tl] at this
      exact this
    refine r_boolN (fun c => ?_) (fun c => ?_)
    · refine iteT (r_raise ?_)
      walk_at "tx"
      refine mk_raised (kx ?_) (s1.trans s2)
      cases e : readL x.cps.toList with
      | none => exact e
      | some en =>
        obtain ⟨z1, z2, _⟩ := back en e
        rw [z1, isE_iff.mpr z2] at c
        cases c
    · walk_at "tx"
      refine ⟨v1, likE x, rfl, Dd.same s2 _ _ d1, okD_lik hx, fun en he ie H3 s3 => ?_, fun z => by rw [z] at c; cases c⟩
      walk_at "tx"
      refine r_decN (fun c2 => ?_) (fun c2 => ?_)
      · refine r_raise ?_
        walk_at "tx"
        refine mk_raised (kx ?_) (s1.trans (s2.trans s3))
        cases e : readL x.cps.toList with
        | none => exact e
        | some e2 =>
          obtain ⟨z1, z2, z3⟩ := back e2 e
          have z4 := entD_inj (he.symm.trans z1)
          subst z4
          exact absurd (by rw [z3, S_tl]) c2
      · walk_at "tx"
        refine k en ?_ v1 H3 (s1.trans (s2.trans s3)) ?_
        · refine read_iff.mpr ⟨ie, ?_⟩
          rw [← c2]
        · rw [← he]
          exact Dd.same (s2.trans s3) _ _ d1
  · rw [isNotStr hn]
    refine iteF ?_
    walk_at "tx"
    refine r_spD .non trivial fun H2 s2 => ?_
    walk_at "tx"
    refine iteT (iteT (r_raise ?_))
    walk_at "tx"
    refine mk_raised (kx ?_) s2
    cases d <;> first | rfl | exact absurd rfl (hn _)
end
end K02

set_option Elab.async false
set_option linter.all false
set_option maxRecDepth 100000
set_option maxHeartbeats 4000000
namespace K02
open PySem PySem.Spec PyProof.Rows L2 Tk TkM CwR SX
local macro_rules | `(tactic| walk_at "rd1") => `(tactic| first
  | with_reducible refine r_seq ?_
  | ((with_reducible refine r_var (v := ?vv) ?hrv ?_); (case hrv => rfl))
  | with_reducible refine r_c ?_
  | with_reducible refine r_op ?_
  | ((with_reducible refine r_ixL (xs := ?xx) (v := ?vv) ?hh ?he ?_); (case hh => first | assumption | exact upd_same); (case he => rfl))
  | with_reducible refine r_asg ?_
  | with_reducible refine r_sub ?_
  | ((with_reducible refine r_gTup (xs := ?xx) ?hh ?he ?_); (case hh => assumption); (case he => rfl))
  | with_reducible refine r_gCons ?_
  | with_reducible refine r_gNil ?_
  | ((with_reducible refine r_setL (xs := ?xx) (j := ?vv) ?hh ?he ?_); (case hh => first | assumption | exact upd_same); (case he => rfl))
  | with_reducible refine r_pow15 ?_
  | with_reducible refine r_pow18 ?_
  | with_reducible refine r_repr ?_
  | with_reducible refine iteT ?_
  | with_reducible refine iteF ?_
  | with_reducible refine r_cons ?_
  | with_reducible refine r_nil ?_
  | with_reducible refine r_call ?_
  | with_reducible refine r_cb ?_
  | with_reducible refine r_ret ?_
  | with_reducible refine r_gName ?_
  | with_reducible refine r_next ?_
  | with_reducible refine r_ifS ?_
  | with_reducible refine r_un ?_
  | with_reducible refine r_U ?_
  | with_reducible refine r_max2 ?_
  | with_reducible refine r_min2 ?_
  | with_reducible refine r_sl ?_
  | with_reducible refine r_noPart ?_
  | with_reducible refine r_part ?_
  | with_reducible refine r_inti ?_
  | with_reducible refine r_lc ?_
  | with_reducible refine r_for ?_
  | with_reducible refine r_rng1 ?_
  | with_reducible refine r_iList ?_
  | with_reducible refine r_iTup ?_
  | with_reducible refine r_iStr ?_
  | with_reducible refine r_strx ?_
  | ((with_reducible refine r_j ?hh ?hi ?_); (case hh => omega); (case hi => omega))
  | with_reducible refine r_m1 ?_
  | with_reducible refine r_test ?_
  | with_reducible refine r_B ?_
  | with_reducible refine r_not ?_
  | with_reducible refine r_and ?_
  | with_reducible refine r_or ?_
  | with_reducible refine r_andV ?_
  | with_reducible refine r_orV ?_
  | with_reducible refine r_notV ?_
  | with_reducible refine r_if ?_
  | with_reducible refine r_chain ?_
  | with_reducible refine r_lst ?_
  | with_reducible refine r_tup ?_
  | with_reducible refine r_k ?_
  | ((with_reducible refine r_isiS (d := ?dd) ?hh ?_); (case hh => assumption))
  | ((with_reducible refine r_isiT (d := ?dd) ?hh ?_); (case hh => assumption))
  | ((with_reducible refine r_isiI (d := ?dd) ?hh ?_); (case hh => assumption))
  | ((with_reducible refine r_isiB (d := ?dd) ?hh ?_); (case hh => assumption))
  | ((with_reducible refine r_lenS ?hh ?_); (case hh => assumption))
  | ((with_reducible refine r_lenT (xs := ?dd) ?hh ?_); (case hh => assumption))
  | ((with_reducible refine r_ixT (xs := ?xx) (v := ?vv) ?hh ?he ?_); (case hh => assumption); (case he => rfl))
  | with_reducible refine r_isN ?_
  | with_reducible refine r_I0 ?_
  | with_reducible refine g_addI ?_
  | ((with_reducible refine r_mod ?hh ?_); (case hh => first | decide | omega))
  | ((with_reducible refine r_div ?hh ?hi ?_); (case hh => first | decide | omega); (case hi => first | decide | omega))
  | ((with_reducible refine g_mulB ?hh ?hi ?_); (case hh => omega); (case hi => omega))
  | with_reducible refine g_ltI ?_
  | with_reducible refine g_leI ?_
  | with_reducible refine g_gtI ?_
  | with_reducible refine g_geI ?_
  | with_reducible refine g_eqI ?_
  | with_reducible refine g_neI ?_
  | with_reducible refine g_eqS ?_
  | with_reducible refine g_neS ?_
  | with_reducible refine g_leS ?_
  | with_reducible refine g_ltS ?_)
local macro_rules | `(tactic| walk_at "rd") => `(tactic| repeat (walk_at "rd1"))
local macro_rules | `(tactic| walk_at "ed") => `(tactic| repeat first
  | exact ed_int
  | exact ed_str
  | exact ed_bl
  | exact ed_non
  | exact ed_nil
  | exact ed_dct
  | exact ed_neg
  | with_reducible apply ed_cons
  | with_reducible apply ed_tup
  | with_reducible apply ed_lst
  | exact Nat.le_of_ble_eq_true rfl)
local macro_rules | `(tactic| walk_at "tx1") => `(tactic| first
  | walk_at "rd1"
  | with_reducible refine r_callS ?_
  | with_reducible refine r_par ?_
  | with_reducible refine r_pair ?_
  | with_reducible refine r_pow6 ?_
  | with_reducible refine r_m0 ?_
  | with_reducible refine r_bm ?_
  | with_reducible refine r_isS ?_
  | with_reducible refine r_told ?_
  | with_reducible refine r_js ?_
  | with_reducible refine r_jsNil ?_
  | with_reducible refine r_repl ?_
  | ((with_reducible refine r_gLst (xs := ?xx) ?hh ?he ?_); (case hh => assumption); (case he => rfl))
  | ((with_reducible refine r_lenL (xs := ?xx) ?hh ?_); (case hh => assumption)))
local macro_rules | `(tactic| walk_at "tx") => `(tactic| repeat (walk_at "tx1"))
section
variable {t1 t2 t3 t4 : Tok} {P : Program} {w : World} {K : PySem.W.Frag} {mg : Str → Option Value} {base : Heap}
def wB : V → Bool
  | .str x => wordS x
  | _ => false
def vB : V → Bool
  | .non => true
  | .str x => valueS x
  | _ => false
theorem wB_of {xs : List V} {v : V} (h : xs.all wB = true) (m : v ∈ xs) : ∃ l : List Nat, v = .str (S l) ∧ wordS (S l) = true := by
  have z := List.all_eq_true.mp h v m
  unfold wB at z
  split at z
  · rename_i x
    exact ⟨x.cps.toList, by rw [S_tl], by rw [S_tl]; exact z⟩
  · cases z
theorem vB_of {xs : List V} {v : V} (h : xs.all vB = true) (m : v ∈ xs) : ∃ o : Option (List Nat), (∀ (K : PySem.W.Frag) (H : Hp), Dd K H v (optV o)) ∧ ∀ u, o = some u → valueS (S u) = true := by
  have z := List.all_eq_true.mp h v m
  unfold vB at z
  split at z
  · exact ⟨none, fun _ _ => .non, fun _ e => nomatch e⟩
  · rename_i x
    refine ⟨some x.cps.toList, fun _ _ => ?_, fun u e => ?_⟩
    · show Dd _ _ _ (PyData.str (S _))
      rw [S_tl]
      exact .str x
    · cases e
      rw [S_tl]
      exact z
  · cases z
/-- a drawn entry -/
def spEnt (K : PySem.W.Frag) : Sp := fun vs H Q _ => ∃ p : Addr, vs = [.ref p] ∧ PoolAt H p ∧ ∀ (v : V) (e : Ent) (H' : Hp), IsE e → Dd K H' v (entD e) → Drawn p H H' → Q v H'
abbrev s_L_entry : Stmt := top 23
abbrev n_L_entry : List Str := ["_law_pool_here", "_law_key", "_law_number", "_law_value"]
abbrev p_L_entry : List Str := ["_law_pool_here"]
theorem sc_L_entry : FnScope n_L_entry p_L_entry (defScope s_L_entry) := ⟨rfl, rfl, rfl, by decide +kernel, rfl, by decide +kernel, by decide +kernel⟩
theorem ok_L_entry (T : Txt mg t1 t2 t3 t4) {f : Addr} {fd : FuncData} (F : Fun K "_law_entry" "_law_entry" s_L_entry f fd) (K_L_take : Cal P w K mg base CX0 1 "_law_take" p_L_take spTake) : FnOk P w K mg base CX0 2 f fd p_L_entry (spEnt K) := by
  refine F.ok sc_L_entry (fun vs H Q E h => ?_) (fun cdv A outer s H vs Q E hr h => ?_)
  · obtain ⟨p, rfl, _⟩ := h
    rfl
  obtain ⟨p, rfl, hp, k⟩ := h
  have hu := hr.units
  refine ⟨_, (pss_cons (ps_set (i := 1) sc_L_entry.nd rfl (by first | exact Or.inl rfl | exact Or.inr rfl) (pe_ix k_ix (pe_lst (pa_cons pe_str (pa_cons pe_str (pa_cons pe_str (pa_cons pe_str pa_nil))))) (pe_cal K_L_take (hr.mono (by decide)) pass0 (pa_cons (pv 0) (pa_cons pe_int pa_nil))) (fun _ _ => rfl)))
      (pss_cons (ps_set (i := 2) sc_L_entry.nd rfl (by first | exact Or.inl rfl | exact Or.inr rfl) (pe_op k_add pe_int (pe_ix k_ix (pe_lst (pa_cons (pe_cal K_L_take (hr.mono (by decide)) pass0 (pa_cons (pv 0) (pa_cons pe_int pa_nil))) (pa_cons (pe_cal K_L_take (hr.mono (by decide)) pass0 (pa_cons (pv 0) (pa_cons (pe_op op_pow pe_int pe_int) pa_nil))) (pa_cons (pe_op op_sub (pe_op op_pow pe_int pe_int) pe_int) pa_nil)))) (pe_cal K_L_take (hr.mono (by decide)) pass0 (pa_cons (pv 0) (pa_cons pe_int pa_nil))) (fun _ _ => rfl))))
      (pss_cons (ps_set (i := 3) sc_L_entry.nd rfl (by first | exact Or.inl rfl | exact Or.inr rfl) (pe_ix k_ix (pe_lst (pa_cons pe_non (pa_cons pe_str (pa_cons pe_str (pa_cons pe_str (pa_cons pe_str (pa_cons pe_str (pa_cons (pe_op o_mul pe_str pe_int) (pa_cons pe_str pa_nil))))))))) (pe_cal K_L_take (hr.mono (by decide)) pass0 (pa_cons (pv 0) (pa_cons pe_int pa_nil))) (fun _ _ => rfl)))
      (pss_one (ps_ret (pe_tup (pa_cons (pv 1) (pa_cons (pe_tup (pa_cons (pv 2) (pa_cons (pe_ix k_ix (pe_lst (pa_cons pe_str (pa_cons pe_str pa_nil))) (pe_cal K_L_take (hr.mono (by decide)) pass0 (pa_cons (pv 0) (pa_cons pe_int pa_nil))) (fun _ _ => rfl)) pa_nil))) (pa_cons (pv 3) pa_nil))))))))), ?_⟩
  walk_at "tx"
  refine a_lst (by simp) fun L1 H1 n1 s1 e1 => ?_
  walk_at "tx"
  have p1 := hp.same s1
  refine r_take p1 (by decide) (by decide) fun r H2 r0 r1 d2 => ?_
  obtain ⟨v, hv, mv⟩ := at_drawn (xs := [V.str "k", V.str "l", V.str "abcdefgh", V.str "zz"]) r0 (by show _ < ((4 : Nat) : Int); omega)
  obtain ⟨ky, rfl, wk⟩ := wB_of (by decide +kernel) mv
  refine r_ixL (d2.kept _ _ e1 (hp.ne' n1)) hv ?_
  walk_at "tx"
  refine r_take d2.pool (by decide) (by decide) fun m1 H3 a0 a1 d3 => ?_
  walk_at "tx"
  refine r_take d3.pool (by decide) (by decide) fun m2 H4 b0 b1 d4 => ?_
  walk_at "tx"
  refine a_lst (by simp) fun L2 H5 n5 s5 e5 => ?_
  walk_at "tx"
  have p5 := d4.pool.same s5
  refine r_take p5 (by decide) (by decide) fun r2 H6 c0 c1 d6 => ?_
  obtain ⟨v2, hv2, mv2⟩ := at_drawn (xs := [V.int m1, V.int m2, V.int (1000000000000000 - 1)]) c0 (by show _ < ((3 : Nat) : Int); omega)
  obtain ⟨m, rfl, m0, mh⟩ : ∃ m : Int, v2 = .int m ∧ 0 ≤ m ∧ m ≤ 999999999999999 := by
    rcases List.mem_cons.mp mv2 with e | mv2
    · exact ⟨m1, e, a0, by omega⟩
    · rcases List.mem_cons.mp mv2 with e | mv2
      · exact ⟨m2, e, b0, by omega⟩
      · exact ⟨_, List.mem_singleton.mp mv2, by decide, by decide⟩
  refine r_ixL (d6.kept _ _ e5 (d4.pool.ne' n5)) hv2 ?_
  walk_at "tx"
  refine g_mulS ⟨by decide, fun _ _ => by decide, fun _ _ => by decide⟩ ?_
  walk_at "tx"
  refine a_lst (by simp) fun L3 H7 n7 s7 e7 => ?_
  walk_at "tx"
  have p7 := d6.pool.same s7
  refine r_take p7 (by decide) (by decide) fun r3 H8 f0 f1 d8 => ?_
  obtain ⟨v3, hv3, mv3⟩ := at_drawn (xs := [V.non, V.str "", V.str "x", V.str "say \"no\"", V.str "a\\b", V.str "two  words", V.str (Txt.mul "~" 40), V.str "-"]) f0 (by show _ < ((8 : Nat) : Int); omega)
  obtain ⟨o, hdo, vo⟩ := vB_of (by decide +kernel) mv3
  refine r_ixL (d8.kept _ _ e7 (d6.pool.ne' n7)) hv3 ?_
  walk_at "tx"
  refine a_lst (by simp) fun L4 H9 n9 s9 e9 => ?_
  walk_at "tx"
  have p9 := d8.pool.same s9
  refine r_take p9 (by decide) (by decide) fun r4 H10 h0 h1 d10 => ?_
  obtain ⟨v4, hv4, mv4⟩ := at_drawn (xs := [V.str "ann", V.str "b"]) h0 (by show _ < ((2 : Nat) : Int); omega)
  obtain ⟨hm, rfl, wh⟩ := wB_of (by decide +kernel) mv4
  refine r_ixL (d10.kept _ _ e9 (d8.pool.ne' n9)) hv4 ?_
  walk_at "tx"
  refine a_tup (by simp) fun T1 H11 n11 s11 e11 => ?_
  walk_at "tx"
  refine a_tup (by simp) fun T2 H12 n12 s12 e12 => ?_
  have en : ((1 + m).toNat : Int) = 1 + m := Int.toNat_of_nonneg (by omega)
  refine k _ (ky, (1 + m).toNat, hm, o) _ ⟨wk, by show 1 ≤ (1 + m).toNat; omega, by show (1 + m).toNat ≤ _; omega, wh, vo⟩ ?_ ?_
  · refine .tup e12 (.cons (.str _) (.cons (.tup (s12 _ _ e11) (.cons ?_ (.cons (.str _) .nil))) (.cons (hdo _ _) .nil)))
    show Dd K H12 (.int (1 + m)) (.int ((1 + m).toNat : Nat))
    rw [en]
    exact .int _
  · exact ((((((((((Drawn.of hp s1).trans d2).trans d3).trans d4).same s5).trans d6).same s7).trans d8).same s9).trans d10).same s11 |>.same s12
def esc1c (c : Nat) : List Nat := if c = 92 ∨ c = 34 then [92, c] else [c]
theorem join_flat : ∀ ys : List (List Nat), TL.joinL [] ys = ys.flatten
  | [] => rfl
  | [p] => by simp [TL.joinL]
  | p :: q :: r => by
    show p ++ ([] ++ TL.joinL [] (q :: r)) = _
    rw [join_flat (q :: r), List.nil_append, ← List.flatten_cons]
theorem esc_flat (v : List Nat) : (v.map esc1c).flatten = esc v := by
  unfold esc
  rw [List.flatMap_def]
  rfl
theorem found_is (ky hm : List Nat) (n : Nat) (o : Option (List Nat)) : S ky ++ " " ++ Str.ofString (toString ((n : Nat) : Int)) ++ "." ++ S hm ++ " " ++ S (toldL o) = S (fmtL (ky, n, hm, o)) := by
  rw [← fmt_is]
  have e : Str.empty ++ S ky = S ky := by
    show S [] ++ S ky = _
    rw [S_cat, List.nil_append]
  rw [e]
theorem quote_is (x : Str) (v : List Nat) : x ++ "\"" ++ S v ++ "\"" = x ++ S (34 :: (v ++ [34])) := by
  refine TL.ext_tl ?_
  rw [TL.tl_append, TL.tl_append, TL.tl_append, TL.tl_append]
  show TL.tl x ++ [34] ++ v ++ [34] = TL.tl x ++ (34 :: (v ++ [34]))
  simp
abbrev s_L_written : Stmt := top 24
abbrev n_L_written : List Str := ["_law_entry_here", "_law_found", "_law_inner", "_law_sign"]
abbrev p_L_written : List Str := ["_law_entry_here"]
theorem sc_L_written : FnScope n_L_written p_L_written (defScope s_L_written) := ⟨rfl, rfl, rfl, by decide +kernel, rfl, by decide +kernel, by decide +kernel⟩
/-- an entry's text, as the law writes it -/
def spWritten (K : PySem.W.Frag) : Sp := fun vs H Q _ => ∃ (v : V) (e : Ent), vs = [v] ∧ IsE e ∧ Dd K H v (entD e) ∧ ∀ H', Same H H' → Q (.str (S (fmtL e))) H'
theorem ok_L_written (T : Txt mg t1 t2 t3 t4) {f : Addr} {fd : FuncData} (F : Fun K "_law_written" "_law_written" s_L_written f fd) : FnOk P w K mg base CX0 1 f fd p_L_written (spWritten K) := by
  refine F.ok sc_L_written (fun vs H Q E h => ?_) (fun cdv A outer s H vs Q E hr h => ?_)
  · obtain ⟨v, e, rfl, _⟩ := h
    rfl
  obtain ⟨v, e, rfl, ie, hd, k⟩ := h
  have hu := hr.units
  refine ⟨_, (pss_cons (ps_set (i := 1) sc_L_written.nd rfl (by first | exact Or.inl rfl | exact Or.inr rfl) (pe_op k_add (pe_op k_add (pe_op k_add (pe_op k_add (pe_op k_add (pe_ix k_ix (pv 0) pe_int (fun _ _ => rfl)) pe_str) (pe_callTy k_str1 (by rfl) T.z_str (by decide +kernel) (pa_cons (pe_ix k_ix (pe_ix k_ix (pv 0) pe_int (fun _ _ => rfl)) pe_int (fun _ _ => rfl)) pa_nil))) pe_str) (pe_ix k_ix (pe_ix k_ix (pv 0) pe_int (fun _ _ => rfl)) pe_int (fun _ _ => rfl))) pe_str))
      (pss_cons (ps_if (pt_cmpR o_isN (pe_ix k_ix (pv 0) pe_int (fun _ _ => rfl)) pe_non (nomark _)) (pss_one (ps_ret (pe_op k_add (pv 1) pe_str))) pss_nil)
      (pss_cons (ps_set (i := 2) sc_L_written.nd rfl (by first | exact Or.inl rfl | exact Or.inr rfl) (k_joinK pe_str (pe_lc (own := [("_law_sign", 3)]) rfl sc_L_written.nd (pi_str (pe_ix k_ix (pv 0) pe_int (fun _ _ => rfl))) (blkOk_by (own := [("_law_sign", 3)]) (N := n_L_written) (sc := defScope s_L_written) (by decide +kernel)) (fun _ _ _ _ _ => (pg_name (i := 3) sc_L_written.nd rfl (by first | exact Or.inl rfl | exact Or.inr rfl))) (fun _ _ _ _ _ => pts_nil) (fun _ _ _ _ _ => (pe_op k_add (pe_ix k_ix (pe_lst (pa_cons pe_str (pa_cons pe_str pa_nil))) (pe_callTy k_int1 (by rfl) T.z_int (by decide +kernel) (pa_cons (pe_cmpR k_in (pv 3) (pe_lst (pa_cons pe_str (pa_cons pe_str pa_nil))) rfl) pa_nil)) (fun _ _ => rfl)) (pv 3))))))
      (pss_one (ps_ret (pe_op k_add (pe_op k_add (pe_op k_add (pv 1) pe_str) (pv 2)) pe_str)))))), ?_⟩
  obtain ⟨ky, n, hm, o⟩ := e
  cases hd with
  | tup a1 al =>
    cases al with
    | cons d1 al =>
      cases al with
      | cons d2 al =>
        cases al with
        | cons d3 al =>
          cases al
          cases d1
          cases d2 with
          | tup a2 al2 =>
            cases al2 with
            | cons b1 al2 =>
              cases al2 with
              | cons b2 al2 =>
                cases al2
                cases b1
                cases b2
                obtain ⟨la, lb, lc, ld, lz, lv⟩ := fmt_lens ie
                have la : (S ky).length ≤ 8 := la
                have lb : (Str.ofString (toString ((n : Nat) : Int))).length ≤ 16 := lb
                have lc : (S hm).length ≤ 8 := lc
                have c1 : (" " : Str).length = 1 := by decide
                have c2 : ("." : Str).length = 1 := by decide
                have c3 : ("\"" : Str).length = 1 := by decide
                have c4 : ("-" : Str).length = 1 := by decide
                walk_at "tx"
                refine g_addS (sz_of (by simp only [cat_len, c1, c2]; omega)) ?_
                walk_at "tx"
                refine r_str1 lz ?_
                walk_at "tx"
                refine g_addS (sz_of (by simp only [cat_len, c1, c2]; omega)) ?_
                walk_at "tx"
                refine g_addS (sz_of (by simp only [cat_len, c1, c2]; omega)) ?_
                walk_at "tx"
                refine g_addS (sz_of (by simp only [cat_len, c1, c2]; omega)) ?_
                walk_at "tx"
                refine g_addS (sz_of (by simp only [cat_len, c1, c2]; omega)) ?_
                walk_at "tx"
                cases o with
                | none =>
                  cases (show Dd K H _ PyData.none from d3)
                  refine r_dec (fun cc => ?_) (fun cc => absurd rfl cc)
                  walk_at "tx"
                  refine g_addS (sz_of (by simp only [cat_len, c1, c2, c4]; omega)) ?_
                  have q := k H (Same.refl H)
                  rw [← found_is] at q
                  exact q
                | some u =>
                  cases (show Dd K H _ (PyData.str (S u)) from d3)
                  have lu := lv u rfl
                  refine r_dec (fun cc => nomatch cc) (fun cc => ?_)
                  walk_at "tx"
                  refine r_lcStr (by omega) (fun _ => true) (fun v => .str (S (esc1c (codeV v)))) (fun c _ H2 R s2 q => q H2 (Same.refl H2)) (fun c _ _ H2 R s2 q => ?_) (fun Dl H2 hD s2 e => ?_)
                  · walk_at "tx"
                    refine a_lst (by simp) fun L1 H3 n3 s3 e3 => ?_
                    walk_at "tx"
                    refine a_lst (by simp) fun L2 H4 n4 s4 e4 => ?_
                    walk_at "tx"
                    refine r_inL e4 rfl rfl ?_
                    have z := in_two c 92 34
                    have z' : inV (V.str ⟨#[c]⟩) [V.str "\\", V.str "\""] = decide (c = 92 ∨ c = 34) := z
                    rw [z']
                    walk_at "tx"
                    refine r_int1 ?_
                    walk_at "tx"
                    have q2 := q H4 (s3.trans s4)
                    have e3' := s4 _ _ e3
                    unfold esc1c at q2
                    by_cases cc : c = 92 ∨ c = 34
                    · rw [codeV_sign, if_pos cc] at q2
                      rw [decide_eq_true cc]
                      refine r_ixL (v := .str "\\") e3' (by rfl) ?_
                      walk_at "tx"
                      refine g_addS (sz_of (n := 2) (by omega)) ?_
                      exact q2
                    · rw [codeV_sign, if_neg cc] at q2
                      rw [decide_eq_false cc]
                      refine r_ixL (v := .str "") e3' (by rfl) ?_
                      walk_at "tx"
                      refine g_addS (sz_of (n := 1) (by omega)) ?_
                      exact q2
                  · have e' : H2 Dl = some (.lst ((((u.map esc1c).map S)).map V.str)) := by
                      rw [e, filt_true, List.map_map, List.map_map]
                      rfl
                    have short : ∀ z ∈ (u.map esc1c).map S, z.length ≤ 2 := fun z hz => by
                      obtain ⟨y, hy, rfl⟩ := List.mem_map.mp hz
                      obtain ⟨c, _, rfl⟩ := List.mem_map.mp hy
                      rw [S_len]
                      unfold esc1c
                      split <;> simp
                    have sm := sum_le short
                    have ln : ((u.map esc1c).map S).length = u.length := by simp
                    have ul : u.length ≤ 40 := by rw [← S_len]; exact lu
                    have zl : ("" : Str).length = 0 := rfl
                    refine r_join e' (by rw [zl, Nat.mul_zero]; rw [ln] at sm; omega) ?_
                    have ej : Txt.join "" ((u.map esc1c).map S) = S (esc u) := by
                      have := join_S [] (u.map esc1c)
                      rw [join_flat, esc_flat] at this
                      exact this
                    rw [ej]
                    have el : (S (esc u)).length ≤ 80 := by
                      have := esc_len u
                      rw [S_len]
                      omega
                    walk_at "tx"
                    refine g_addS (sz_of (by simp only [cat_len, c1, c2, c3]; omega)) ?_
                    walk_at "tx"
                    refine g_addS (sz_of (by simp only [cat_len, c1, c2, c3]; omega)) ?_
                    walk_at "tx"
                    refine g_addS (sz_of (by simp only [cat_len, c1, c2, c3]; omega)) ?_
                    have q := k H2 s2
                    rw [← found_is] at q
                    rw [quote_is]
                    exact q
end
end K02

set_option Elab.async false
set_option linter.all false
set_option maxRecDepth 100000
set_option maxHeartbeats 4000000
namespace K02
open PySem PySem.Spec PyProof.Rows L2 Tk TkM CwR SX
local macro_rules | `(tactic| walk_at "rd1") => `(tactic| first
  | with_reducible refine r_seq ?_
  | ((with_reducible refine r_var (v := ?vv) ?hrv ?_); (case hrv => rfl))
  | with_reducible refine r_c ?_
  | with_reducible refine r_op ?_
  | ((with_reducible refine r_ixL (xs := ?xx) (v := ?vv) ?hh ?he ?_); (case hh => first | assumption | exact upd_same); (case he => rfl))
  | with_reducible refine r_asg ?_
  | with_reducible refine r_sub ?_
  | ((with_reducible refine r_gTup (xs := ?xx) ?hh ?he ?_); (case hh => assumption); (case he => rfl))
  | with_reducible refine r_gCons ?_
  | with_reducible refine r_gNil ?_
  | ((with_reducible refine r_setL (xs := ?xx) (j := ?vv) ?hh ?he ?_); (case hh => first | assumption | exact upd_same); (case he => rfl))
  | with_reducible refine r_pow15 ?_
  | with_reducible refine r_pow18 ?_
  | with_reducible refine r_repr ?_
  | with_reducible refine iteT ?_
  | with_reducible refine iteF ?_
  | with_reducible refine r_cons ?_
  | with_reducible refine r_nil ?_
  | with_reducible refine r_call ?_
  | with_reducible refine r_cb ?_
  | with_reducible refine r_ret ?_
  | with_reducible refine r_gName ?_
  | with_reducible refine r_next ?_
  | with_reducible refine r_ifS ?_
  | with_reducible refine r_un ?_
  | with_reducible refine r_U ?_
  | with_reducible refine r_max2 ?_
  | with_reducible refine r_min2 ?_
  | with_reducible refine r_sl ?_
  | with_reducible refine r_noPart ?_
  | with_reducible refine r_part ?_
  | with_reducible refine r_inti ?_
  | with_reducible refine r_lc ?_
  | with_reducible refine r_for ?_
  | with_reducible refine r_rng1 ?_
  | with_reducible refine r_iList ?_
  | with_reducible refine r_iTup ?_
  | with_reducible refine r_iStr ?_
  | with_reducible refine r_strx ?_
  | ((with_reducible refine r_j ?hh ?hi ?_); (case hh => omega); (case hi => omega))
  | with_reducible refine r_m1 ?_
  | with_reducible refine r_test ?_
  | with_reducible refine r_B ?_
  | with_reducible refine r_not ?_
  | with_reducible refine r_and ?_
  | with_reducible refine r_or ?_
  | with_reducible refine r_andV ?_
  | with_reducible refine r_orV ?_
  | with_reducible refine r_notV ?_
  | with_reducible refine r_if ?_
  | with_reducible refine r_chain ?_
  | with_reducible refine r_lst ?_
  | with_reducible refine r_tup ?_
  | with_reducible refine r_k ?_
  | ((with_reducible refine r_isiS (d := ?dd) ?hh ?_); (case hh => assumption))
  | ((with_reducible refine r_isiT (d := ?dd) ?hh ?_); (case hh => assumption))
  | ((with_reducible refine r_isiI (d := ?dd) ?hh ?_); (case hh => assumption))
  | ((with_reducible refine r_isiB (d := ?dd) ?hh ?_); (case hh => assumption))
  | ((with_reducible refine r_lenS ?hh ?_); (case hh => assumption))
  | ((with_reducible refine r_lenT (xs := ?dd) ?hh ?_); (case hh => assumption))
  | ((with_reducible refine r_ixT (xs := ?xx) (v := ?vv) ?hh ?he ?_); (case hh => assumption); (case he => rfl))
  | with_reducible refine r_isN ?_
  | with_reducible refine r_I0 ?_
  | with_reducible refine g_addI ?_
  | ((with_reducible refine r_mod ?hh ?_); (case hh => first | decide | omega))
  | ((with_reducible refine r_div ?hh ?hi ?_); (case hh => first | decide | omega); (case hi => first | decide | omega))
  | ((with_reducible refine g_mulB ?hh ?hi ?_); (case hh => omega); (case hi => omega))
  | with_reducible refine g_ltI ?_
  | with_reducible refine g_leI ?_
  | with_reducible refine g_gtI ?_
  | with_reducible refine g_geI ?_
  | with_reducible refine g_eqI ?_
  | with_reducible refine g_neI ?_
  | with_reducible refine g_eqS ?_
  | with_reducible refine g_neS ?_
  | with_reducible refine g_leS ?_
  | with_reducible refine g_ltS ?_)
local macro_rules | `(tactic| walk_at "rd") => `(tactic| repeat (walk_at "rd1"))
local macro_rules | `(tactic| walk_at "ed") => `(tactic| repeat first
  | exact ed_int
  | exact ed_str
  | exact ed_bl
  | exact ed_non
  | exact ed_nil
  | exact ed_dct
  | exact ed_neg
  | with_reducible apply ed_cons
  | with_reducible apply ed_tup
  | with_reducible apply ed_lst
  | exact Nat.le_of_ble_eq_true rfl)
local macro_rules | `(tactic| walk_at "tx1") => `(tactic| first
  | walk_at "rd1"
  | with_reducible refine r_callS ?_
  | with_reducible refine r_par ?_
  | with_reducible refine r_pair ?_
  | with_reducible refine r_pow6 ?_
  | with_reducible refine r_m0 ?_
  | with_reducible refine r_bm ?_
  | with_reducible refine r_isS ?_
  | with_reducible refine r_told ?_
  | with_reducible refine r_js ?_
  | with_reducible refine r_jsNil ?_
  | with_reducible refine r_repl ?_
  | ((with_reducible refine r_gLst (xs := ?xx) ?hh ?he ?_); (case hh => assumption); (case he => rfl))
  | ((with_reducible refine r_lenL (xs := ?xx) ?hh ?_); (case hh => assumption)))
local macro_rules | `(tactic| walk_at "tx") => `(tactic| repeat (walk_at "tx1"))
section
variable {t1 t2 t3 t4 : Tok} {P : Program} {w : World} {K : PySem.W.Frag} {mg : Str → Option Value} {base : Heap}
theorem vr_34 (r f : List Nat) : vr (34 :: r) f = none := by
  cases r with
  | nil => rfl
  | cons d r => rfl
theorem vr_bad {r f : List Nat} (h : ∀ d r', r = d :: r' → ¬ (d = 92 ∨ d = 34)) : vr (92 :: r) f = none := by
  cases r with
  | nil => rfl
  | cons d r =>
    unfold vr
    rw [if_neg (by decide), if_pos rfl, if_neg (h d r rfl)]
theorem vr_good {d : Nat} {r f : List Nat} (h : d = 92 ∨ d = 34) : vr (92 :: d :: r) f = vr r (f ++ [d]) := by
  show vr (92 :: d :: r) f = _
  rw [vr, if_neg (by decide), if_pos rfl, if_pos h]
theorem vr_plain {c : Nat} {r f : List Nat} (h1 : c ≠ 34) (h2 : c ≠ 92) : vr (c :: r) f = vr r (f ++ [c]) := by
  cases r with
  | nil =>
    unfold vr
    rw [if_neg (by omega)]
  | cons d r => rw [vr, if_neg h1, if_neg h2]
def vrD : Option (Option (List Nat)) → List PyData
  | none => []
  | some o => [optV o]
def spVr (K : PySem.W.Frag) : Sp := fun vs H Q _ => ∃ x : Str, vs = [.str x] ∧ x.length ≤ 20000 ∧ ∀ (v : V) (H' : Hp), Same H H' → (∃ (a : Addr) (xs : List V), v = .ref a ∧ H' a = some (.lst xs) ∧ DdAll K H' xs (vrD (valR x.cps.toList))) → Q v H'
abbrev s_L_value_read : Stmt := top 25
abbrev n_L_value_read : List Str := ["_law_text", "_law_rest", "_law_found"]
abbrev p_L_value_read : List Str := ["_law_text"]
theorem sc_L_value_read : FnScope n_L_value_read p_L_value_read (defScope s_L_value_read) := ⟨rfl, rfl, rfl, by decide +kernel, rfl, by decide +kernel, by decide +kernel⟩
theorem ok_L_value_read (T : Txt mg t1 t2 t3 t4) {f : Addr} {fd : FuncData} (F : Fun K "_law_value_read" "_law_value_read" s_L_value_read f fd) : FnOk P w K mg base CX0 1 f fd p_L_value_read (spVr K) := by
  refine F.ok sc_L_value_read (fun vs H Q E h => ?_) (fun cdv A outer s H vs Q E hr h => ?_)
  · obtain ⟨x, rfl, _⟩ := h
    rfl
  obtain ⟨x, rfl, hx, k⟩ := h
  obtain ⟨L, rfl⟩ : ∃ L, x = S L := ⟨x.cps.toList, (S_tl x).symm⟩
  have hl : L.length ≤ 20000 := by rw [← S_len]; exact hx
  have k : ∀ (v : V) (H' : Hp), Same H H' → (∃ (a : Addr) (xs : List V), v = .ref a ∧ H' a = some (.lst xs) ∧ DdAll K H' xs (vrD (valR L))) → Q v H' := k
  have fail : valR L = none → ∀ H1, Same H H1 → AllocL [] H1 Q := fun e H1 s1 => a_lst (by simp) fun p H2 n2 s2 e2 => k _ _ (s1.trans s2) ⟨p, [], rfl, e2, by rw [e]; exact .nil⟩
  have hu := hr.units
  refine ⟨_, (pss_cons (ps_if (pt_cmpR (k_eq hu) (pv 0) pe_str (nomark _)) (pss_one (ps_ret (pe_lst (pa_cons pe_non pa_nil)))) pss_nil)
      (pss_cons (ps_if (PW.pt (pw_or (pt_cmpR o_lt (pe_callB k_len (by rfl) T.z_len (by decide +kernel) (pa_cons (pv 0) pa_nil)) pe_int (nomark _)) (pw_or (pt_cmpR (k_ne hu) (pe_ix k_ix (pv 0) pe_int (fun _ _ => rfl)) pe_str (nomark _)) (pw_or1 (pt_cmpR (k_ne hu) (pe_ix k_ix (pv 0) (pe_un un_neg pe_int) (fun _ _ => rfl)) pe_str (nomark _)))))) (pss_one (ps_ret (pe_lst pa_nil))) pss_nil)
      (pss_cons (ps_par (i := 1) (j := 2) rfl sc_L_value_read.nd rfl rfl (by decide) rfl rfl (pa_cons (pe_slice k_slice (pv 0) (po_some pe_int) (po_some (pe_un un_neg pe_int))) (pa_cons pe_str pa_nil)) (by rfl))
      (pss_cons (ps_while PassesOwn.never (pt_cmpR (k_ne hu) (pv 1) pe_str (nomark _))
      (pss_cons (ps_if (PW.pt (pw_or (pt_cmpR (k_eq hu) (pe_ix k_ix (pv 1) pe_int (fun _ _ => rfl)) pe_str (nomark _)) (pw_or1 (PW.pt (pw_and (pt_cmpR (k_eq hu) (pe_ix k_ix (pv 1) pe_int (fun _ _ => rfl)) pe_str (nomark _)) (pw_and1 (pt_cmpR k_notin (pe_slice k_slice (pv 1) (po_some pe_int) (po_some pe_int)) (pe_lst (pa_cons pe_str (pa_cons pe_str pa_nil))) rfl))))))) (pss_one (ps_ret (pe_lst pa_nil))) pss_nil)
      (pss_cons (ps_set (i := 1) sc_L_value_read.nd rfl (by first | exact Or.inl rfl | exact Or.inr rfl) (pe_ifExp (pt_cmpR (k_eq hu) (pe_ix k_ix (pv 1) pe_int (fun _ _ => rfl)) pe_str (nomark _)) (pe_slice k_slice (pv 1) (po_some pe_int) po_none) (pv 1)))
      (pss_one (ps_par (i := 2) (j := 1) rfl sc_L_value_read.nd rfl rfl (by decide) rfl rfl (pa_cons (pe_op k_add (pv 2) (pe_ix k_ix (pv 1) pe_int (fun _ _ => rfl))) (pa_cons (pe_slice k_slice (pv 1) (po_some pe_int) po_none) pa_nil)) (by rfl))))))
      (pss_one (ps_ret (pe_lst (pa_cons (pv 2) pa_nil)))))))), ?_⟩
  walk_at "tx"
  refine r_dec (fun c1 => ?_) (fun c1 => ?_)
  · walk_at "tx"
    have e1 : L = [45] := S_inj (b := [45]) c1
    refine a_lst (by simp) fun p H2 n2 s2 e2 => k _ _ s2 ⟨p, _, rfl, e2, ?_⟩
    rw [e1]
    exact .cons .non .nil
  walk_at "tx"
  have c1 : L ≠ [45] := fun z => c1 (by rw [z]; rfl)
  refine r_lenS (by rw [S_len]; omega) ?_
  walk_at "tx"
  rw [S_len]
  refine r_dec (fun c2 => ?_) (fun c2 => ?_)
  · walk_at "tx"
    exact fail (by unfold valR; rw [if_neg c1, if_pos (.inl (by omega))]) H (Same.refl H)
  walk_at "tx"
  have c2 : 2 ≤ L.length := by omega
  obtain ⟨c, hc⟩ : ∃ c, L[0]? = some c := ⟨_, List.getElem?_eq_getElem (show 0 < L.length by omega)⟩
  obtain ⟨m, d, hd⟩ : ∃ m d, L = m ++ [d] := ⟨_, _, (List.dropLast_concat_getLast (l := L) (by intro z; rw [z] at c2; simp at c2)).symm⟩
  have hh : L.head? = some c := by rw [List.head?_eq_getElem?]; exact hc
  have ht : L.getLast? = some d := by rw [hd, List.getLast?_concat]
  refine r_ixS (c := c) (by rw [S_len]; omega) (atI_nat (j := 0) hc) ?_
  walk_at "tx"
  refine r_decN (fun c3 => ?_) (fun c3 => ?_)
  · walk_at "tx"
    refine fail ?_ H (Same.refl H)
    unfold valR
    rw [if_neg c1, if_pos (.inr (.inl (by rw [hh]; intro z; exact c3 (sg.mpr (Option.some.inj z)))))]
  walk_at "tx"
  have c3 : c = 34 := sg.mp c3
  refine r_ixS (c := d) (by rw [S_len]; omega) (by rw [hd]; exact atI_last m d) ?_
  walk_at "tx"
  refine r_decN (fun c4 => ?_) (fun c4 => ?_)
  · walk_at "tx"
    refine fail ?_ H (Same.refl H)
    unfold valR
    rw [if_neg c1, if_pos (.inr (.inr (by rw [ht]; intro z; exact c4 (sg.mpr (Option.some.inj z)))))]
  walk_at "tx"
  have c4 : d = 34 := sg.mp c4
  have val : valR L = (vr (midL L) []).map some := by
    unfold valR
    rw [if_neg c1, if_neg]
    rw [hh, ht, c3, c4]
    simp
    omega
  refine g_slS (by rw [S_len]; omega) ?_
  rw [cut1m c2]
  walk_at "tx"
  have ml : (midL L).length ≤ 20000 := by
    unfold midL
    rw [List.length_take, List.length_drop]
    omega
  refine ⟨fun n σ H1 => ∃ t f : List Nat, n = t.length ∧ σ = [some (.str (S L)), some (.str (S t)), some (.str (S f))] ∧ Same H H1 ∧ vr t f = vr (midL L) [] ∧ t.length + f.length ≤ 20000, ⟨_, midL L, [], rfl, rfl, Same.refl H, rfl, by simpa using ml⟩, ?_⟩
  rintro n σ H1 ⟨t, f, rfl, rfl, s1, ev, hn⟩
  walk_at "tx"
  refine r_decN (fun c5 => ?_) (fun c5 => ?_)
  · refine ⟨fun σ' H' => ∃ n', n' < t.length ∧ ∃ t' f' : List Nat, n' = t'.length ∧ σ' = [some (.str (S L)), some (.str (S t')), some (.str (S f'))] ∧ Same H H' ∧ vr t' f' = vr (midL L) [] ∧ t'.length + f'.length ≤ 20000, fun _ _ z => z, ?_⟩
    cases t with
    | nil => exact absurd rfl c5
    | cons c t =>
      have lt : (S (c :: t)).length = t.length + 1 := by rw [S_len]; rfl
      simp only [List.length_cons] at hn
      have at0 : atI (S (c :: t)).cps.toList 0 = some c := atI_nat (xs := c :: t) (j := 0) rfl
      have fail2 : vr (c :: t) f = none → valR L = none := fun z => by rw [val, ← ev, z]; rfl
      walk_at "tx"
      refine r_ixS (c := c) (by rw [lt]; omega) at0 ?_
      walk_at "tx"
      refine r_dec (fun c6 => ?_) (fun c6 => ?_)
      · walk_at "tx"
        obtain rfl : c = 34 := sg.mp c6
        exact fail (fail2 (vr_34 _ _)) H1 s1
      have c6 : c ≠ 34 := fun z => c6 (sg.mpr z)
      walk_at "tx"
      refine r_ixS (c := c) (by rw [lt]; omega) at0 ?_
      walk_at "tx"
      refine r_dec (fun c7 => ?_) (fun c7 => ?_)
      · obtain rfl : c = 92 := sg.mp c7
        walk_at "tx"
        refine g_slS (by rw [lt]; omega) ?_
        rw [cut12]
        walk_at "tx"
        refine a_lst (by simp) fun L1 H2 n2 s2 e2 => ?_
        walk_at "tx"
        cases t with
        | nil =>
          refine r_notinL e2 rfl rfl ?_
          have z : inV (V.str (S ([].take 1))) [V.str "\\", V.str "\""] = false := in_two_none 92 34
          rw [z]
          walk_at "tx"
          refine fail (fail2 (vr_bad fun d r' e => nomatch e)) H2 (s1.trans s2)
        | cons d t =>
          simp only [List.length_cons] at hn lt
          refine r_notinL e2 rfl rfl ?_
          have z : inV (V.str (S ((d :: t).take 1))) [V.str "\\", V.str "\""] = decide (d = 92 ∨ d = 34) := in_two d 92 34
          rw [z]
          walk_at "tx"
          refine r_decN (fun c8 => ?_) (fun c8 => ?_)
          · walk_at "tx"
            exact fail (fail2 (vr_bad fun d' r' e => by injection e with e1 _; rw [← e1]; exact c8)) H2 (s1.trans s2)
          · walk_at "tx"
            refine r_ixS (c := 92) (by rw [lt]; omega) at0 ?_
            walk_at "tx"
            refine r_dec (fun _ => ?_) (fun c9 => absurd rfl c9)
            walk_at "tx"
            refine g_slS (by rw [lt]; omega) ?_
            rw [cut1]
            have lt2 : (S (d :: t)).length = t.length + 1 := by rw [S_len]; rfl
            walk_at "tx"
            refine r_ixS (c := d) (by rw [lt2]; omega) (atI_nat (xs := d :: t) (j := 0) rfl) ?_
            walk_at "tx"
            have lf : (S f).length = f.length := S_len f
            refine g_addS (sz_of (by show (S f).length + 1 ≤ _; rw [lf]; omega)) ?_
            walk_at "tx"
            refine g_slS (by rw [lt2]; omega) ?_
            rw [cut1]
            walk_at "tx"
            refine ⟨t.length, by simp; omega, t, f ++ [d], rfl, ?_, s1.trans s2, ?_, ?_⟩
            · rw [← S_cat]
              rfl
            · rw [← ev, vr_good c8]
            · rw [List.length_append]
              show t.length + (f.length + 1) ≤ _
              omega
      · have c7 : c ≠ 92 := fun z => c7 (sg.mpr z)
        walk_at "tx"
        refine r_ixS (c := c) (by rw [lt]; omega) at0 ?_
        walk_at "tx"
        refine r_dec (fun c9 => absurd (sg.mp c9) c7) (fun _ => ?_)
        walk_at "tx"
        refine r_ixS (c := c) (by rw [lt]; omega) at0 ?_
        walk_at "tx"
        have lf : (S f).length = f.length := S_len f
        refine g_addS (sz_of (by show (S f).length + 1 ≤ _; rw [lf]; omega)) ?_
        walk_at "tx"
        refine g_slS (by rw [lt]; omega) ?_
        rw [cut1]
        walk_at "tx"
        refine ⟨t.length, by simp, t, f ++ [c], rfl, ?_, s1, ?_, ?_⟩
        · rw [← S_cat]
          rfl
        · rw [← ev, vr_plain c6 c7]
        · rw [List.length_append]
          show t.length + (f.length + 1) ≤ _
          omega
  · walk_at "tx"
    have et : t = [] := S_inj (b := []) c5
    subst et
    have e6 : valR L = some (some f) := by rw [val, ← ev]; rfl
    refine a_lst (by simp) fun p H2 n2 s2 e2 => k _ _ (s1.trans s2) ⟨p, _, rfl, e2, ?_⟩
    rw [e6]
    exact .cons (.str _) .nil
end
end K02

set_option Elab.async false
set_option linter.all false
set_option maxRecDepth 100000
set_option maxHeartbeats 4000000
namespace K02
open PySem PySem.Spec PyProof.Rows L2 Tk TkM CwR SX
local macro_rules | `(tactic| walk_at "rd1") => `(tactic| first
  | with_reducible refine r_seq ?_
  | ((with_reducible refine r_var (v := ?vv) ?hrv ?_); (case hrv => rfl))
  | with_reducible refine r_c ?_
  | with_reducible refine r_op ?_
  | ((with_reducible refine r_ixL (xs := ?xx) (v := ?vv) ?hh ?he ?_); (case hh => first | assumption | exact upd_same); (case he => rfl))
  | with_reducible refine r_asg ?_
  | with_reducible refine r_sub ?_
  | ((with_reducible refine r_gTup (xs := ?xx) ?hh ?he ?_); (case hh => assumption); (case he => rfl))
  | with_reducible refine r_gCons ?_
  | with_reducible refine r_gNil ?_
  | ((with_reducible refine r_setL (xs := ?xx) (j := ?vv) ?hh ?he ?_); (case hh => first | assumption | exact upd_same); (case he => rfl))
  | with_reducible refine r_pow15 ?_
  | with_reducible refine r_pow18 ?_
  | with_reducible refine r_repr ?_
  | with_reducible refine iteT ?_
  | with_reducible refine iteF ?_
  | with_reducible refine r_cons ?_
  | with_reducible refine r_nil ?_
  | with_reducible refine r_call ?_
  | with_reducible refine r_cb ?_
  | with_reducible refine r_ret ?_
  | with_reducible refine r_gName ?_
  | with_reducible refine r_next ?_
  | with_reducible refine r_ifS ?_
  | with_reducible refine r_un ?_
  | with_reducible refine r_U ?_
  | with_reducible refine r_max2 ?_
  | with_reducible refine r_min2 ?_
  | with_reducible refine r_sl ?_
  | with_reducible refine r_noPart ?_
  | with_reducible refine r_part ?_
  | with_reducible refine r_inti ?_
  | with_reducible refine r_lc ?_
  | with_reducible refine r_for ?_
  | with_reducible refine r_rng1 ?_
  | with_reducible refine r_iList ?_
  | with_reducible refine r_iTup ?_
  | with_reducible refine r_iStr ?_
  | with_reducible refine r_strx ?_
  | ((with_reducible refine r_j ?hh ?hi ?_); (case hh => omega); (case hi => omega))
  | with_reducible refine r_m1 ?_
  | with_reducible refine r_test ?_
  | with_reducible refine r_B ?_
  | with_reducible refine r_not ?_
  | with_reducible refine r_and ?_
  | with_reducible refine r_or ?_
  | with_reducible refine r_andV ?_
  | with_reducible refine r_orV ?_
  | with_reducible refine r_notV ?_
  | with_reducible refine r_if ?_
  | with_reducible refine r_chain ?_
  | with_reducible refine r_lst ?_
  | with_reducible refine r_tup ?_
  | with_reducible refine r_k ?_
  | ((with_reducible refine r_isiS (d := ?dd) ?hh ?_); (case hh => assumption))
  | ((with_reducible refine r_isiT (d := ?dd) ?hh ?_); (case hh => assumption))
  | ((with_reducible refine r_isiI (d := ?dd) ?hh ?_); (case hh => assumption))
  | ((with_reducible refine r_isiB (d := ?dd) ?hh ?_); (case hh => assumption))
  | ((with_reducible refine r_lenS ?hh ?_); (case hh => assumption))
  | ((with_reducible refine r_lenT (xs := ?dd) ?hh ?_); (case hh => assumption))
  | ((with_reducible refine r_ixT (xs := ?xx) (v := ?vv) ?hh ?he ?_); (case hh => assumption); (case he => rfl))
  | with_reducible refine r_isN ?_
  | with_reducible refine r_I0 ?_
  | with_reducible refine g_addI ?_
  | ((with_reducible refine r_mod ?hh ?_); (case hh => first | decide | omega))
  | ((with_reducible refine r_div ?hh ?hi ?_); (case hh => first | decide | omega); (case hi => first | decide | omega))
  | ((with_reducible refine g_mulB ?hh ?hi ?_); (case hh => omega); (case hi => omega))
  | with_reducible refine g_ltI ?_
  | with_reducible refine g_leI ?_
  | with_reducible refine g_gtI ?_
  | with_reducible refine g_geI ?_
  | with_reducible refine g_eqI ?_
  | with_reducible refine g_neI ?_
  | with_reducible refine g_eqS ?_
  | with_reducible refine g_neS ?_
  | with_reducible refine g_leS ?_
  | with_reducible refine g_ltS ?_)
local macro_rules | `(tactic| walk_at "rd") => `(tactic| repeat (walk_at "rd1"))
local macro_rules | `(tactic| walk_at "ed") => `(tactic| repeat first
  | exact ed_int
  | exact ed_str
  | exact ed_bl
  | exact ed_non
  | exact ed_nil
  | exact ed_dct
  | exact ed_neg
  | with_reducible apply ed_cons
  | with_reducible apply ed_tup
  | with_reducible apply ed_lst
  | exact Nat.le_of_ble_eq_true rfl)
local macro_rules | `(tactic| walk_at "tx1") => `(tactic| first
  | walk_at "rd1"
  | with_reducible refine r_callS ?_
  | with_reducible refine r_par ?_
  | with_reducible refine r_pair ?_
  | with_reducible refine r_pow6 ?_
  | with_reducible refine r_m0 ?_
  | with_reducible refine r_bm ?_
  | with_reducible refine r_isS ?_
  | with_reducible refine r_told ?_
  | with_reducible refine r_js ?_
  | with_reducible refine r_jsNil ?_
  | with_reducible refine r_repl ?_
  | ((with_reducible refine r_gLst (xs := ?xx) ?hh ?he ?_); (case hh => assumption); (case he => rfl))
  | ((with_reducible refine r_lenL (xs := ?xx) ?hh ?_); (case hh => assumption)))
local macro_rules | `(tactic| walk_at "tx") => `(tactic| repeat (walk_at "tx1"))
section
variable {t1 t2 t3 t4 : Tok} {P : Program} {w : World} {K : PySem.W.Frag} {mg : Str → Option Value} {base : Heap}
theorem dig_in (c : Nat) : decide (c ∈ ("0123456789" : Str).cps.toList) = digB c := by
  have e : ("0123456789" : Str).cps.toList = [48, 49, 50, 51, 52, 53, 54, 55, 56, 57] := by decide +kernel
  rw [e]
  unfold digB
  rw [Bool.eq_iff_iff]
  simp
  omega
theorem esc_ge (v : List Nat) : v.length ≤ (esc v).length := by
  induction v with
  | nil => exact Nat.le_refl _
  | cons c v ih =>
    rw [esc_cons, List.length_append, List.length_cons]
    split <;> simp <;> omega
def spRead (K : PySem.W.Frag) : Sp := fun vs H Q _ => ∃ x : Str, vs = [.str x] ∧ x.length ≤ 20000 ∧ ∀ (v : V) (H' : Hp), Same H H' → Dd K H' v (optD (readL x.cps.toList)) → Q v H'
abbrev s_L_read : Stmt := top 26
abbrev n_L_read : List Str := ["_law_text", "_law_words", "_law_middle", "_law_value", "_law_sign", "_law_entry_here"]
abbrev p_L_read : List Str := ["_law_text"]
theorem sc_L_read : FnScope n_L_read p_L_read (defScope s_L_read) := ⟨rfl, rfl, rfl, by decide +kernel, rfl, by decide +kernel, by decide +kernel⟩
theorem ok_L_read (T : Txt mg t1 t2 t3 t4) {f : Addr} {fd : FuncData} (F : Fun K "_law_read" "_law_read" s_L_read f fd) (K_L_value_read : Cal P w K mg base CX0 3 "_law_value_read" p_L_value_read (spVr K)) (K_is_entry : Cal P w K mg base CX0 3 "is_entry" p_is_entry (spD K entryD)) :
    FnOk P w K mg base CX0 4 f fd p_L_read (spRead K) := by
  refine F.ok sc_L_read (fun vs H Q E h => ?_) (fun cdv A outer s H vs Q E hr h => ?_)
  · obtain ⟨x, rfl, _⟩ := h
    rfl
  obtain ⟨x, rfl, hx, k⟩ := h
  obtain ⟨L, rfl⟩ : ∃ L, x = S L := ⟨x.cps.toList, (S_tl x).symm⟩
  have hl : L.length ≤ 20000 := by rw [← S_len]; exact hx
  have k : ∀ (v : V) (H' : Hp), Same H H' → Dd K H' v (optD (readL L)) → Q v H' := k
  have fail : readL L = none → ∀ H1, Same H H1 → Q .non H1 := fun e H1 s1 => k _ _ s1 (by rw [e]; exact .non)
  have hu := hr.units
  refine ⟨_, (pss_cons (ps_set (i := 1) sc_L_read.nd rfl (by first | exact Or.inl rfl | exact Or.inr rfl) (pe_m1 PySem.F.slot_str_split PySem.F.type_str_split k_split1 (pv 0) pe_str))
      (pss_cons (ps_if (pt_cmpR o_lt (pe_callB k_len (by rfl) T.z_len (by decide +kernel) (pa_cons (pv 1) pa_nil)) pe_int (nomark _)) (pss_one (ps_ret pe_non)) pss_nil)
      (pss_cons (ps_set (i := 2) sc_L_read.nd rfl (by first | exact Or.inl rfl | exact Or.inr rfl) (pe_m1 PySem.F.slot_str_split PySem.F.type_str_split k_split1 (pe_ix k_ix (pv 1) pe_int (fun _ _ => rfl)) pe_str))
      (pss_cons (ps_set (i := 3) sc_L_read.nd rfl (by first | exact Or.inl rfl | exact Or.inr rfl) (pe_cal K_L_value_read (hr.mono (by decide)) pass0 (pa_cons (k_joinK pe_str (pe_slice k_slice (pv 1) (po_some pe_int) po_none)) pa_nil)))
      (pss_cons (ps_if (PW.pt (pw_or (pt_cmpR (k_ne hu) (pe_callB k_len (by rfl) T.z_len (by decide +kernel) (pa_cons (pv 2) pa_nil)) pe_int (nomark _)) (pw_or (pt_cmpR (k_eq hu) (pv 3) (pe_lst pa_nil) (nomark _)) (pw_or (pt_cmpR (k_eq hu) (pe_ix k_ix (pv 2) pe_int (fun _ _ => rfl)) pe_str (nomark _)) (pw_or (pt_cmpR (k_eq hu) (pe_ix k_ix (pe_ix k_ix (pv 2) pe_int (fun _ _ => rfl)) pe_int (fun _ _ => rfl)) pe_str (nomark _)) (pw_or1 (pt_cmpR o_gt (pe_callB k_len (by rfl) T.z_len (by decide +kernel) (pa_cons (pe_ix k_ix (pv 2) pe_int (fun _ _ => rfl)) pa_nil)) pe_int (nomark _)))))))) (pss_one (ps_ret pe_non)) pss_nil)
      (pss_cons (ps_if (pt_cmpR (k_neP hu) (pe_lc (own := [("_law_sign", 4)]) rfl sc_L_read.nd (pi_str (pe_ix k_ix (pv 2) pe_int (fun _ _ => rfl))) (blkOk_by (own := [("_law_sign", 4)]) (N := n_L_read) (sc := defScope s_L_read) (by decide +kernel)) (fun _ _ _ _ _ => (pg_name (i := 4) sc_L_read.nd rfl (by first | exact Or.inl rfl | exact Or.inr rfl))) (fun _ _ _ _ _ => (pts_one (pt_cmpR k_notSign (pv 4) pe_str rfl))) (fun _ _ _ _ _ => (pv 4))) (pe_lst pa_nil) (nomark _)) (pss_one (ps_ret pe_non)) pss_nil)
      (pss_cons (ps_set (i := 5) sc_L_read.nd rfl (by first | exact Or.inl rfl | exact Or.inr rfl) (pe_tup (pa_cons (pe_ix k_ix (pv 1) pe_int (fun _ _ => rfl)) (pa_cons (pe_tup (pa_cons (pe_callTy call_int_str (by rfl) T.z_int (by decide +kernel) (pa_cons (pe_ix k_ix (pv 2) pe_int (fun _ _ => rfl)) pa_nil)) (pa_cons (pe_ix k_ix (pv 2) pe_int (fun _ _ => rfl)) pa_nil))) (pa_cons (pe_ix k_ix (pv 3) pe_int (fun _ _ => rfl)) pa_nil)))))
      (pss_one (ps_ret (pe_ifExp (pt_val (pe_cal K_is_entry (hr.mono (by decide)) pass0 (pa_cons (pv 5) pa_nil))) (pv 5) pe_non)))))))))), ?_⟩
  walk_at "tx"
  refine r_split1 (by decide) (by omega) fun L1 H1 n1 s1 e1 => ?_
  have ew : Txt.split (S L) " " = (TL.spl [32] 0 [] L).map S := split_S (b := [32]) (by simp) (by decide)
  rw [ew] at e1
  have short : ∀ p ∈ TL.spl [32] 0 [] L, p.length ≤ L.length := fun p hp => by
    have := split_le (S L) " " (S p) (by rw [ew]; exact List.mem_map_of_mem hp)
    rw [S_len, S_len] at this
    exact this
  walk_at "tx"
  have rd : readL L = (match TL.spl [32] 0 [] L with
      | w0 :: w1 :: w2 :: ws =>
        match TL.spl [46] 0 [] w1, valR (TL.joinL [32] (w2 :: ws)) with
        | [a, b], some v => entR a b w0 v
        | _, _ => none
      | _ => none) := rfl
  have jl := spl_joined 32 L []
  have sums : ((TL.spl [32] 0 [] L).map (·.length)).sum + ((TL.spl [32] 0 [] L).length - 1) = L.length := by
    have z := join_S [32] (TL.spl [32] 0 [] L)
    rw [jl, List.nil_append] at z
    have z2 := join_len (S [32]) ((TL.spl [32] 0 [] L).map S)
    rw [z, S_len, lens, List.length_map] at z2
    rw [show (S [32]).length = 1 from rfl, Nat.mul_one] at z2
    exact z2.symm
  clear ew jl
  generalize TL.spl [32] 0 [] L = ws at *
  rw [List.length_map, List.length_map]
  refine r_dec (fun c1 => ?_) (fun c1 => ?_)
  · walk_at "tx"
    refine fail ?_ H1 s1
    rw [rd]
    match ws, c1 with
    | [], _ => rfl
    | [_], _ => rfl
    | [_, _], _ => rfl
    | _ :: _ :: _ :: _, c1 => simp at c1; omega
  match ws, c1, rd, e1, short, sums with
  | w0 :: w1 :: w2 :: ws, c1, rd, e1, short, sums =>
    have e1 : H1 L1 = some (.lst (V.str (S w0) :: V.str (S w1) :: ((w2 :: ws).map S).map V.str)) := e1
    have l0 := short w0 (by simp)
    have l1 := short w1 (by simp)
    walk_at "tx"
    refine r_ixL (v := .str (S w1)) e1 (atI_nat (j := 1) rfl) ?_
    walk_at "tx"
    refine r_split1 (by decide) (by rw [S_len]; omega) fun L2 H2 n2 s2 e2 => ?_
    have em : Txt.split (S w1) "." = (TL.spl [46] 0 [] w1).map S := split_S (b := [46]) (by simp) (by decide)
    rw [em] at e2
    have shortm : ∀ p ∈ TL.spl [46] 0 [] w1, p.length ≤ w1.length := fun p hp => by
      have := split_le (S w1) "." (S p) (by rw [em]; exact List.mem_map_of_mem hp)
      rw [S_len, S_len] at this
      exact this
    have rd : readL L = (match TL.spl [46] 0 [] w1, valR (TL.joinL [32] (w2 :: ws)) with
        | [a, b], some v => entR a b w0 v
        | _, _ => none) := rd
    clear em
    generalize TL.spl [46] 0 [] w1 = ms at *
    walk_at "tx"
    refine g_slL (s2 _ _ e1) fun L3 H3 n3 s3 e3 => ?_
    rw [cutV2] at e3
    walk_at "tx"
    rw [List.map_cons, List.map_cons, List.sum_cons, List.sum_cons, List.length_cons, List.length_cons] at sums
    have sm : (((w2 :: ws).map S).map (·.length)).sum = ((w2 :: ws).map (·.length)).sum := by rw [lens]
    have nm : ((w2 :: ws).map S).length = (w2 :: ws).length := List.length_map _
    refine r_join e3 (by rw [sm, nm, show (" " : Str).length = 1 by decide]; omega) ?_
    have ej : Txt.join " " ((w2 :: ws).map S) = S (TL.joinL [32] (w2 :: ws)) := join_S [32] (w2 :: ws)
    have jlen : (TL.joinL [32] (w2 :: ws)).length ≤ 20000 := by
      have z2 := join_len " " ((w2 :: ws).map S)
      rw [ej, S_len, sm, nm, show (" " : Str).length = 1 by decide] at z2
      omega
    rw [ej]
    generalize TL.joinL [32] (w2 :: ws) = tl at *
    refine ⟨S tl, rfl, by rw [S_len]; exact jlen, fun v H4 s4 hv => ?_⟩
    obtain ⟨L4, vs, rfl, e4, al⟩ := hv
    have al : DdAll K H4 vs (vrD (valR tl)) := al
    have s14 := s1.trans (s2.trans (s3.trans s4))
    have e24 := s4 _ _ (s3 _ _ e2)
    walk_at "tx"
    rw [List.length_map, List.length_map]
    refine r_decN (fun c2 => ?_) (fun c2 => ?_)
    · walk_at "tx"
      refine fail ?_ H4 s14
      rw [rd]
      match ms, c2 with
      | [], _ => rfl
      | [_], _ => rfl
      | [_, _], c2 => simp at c2
      | _ :: _ :: _ :: _, _ => rfl
    match ms, c2, rd, e24, shortm with
    | [a, b], c2, rd, e24, shortm =>
      have la := shortm a (by simp)
      have lb := shortm b (by simp)
      have e24 : H4 L2 = some (.lst [V.str (S a), V.str (S b)]) := e24
      walk_at "tx"
      refine a_lst (by simp) fun L5 H5 n5 s5 e5 => ?_
      walk_at "tx"
      refine r_eqNil (s5 _ _ e4) e5 ?_
      walk_at "tx"
      cases hv : valR tl with
      | none =>
        rw [hv] at al
        cases al
        refine iteT ?_
        walk_at "tx"
        exact fail (by rw [rd, hv]) H5 (s14.trans s5)
      | some o =>
        have rd : readL L = entR a b w0 o := by rw [rd, hv]
        rw [hv] at al
        cases al with
        | cons d0 al =>
          cases al
          rename_i v0
          refine iteF ?_
          have e25 := s5 _ _ e24
          walk_at "tx"
          refine r_dec (fun c3 => ?_) (fun c3 => ?_)
          · walk_at "tx"
            refine fail ?_ H5 (s14.trans s5)
            rw [rd]
            unfold entR
            rw [if_neg]
            intro z
            exact z.1.1 (S_inj (b := []) c3)
          have c3 : a ≠ [] := fun z => c3 (by rw [z]; rfl)
          walk_at "tx"
          obtain ⟨c, r, ea⟩ : ∃ c r, a = c :: r := by
            cases a with
            | nil => exact absurd rfl c3
            | cons c r => exact ⟨c, r, rfl⟩
          refine r_ixS (c := c) (by rw [S_len]; omega) (by rw [ea]; exact atI_nat (xs := c :: r) (j := 0) rfl) ?_
          walk_at "tx"
          refine r_dec (fun c4 => ?_) (fun c4 => ?_)
          · walk_at "tx"
            refine fail ?_ H5 (s14.trans s5)
            rw [rd]
            unfold entR
            rw [if_neg]
            intro z
            refine z.1.2.1 ?_
            rw [ea, (show c = 48 from sg.mp c4)]
            rfl
          have c4 : a.head? ≠ some 48 := fun z => c4 (sg.mpr (by rw [ea] at z; exact Option.some.inj z))
          walk_at "tx"
          refine r_lenS (by rw [S_len]; omega) ?_
          walk_at "tx"
          rw [S_len]
          refine r_dec (fun c5 => ?_) (fun c5 => ?_)
          · walk_at "tx"
            refine fail ?_ H5 (s14.trans s5)
            rw [rd]
            unfold entR
            rw [if_neg]
            intro z
            have := z.1.2.2.1
            omega
          have c5 : a.length ≤ 16 := by omega
          walk_at "tx"
          refine r_lcStr (by rw [S_len]; omega) (fun c => !digB c) (fun v => v) (fun c _ H6 R s6 q => ?_) (fun c _ _ H6 R s6 q => ?_) (fun Dl H6 n6 s6 e6 => ?_)
          · walk_at "tx"
            refine r_notSign ?_
            have z : decide (c ∈ ("0123456789" : Str).cps.toList) = digB c := dig_in c
            rw [z]
            walk_at "tx"
            exact q H6 (Same.refl H6)
          · walk_at "tx"
            exact q H6 (Same.refl H6)
          have e6 : H6 Dl = some (.lst ((a.filter fun c => !digB c).map signV)) := e6
          walk_at "tx"
          refine a_lst (by simp) fun L7 H7 n7 s7 e7 => ?_
          walk_at "tx"
          refine ⟨_, .list [], signs_data (s7 _ _ e6), .lst e7 .nil, signs_plain _, rfl, signs_deep _, ?_⟩
          rw [signs_eqv]
          walk_at "tx"
          have s17 := s14.trans (s5.trans (s6.trans s7))
          have e27 := s7 _ _ (s6 _ _ e25)
          refine r_boolN (fun c6 => ?_) (fun c6 => ?_)
          · walk_at "tx"
            refine fail ?_ H7 s17
            rw [rd]
            unfold entR
            rw [if_neg]
            intro z
            have w := z.1.2.2.2
            rw [List.isEmpty_iff.mpr] at c6
            · cases c6
            · refine List.filter_eq_nil_iff.mpr fun x hx => ?_
              rw [List.all_eq_true.mp w x hx]
              simp
          have c6 : a.all digB = true := List.all_eq_true.mpr fun x hx => by
            have z := List.filter_eq_nil_iff.mp (List.isEmpty_iff.mp c6) x hx
            simpa using z
          walk_at "tx"
          have e17 := s7 _ _ (s6 _ _ (s5 _ _ (s4 _ _ (s3 _ _ (s2 _ _ e1)))))
          have e47 := s7 _ _ (s6 _ _ (s5 _ _ e4))
          refine r_ixL (v := .str (S w0)) e17 (atI_nat (j := 0) rfl) ?_
          walk_at "tx"
          refine ⟨S a, _, rfl, int_S c6 c3 (by omega), by rw [S_len]; omega, ?_⟩
          walk_at "tx"
          refine a_tup (by simp) fun T1 H8 n8 s8 e8 => ?_
          have e48 := s8 _ _ e47
          walk_at "tx"
          refine a_tup (by simp) fun T2 H9 n9 s9 e9 => ?_
          walk_at "tx"
          have d9 : Dd K H9 (.ref T2) (entD (w0, NumText.digitsVal a, b, o)) := .tup e9 (.cons (.str _) (.cons (.tup (s9 _ _ e8) (.cons (.int _) (.cons (.str _) .nil))) (.cons (Dd.same (s5.trans (s6.trans (s7.trans (s8.trans s9)))) _ _ d0) .nil)))
          have lv : okD (optV o) := by
            cases o with
            | none => trivial
            | some u =>
              show (S u).length ≤ 100000
              rw [S_len]
              have z1 := valR_back hv
              have z2 : (toldL (some u)).length = tl.length := by rw [z1]
              have z3 : (toldL (some u)).length = (esc u).length + 2 := by
                show (34 :: (esc u ++ [34])).length = _
                simp
              have z4 := esc_ge u
              omega
          have ok9 : okD (entD (w0, NumText.digitsVal a, b, o)) := ⟨by simp, by show (S w0).length ≤ 100000; rw [S_len]; omega, ⟨by simp, trivial, by show (S b).length ≤ 100000; rw [S_len]; omega, trivial⟩, lv, trivial⟩
          refine r_spD d9 ok9 fun H10 s10 => ?_
          walk_at "tx"
          refine r_bool (fun c7 => ?_) (fun c7 => ?_)
          · walk_at "tx"
            refine k _ H10 (s17.trans (s8.trans (s9.trans s10))) ?_
            rw [rd]
            unfold entR
            rw [if_pos ⟨⟨c3, c4, c5, c6⟩, c7⟩]
            exact Dd.same s10 _ _ d9
          · walk_at "tx"
            refine fail ?_ H10 (s17.trans (s8.trans (s9.trans s10)))
            rw [rd]
            unfold entR
            rw [if_neg]
            intro z
            rw [z.2] at c7
            cases c7
    | [], c2, _, _, _ => simp at c2
    | [_], c2, _, _, _ => simp at c2
    | _ :: _ :: _ :: _, c2, _, _, _ => simp at c2; omega
  | [], c1, _, _, _, _ => simp at c1
  | [_], c1, _, _, _, _ => simp at c1
  | [_, _], c1, _, _, _, _ => simp at c1
end
end K02

set_option Elab.async false
set_option linter.all false
set_option maxRecDepth 100000
set_option maxHeartbeats 4000000
namespace K02
open PySem PySem.Spec PyProof.Rows L2 Tk TkM CwR SX
local macro_rules | `(tactic| walk_at "rd1") => `(tactic| first
  | with_reducible refine r_seq ?_
  | ((with_reducible refine r_var (v := ?vv) ?hrv ?_); (case hrv => rfl))
  | with_reducible refine r_c ?_
  | with_reducible refine r_op ?_
  | ((with_reducible refine r_ixL (xs := ?xx) (v := ?vv) ?hh ?he ?_); (case hh => first | assumption | exact upd_same); (case he => rfl))
  | with_reducible refine r_asg ?_
  | with_reducible refine r_sub ?_
  | ((with_reducible refine r_gTup (xs := ?xx) ?hh ?he ?_); (case hh => assumption); (case he => rfl))
  | with_reducible refine r_gCons ?_
  | with_reducible refine r_gNil ?_
  | ((with_reducible refine r_setL (xs := ?xx) (j := ?vv) ?hh ?he ?_); (case hh => first | assumption | exact upd_same); (case he => rfl))
  | with_reducible refine r_pow15 ?_
  | with_reducible refine r_pow18 ?_
  | with_reducible refine r_repr ?_
  | with_reducible refine iteT ?_
  | with_reducible refine iteF ?_
  | with_reducible refine r_cons ?_
  | with_reducible refine r_nil ?_
  | with_reducible refine r_call ?_
  | with_reducible refine r_cb ?_
  | with_reducible refine r_ret ?_
  | with_reducible refine r_gName ?_
  | with_reducible refine r_next ?_
  | with_reducible refine r_ifS ?_
  | with_reducible refine r_un ?_
  | with_reducible refine r_U ?_
  | with_reducible refine r_max2 ?_
  | with_reducible refine r_min2 ?_
  | with_reducible refine r_sl ?_
  | with_reducible refine r_noPart ?_
  | with_reducible refine r_part ?_
  | with_reducible refine r_inti ?_
  | with_reducible refine r_lc ?_
  | with_reducible refine r_for ?_
  | with_reducible refine r_rng1 ?_
  | with_reducible refine r_iList ?_
  | with_reducible refine r_iTup ?_
  | with_reducible refine r_iStr ?_
  | with_reducible refine r_strx ?_
  | ((with_reducible refine r_j ?hh ?hi ?_); (case hh => omega); (case hi => omega))
  | with_reducible refine r_m1 ?_
  | with_reducible refine r_test ?_
  | with_reducible refine r_B ?_
  | with_reducible refine r_not ?_
  | with_reducible refine r_and ?_
  | with_reducible refine r_or ?_
  | with_reducible refine r_andV ?_
  | with_reducible refine r_orV ?_
  | with_reducible refine r_notV ?_
  | with_reducible refine r_if ?_
  | with_reducible refine r_chain ?_
  | with_reducible refine r_lst ?_
  | with_reducible refine r_tup ?_
  | with_reducible refine r_k ?_
  | ((with_reducible refine r_isiS (d := ?dd) ?hh ?_); (case hh => assumption))
  | ((with_reducible refine r_isiT (d := ?dd) ?hh ?_); (case hh => assumption))
  | ((with_reducible refine r_isiI (d := ?dd) ?hh ?_); (case hh => assumption))
  | ((with_reducible refine r_isiB (d := ?dd) ?hh ?_); (case hh => assumption))
  | ((with_reducible refine r_lenS ?hh ?_); (case hh => assumption))
  | ((with_reducible refine r_lenT (xs := ?dd) ?hh ?_); (case hh => assumption))
  | ((with_reducible refine r_ixT (xs := ?xx) (v := ?vv) ?hh ?he ?_); (case hh => assumption); (case he => rfl))
  | with_reducible refine r_isN ?_
  | with_reducible refine r_I0 ?_
  | with_reducible refine g_addI ?_
  | ((with_reducible refine r_mod ?hh ?_); (case hh => first | decide | omega))
  | ((with_reducible refine r_div ?hh ?hi ?_); (case hh => first | decide | omega); (case hi => first | decide | omega))
  | ((with_reducible refine g_mulB ?hh ?hi ?_); (case hh => omega); (case hi => omega))
  | with_reducible refine g_ltI ?_
  | with_reducible refine g_leI ?_
  | with_reducible refine g_gtI ?_
  | with_reducible refine g_geI ?_
  | with_reducible refine g_eqI ?_
  | with_reducible refine g_neI ?_
  | with_reducible refine g_eqS ?_
  | with_reducible refine g_neS ?_
  | with_reducible refine g_leS ?_
  | with_reducible refine g_ltS ?_)
local macro_rules | `(tactic| walk_at "rd") => `(tactic| repeat (walk_at "rd1"))
local macro_rules | `(tactic| walk_at "ed") => `(tactic| repeat first
  | exact ed_int
  | exact ed_str
  | exact ed_bl
  | exact ed_non
  | exact ed_nil
  | exact ed_dct
  | exact ed_neg
  | with_reducible apply ed_cons
  | with_reducible apply ed_tup
  | with_reducible apply ed_lst
  | exact Nat.le_of_ble_eq_true rfl)
local macro_rules | `(tactic| walk_at "tx1") => `(tactic| first
  | walk_at "rd1"
  | with_reducible refine r_callS ?_
  | with_reducible refine r_par ?_
  | with_reducible refine r_pair ?_
  | with_reducible refine r_pow6 ?_
  | with_reducible refine r_m0 ?_
  | with_reducible refine r_bm ?_
  | with_reducible refine r_isS ?_
  | with_reducible refine r_told ?_
  | with_reducible refine r_js ?_
  | with_reducible refine r_jsNil ?_
  | with_reducible refine r_repl ?_
  | ((with_reducible refine r_gLst (xs := ?xx) ?hh ?he ?_); (case hh => assumption); (case he => rfl))
  | ((with_reducible refine r_lenL (xs := ?xx) ?hh ?_); (case hh => assumption)))
local macro_rules | `(tactic| walk_at "tx") => `(tactic| repeat (walk_at "tx1"))
section
variable {t1 t2 t3 t4 : Tok} {P : Program} {w : World} {K : PySem.W.Frag} {mg : Str → Option Value} {base : Heap}
def spForm (K : PySem.W.Frag) : Sp := fun vs H Q _ => ∃ (v : V) (d : PyData), vs = [v] ∧ Dd K H v d ∧ okD d ∧ Shows d ∧ entryD d = false ∧ ∀ v' H', Same H H' → Dd K H' v' (.list [.str "entry", .str d.shown, .bool true]) → Q v' H'
abbrev s_L_formatted : Stmt := top 28
abbrev n_L_formatted : List Str := ["_law_thing", "_law_kept", "e"]
abbrev p_L_formatted : List Str := ["_law_thing"]
theorem sc_L_formatted : FnScope n_L_formatted p_L_formatted (defScope s_L_formatted) := ⟨rfl, rfl, rfl, by decide +kernel, rfl, by decide +kernel, by decide +kernel⟩
theorem ok_L_formatted {CB : Addr} (T : Txt mg t1 t2 t3 t4) (R_BadEntry : ExcR P w K mg base "BadEntry" CB) (hV : PySem.W.subIn K (.ref CB) (.type "ValueError") = some true) {f : Addr} {fd : FuncData} (F : Fun K "_law_formatted" "_law_formatted" s_L_formatted f fd)
    (K_format_entry : Cal P w K mg base (L2.CX P w) 4 "format_entry" p_format_entry (spFmt K CB)) : FnG P w K mg base CX0 5 f fd p_L_formatted (spForm K) := by
  refine funG0 F sc_L_formatted (fun vs H Q E h => ?_) (fun cdv A outer s H vs Q E gd hr h => ?_)
  · obtain ⟨v, d, rfl, _⟩ := h
    rfl
  obtain ⟨v, d, rfl, hd, ho, hs, hn, k⟩ := h
  obtain ⟨fI, fdI, XC_BadEntry, bI, FI⟩ := R_BadEntry.cls
  have hu := hr.units
  refine ⟨_, (pss_cons (ps_set (i := 1) sc_L_formatted.nd rfl (by first | exact Or.inl rfl | exact Or.inr rfl) pe_non)
      (pss_cons (ps_try_as (i := 2) (Wout := fun _ _ _ _ => False) rfl rfl sc_L_formatted.nd rfl rfl ⟨rfl, by decide, Or.inl XC_BadEntry.gC⟩ takes0
      (fun W pn xe tk _ => (pss_one (ps_set (i := 1) sc_L_formatted.nd rfl (by first | exact Or.inl rfl | exact Or.inr rfl) (pe_calS K_format_entry (hr.mono (by decide)) (fun σ => passAt tk σ) (pa_cons (pv 0) pa_nil)))))
      (fun a oe cls d pn hz hf => (pss_one (ps_set (i := 1) sc_L_formatted.nd rfl (by first | exact Or.inl rfl | exact Or.inr rfl) (pe_lst (pa_cons pe_str (pa_cons (pe_callB (call_reprD gd hu) (by rfl) T.z_repr (by decide +kernel) (pa_cons (pe_xf XC_BadEntry.xf XC_BadEntry.nv hz hf (pv 2)) pa_nil)) (pa_cons (pe_callB (call_isE2 hz hf) (by rfl) T.z_isinstance (by decide +kernel) (pa_cons (pv 2) (pa_cons (pe_bltn (v := .ty "ValueError") rfl T.z_ValueError (by decide +kernel) rfl) pa_nil))) pa_nil))))))))
      (pss_one (ps_ret (pv 1))))), ?_⟩
  walk_at "tx"
  refine ⟨v, d, rfl, hd, ho, fun e he ie => ?_, fun _ dx H1 n1 s1 e1 => ?_⟩
  · rw [he, isE_iff.mpr ie] at hn
    cases hn
  refine ⟨true, XC_BadEntry.te, fun _ a0 n0 => ?_, fun q => nomatch q⟩
  walk_at "tx"
  refine r_xfVar rfl e1 ?_
  walk_at "tx"
  refine r_reprD (Dd.same s1 _ _ hd) hs ?_
  walk_at "tx"
  refine r_isE2 (cv := .type "ValueError") e1 (fun u r => r) (.inr (by kernel_rfl)) (.inl ⟨_, rfl⟩) hV ?_
  walk_at "tx"
  refine a_lst (by simp) fun L2 H2 n2 s2 e2 => ?_
  walk_at "tx"
  exact k _ _ (s1.trans s2) (.lst e2 (.cons (.str _) (.cons (.str _) (.cons (.bl _) .nil))))
/-- what parse_entry tells, as data -/
def parsedD (d : PyData) : PyData := match readD d with
  | some e => entD e
  | none => .list [.str "text", .str d.shown, .bool true]
def spPars (K : PySem.W.Frag) : Sp := fun vs H Q _ => ∃ (v : V) (d : PyData), vs = [v] ∧ Dd K H v d ∧ (∀ x, d = .str x → x.length ≤ 20000) ∧ Shows d ∧ ∀ v' H', Same H H' → Dd K H' v' (parsedD d) → Q v' H'
abbrev s_L_parsed : Stmt := top 27
abbrev n_L_parsed : List Str := ["_law_text", "_law_kept", "e"]
abbrev p_L_parsed : List Str := ["_law_text"]
theorem sc_L_parsed : FnScope n_L_parsed p_L_parsed (defScope s_L_parsed) := ⟨rfl, rfl, rfl, by decide +kernel, rfl, by decide +kernel, by decide +kernel⟩
theorem ok_L_parsed {CT CT0 : Addr} (T : Txt mg t1 t2 t3 t4) (R_BadText : ExcR P w K mg base "BadText" CT) (hTE : mg "TombError" = some (.ref CT0)) (hT1 : PySem.W.typeIn K (.ref CT0) = some (.type "type")) (hT2 : PySem.W.hasDictIn K CT0 = true) (hT3 : PySem.W.subIn K (.ref CT) (.ref CT0) = some true)
    {f : Addr} {fd : FuncData} (F : Fun K "_law_parsed" "_law_parsed" s_L_parsed f fd) (K_parse_entry : Cal P w K mg base (L2.CX P w) 5 "parse_entry" p_parse_entry (spParse K CT)) : FnG P w K mg base CX0 6 f fd p_L_parsed (spPars K) := by
  refine funG0 F sc_L_parsed (fun vs H Q E h => ?_) (fun cdv A outer s H vs Q E gd hr h => ?_)
  · obtain ⟨v, d, rfl, _⟩ := h
    rfl
  obtain ⟨v, d, rfl, hd, ho, hs, k⟩ := h
  obtain ⟨fI, fdI, XC_BadText, bI, FI⟩ := R_BadText.cls
  have hu := hr.units
  refine ⟨_, (pss_cons (ps_set (i := 1) sc_L_parsed.nd rfl (by first | exact Or.inl rfl | exact Or.inr rfl) pe_non)
      (pss_cons (ps_try_as (i := 2) (Wout := fun _ _ _ _ => False) rfl rfl sc_L_parsed.nd rfl rfl ⟨rfl, by decide, Or.inl XC_BadText.gC⟩ takes0
      (fun W pn xe tk _ => (pss_one (ps_set (i := 1) sc_L_parsed.nd rfl (by first | exact Or.inl rfl | exact Or.inr rfl) (pe_calS K_parse_entry (hr.mono (by decide)) (fun σ => passAt tk σ) (pa_cons (pv 0) pa_nil)))))
      (fun a oe cls d pn hz hf => (pss_one (ps_set (i := 1) sc_L_parsed.nd rfl (by first | exact Or.inl rfl | exact Or.inr rfl) (pe_lst (pa_cons pe_str (pa_cons (pe_callB (call_reprD gd hu) (by rfl) T.z_repr (by decide +kernel) (pa_cons (pe_xf XC_BadText.xf XC_BadText.nv hz hf (pv 2)) pa_nil)) (pa_cons (pe_callB (call_isE2 hz hf) (by rfl) T.z_isinstance (by decide +kernel) (pa_cons (pv 2) (pa_cons (pe_glob (v := .ref CT0) rfl hTE rfl) pa_nil))) pa_nil))))))))
      (pss_one (ps_ret (pv 1))))), ?_⟩
  walk_at "tx"
  refine ⟨v, d, rfl, hd, ho, fun e he v1 H1 s1 d1 => ?_, fun he dx H1 n1 s1 e1 => ?_⟩
  · walk_at "tx"
    refine k _ H1 s1 ?_
    unfold parsedD
    rw [he]
    exact d1
  refine ⟨true, XC_BadText.te, fun _ a0 n0 => ?_, fun q => nomatch q⟩
  walk_at "tx"
  refine r_xfVar rfl e1 ?_
  walk_at "tx"
  refine r_reprD (Dd.same s1 _ _ hd) hs ?_
  walk_at "tx"
  refine r_isE2 (cv := .ref CT0) e1 (fun u r => r) (.inl hT1) (.inr ⟨_, rfl, hT2⟩) hT3 ?_
  walk_at "tx"
  refine a_lst (by simp) fun L2 H2 n2 s2 e2 => ?_
  walk_at "tx"
  refine k _ _ (s1.trans s2) ?_
  unfold parsedD
  rw [he]
  exact .lst e2 (.cons (.str _) (.cons (.str _) (.cons (.bl _) .nil)))
end
end K02

set_option Elab.async false
set_option linter.all false
set_option maxRecDepth 100000
set_option maxHeartbeats 4000000
namespace K02
open PySem PySem.Spec PyProof.Rows L2 Tk TkM CwR SX
local macro_rules | `(tactic| walk_at "rd1") => `(tactic| first
  | with_reducible refine r_seq ?_
  | ((with_reducible refine r_var (v := ?vv) ?hrv ?_); (case hrv => rfl))
  | with_reducible refine r_c ?_
  | with_reducible refine r_op ?_
  | ((with_reducible refine r_ixL (xs := ?xx) (v := ?vv) ?hh ?he ?_); (case hh => first | assumption | exact upd_same); (case he => rfl))
  | with_reducible refine r_asg ?_
  | with_reducible refine r_sub ?_
  | ((with_reducible refine r_gTup (xs := ?xx) ?hh ?he ?_); (case hh => assumption); (case he => rfl))
  | with_reducible refine r_gCons ?_
  | with_reducible refine r_gNil ?_
  | ((with_reducible refine r_setL (xs := ?xx) (j := ?vv) ?hh ?he ?_); (case hh => first | assumption | exact upd_same); (case he => rfl))
  | with_reducible refine r_pow15 ?_
  | with_reducible refine r_pow18 ?_
  | with_reducible refine r_repr ?_
  | with_reducible refine iteT ?_
  | with_reducible refine iteF ?_
  | with_reducible refine r_cons ?_
  | with_reducible refine r_nil ?_
  | with_reducible refine r_call ?_
  | with_reducible refine r_cb ?_
  | with_reducible refine r_ret ?_
  | with_reducible refine r_gName ?_
  | with_reducible refine r_next ?_
  | with_reducible refine r_ifS ?_
  | with_reducible refine r_un ?_
  | with_reducible refine r_U ?_
  | with_reducible refine r_max2 ?_
  | with_reducible refine r_min2 ?_
  | with_reducible refine r_sl ?_
  | with_reducible refine r_noPart ?_
  | with_reducible refine r_part ?_
  | with_reducible refine r_inti ?_
  | with_reducible refine r_lc ?_
  | with_reducible refine r_for ?_
  | with_reducible refine r_rng1 ?_
  | with_reducible refine r_iList ?_
  | with_reducible refine r_iTup ?_
  | with_reducible refine r_iStr ?_
  | with_reducible refine r_strx ?_
  | ((with_reducible refine r_j ?hh ?hi ?_); (case hh => omega); (case hi => omega))
  | with_reducible refine r_m1 ?_
  | with_reducible refine r_test ?_
  | with_reducible refine r_B ?_
  | with_reducible refine r_not ?_
  | with_reducible refine r_and ?_
  | with_reducible refine r_or ?_
  | with_reducible refine r_andV ?_
  | with_reducible refine r_orV ?_
  | with_reducible refine r_notV ?_
  | with_reducible refine r_if ?_
  | with_reducible refine r_chain ?_
  | with_reducible refine r_lst ?_
  | with_reducible refine r_tup ?_
  | with_reducible refine r_k ?_
  | ((with_reducible refine r_isiS (d := ?dd) ?hh ?_); (case hh => assumption))
  | ((with_reducible refine r_isiT (d := ?dd) ?hh ?_); (case hh => assumption))
  | ((with_reducible refine r_isiI (d := ?dd) ?hh ?_); (case hh => assumption))
  | ((with_reducible refine r_isiB (d := ?dd) ?hh ?_); (case hh => assumption))
  | ((with_reducible refine r_lenS ?hh ?_); (case hh => assumption))
  | ((with_reducible refine r_lenT (xs := ?dd) ?hh ?_); (case hh => assumption))
  | ((with_reducible refine r_ixT (xs := ?xx) (v := ?vv) ?hh ?he ?_); (case hh => assumption); (case he => rfl))
  | with_reducible refine r_isN ?_
  | with_reducible refine r_I0 ?_
  | with_reducible refine g_addI ?_
  | ((with_reducible refine r_mod ?hh ?_); (case hh => first | decide | omega))
  | ((with_reducible refine r_div ?hh ?hi ?_); (case hh => first | decide | omega); (case hi => first | decide | omega))
  | ((with_reducible refine g_mulB ?hh ?hi ?_); (case hh => omega); (case hi => omega))
  | with_reducible refine g_ltI ?_
  | with_reducible refine g_leI ?_
  | with_reducible refine g_gtI ?_
  | with_reducible refine g_geI ?_
  | with_reducible refine g_eqI ?_
  | with_reducible refine g_neI ?_
  | with_reducible refine g_eqS ?_
  | with_reducible refine g_neS ?_
  | with_reducible refine g_leS ?_
  | with_reducible refine g_ltS ?_)
local macro_rules | `(tactic| walk_at "rd") => `(tactic| repeat (walk_at "rd1"))
local macro_rules | `(tactic| walk_at "ed") => `(tactic| repeat first
  | exact ed_int
  | exact ed_str
  | exact ed_bl
  | exact ed_non
  | exact ed_nil
  | exact ed_dct
  | exact ed_neg
  | with_reducible apply ed_cons
  | with_reducible apply ed_tup
  | with_reducible apply ed_lst
  | exact Nat.le_of_ble_eq_true rfl)
local macro_rules | `(tactic| walk_at "tx1") => `(tactic| first
  | walk_at "rd1"
  | with_reducible refine r_callS ?_
  | with_reducible refine r_par ?_
  | with_reducible refine r_pair ?_
  | with_reducible refine r_pow6 ?_
  | with_reducible refine r_m0 ?_
  | with_reducible refine r_bm ?_
  | with_reducible refine r_isS ?_
  | with_reducible refine r_told ?_
  | with_reducible refine r_js ?_
  | with_reducible refine r_jsNil ?_
  | with_reducible refine r_repl ?_
  | ((with_reducible refine r_gLst (xs := ?xx) ?hh ?he ?_); (case hh => assumption); (case he => rfl))
  | ((with_reducible refine r_lenL (xs := ?xx) ?hh ?_); (case hh => assumption)))
local macro_rules | `(tactic| walk_at "tx") => `(tactic| repeat (walk_at "tx1"))
section
variable {t1 t2 t3 t4 : Tok} {P : Program} {w : World} {K : PySem.W.Frag} {mg : Str → Option Value} {base : Heap}
def Asc (x : Str) : Prop := ∀ c ∈ x.cps.toList, c < 128
theorem Asc.cat {x y : Str} (a : Asc x) (b : Asc y) : Asc (x ++ y) := fun c h => by
  rw [show (x ++ y).cps.toList = x.cps.toList ++ y.cps.toList from TL.tl_append x y] at h
  rcases List.mem_append.mp h with h | h
  · exact a c h
  · exact b c h
theorem Asc.cut {x : Str} (a : Asc x) (lo hi : Option Int) : Asc (cutS x lo hi) := fun c h => a c (List.mem_of_mem_drop (List.mem_of_mem_take h))
theorem word_asc {x : List Nat} (h : wordS (S x) = true) : ∀ c ∈ x, c < 128 := by
  intro c m
  unfold wordS at h
  rw [Bool.and_eq_true] at h
  have := List.all_eq_true.mp h.2 c m
  unfold lowB at this
  rw [Bool.and_eq_true, decide_eq_true_eq, decide_eq_true_eq] at this
  omega
theorem value_asc {x : List Nat} (h : valueS (S x) = true) : ∀ c ∈ x, c < 128 := by
  intro c m
  unfold valueS at h
  rw [Bool.and_eq_true] at h
  have := List.all_eq_true.mp h.2 c m
  unfold shownB at this
  rw [Bool.and_eq_true, decide_eq_true_eq, decide_eq_true_eq] at this
  omega
theorem esc_asc {v : List Nat} (h : ∀ c ∈ v, c < 128) : ∀ c ∈ esc v, c < 128 := by
  induction v with
  | nil => intro c m; cases m
  | cons d v ih =>
    intro c m
    rw [esc_cons] at m
    have hd := h d (List.mem_cons_self ..)
    rcases List.mem_append.mp m with m | m
    · split at m
      · rcases List.mem_cons.mp m with e | m
        · omega
        · rw [List.mem_singleton.mp m]; exact hd
      · rw [List.mem_singleton.mp m]; exact hd
    · exact ih (fun c hc => h c (List.mem_cons_of_mem _ hc)) c m
theorem fmt_asc {e : Ent} (h : IsE e) : Asc (S (fmtL e)) := by
  obtain ⟨k, n, m, o⟩ := e
  have a1 := word_asc h.key
  have a2 := word_asc h.home
  have a3 : ∀ c ∈ TL.numL n, c < 128 := fun c hc => by
    have := TL.numL_digits n c hc
    omega
  have a4 : ∀ c ∈ toldL o, c < 128 := fun c hc => by
    cases o with
    | none =>
      rw [List.mem_singleton.mp hc]
      decide
    | some u =>
      have hc : c ∈ 34 :: (esc u ++ [34]) := hc
      rcases List.mem_cons.mp hc with e | hc
      · omega
      · rcases List.mem_append.mp hc with hc | hc
        · exact esc_asc (value_asc (h.val u rfl)) c hc
        · rw [List.mem_singleton.mp hc]; decide
  intro c hc
  have hc : c ∈ k ++ 32 :: ((TL.numL n ++ 46 :: m) ++ 32 :: toldL o) := hc
  simp only [List.mem_append, List.mem_cons] at hc
  rcases hc with hc | rfl | (hc | rfl | hc) | rfl | hc
  · exact a1 c hc
  · decide
  · exact a3 c hc
  · decide
  · exact a2 c hc
  · decide
  · exact a4 c hc
theorem fmt_len {e : Ent} (h : IsE e) : (S (fmtL e)).length ≤ 200 := by
  obtain ⟨k, n, m, o⟩ := e
  obtain ⟨la, lb, lc, ld, lz, lv⟩ := fmt_lens h
  rw [S_len] at la lc ld
  rw [num_S, S_len] at lb
  rw [S_len]
  show (k ++ 32 :: ((TL.numL n ++ 46 :: m) ++ 32 :: toldL o)).length ≤ 200
  have la : k.length ≤ 8 := la
  have lb : (TL.numL n).length ≤ 16 := lb
  have lc : m.length ≤ 8 := lc
  have ld : (toldL o).length ≤ 82 := ld
  simp only [List.length_append, List.length_cons]
  omega
theorem shows_str {x : Str} (a : Asc x) (hx : x.length ≤ 20000) : Shows (.str x) := by
  refine ⟨.inl rfl, rfl, ?_, by show 0 ≤ 60; decide⟩
  rw [PyData.shown_str]
  have := StrLaws.reprText_len x (fun c hc => Nat.lt_trans (a c hc) (by decide))
  omega
theorem ent_plain (e : Ent) : (entD e).plain = true ∧ (entD e).depth ≤ 60 := by
  obtain ⟨k, n, m, o⟩ := e
  cases o with
  | none => exact ⟨rfl, by show max 0 (max (max 0 (max 0 0) + 1) (max 0 0)) + 1 ≤ 60; decide⟩
  | some u => exact ⟨rfl, by show max 0 (max (max 0 (max 0 0) + 1) (max 0 0)) + 1 ≤ 60; decide⟩
theorem pars_plain (d : PyData) : (parsedD d).plain = true ∧ (parsedD d).depth ≤ 60 := by
  unfold parsedD
  split
  · exact ent_plain _
  · exact ⟨rfl, by show max 0 (max 0 (max 0 0)) + 1 ≤ 60; decide⟩
theorem okD_ent {e : Ent} (h : IsE e) : okD (entD e) := by
  obtain ⟨k, n, m, o⟩ := e
  obtain ⟨la, lb, lc, ld, lz, lv⟩ := fmt_lens h
  refine ⟨by simp, Nat.le_trans la (by decide), ⟨by simp, trivial, Nat.le_trans lc (by decide), trivial⟩, ?_, trivial⟩
  cases o with
  | none => trivial
  | some u => exact Nat.le_trans (lv u rfl) (by decide)
/-- what a text of no entry must be -/
structure Bad (d : PyData) : Prop where
  shows : Shows d
  short : ∀ x, d = .str x → x.length ≤ 20000
  none : readD d = none
/-- what a thing of no entry must be -/
structure Odd (d : PyData) : Prop where
  shows : Shows d
  ok : okD d
  no : entryD d = false
theorem DdAll.pick {K : PySem.W.Frag} {H : Hp} {P : PyData → Prop} : ∀ {vs : List V} {ds : List PyData} {v : V}, DdAll K H vs ds → (∀ d ∈ ds, P d) → v ∈ vs → ∃ d, Dd K H v d ∧ P d
  | _, _, _, .nil, _, h => by cases h
  | _, _, v, .cons h t, o, m => by
    rcases List.mem_cons.mp m with e | m
    · subst e
      exact ⟨_, h, o _ (List.mem_cons_self ..)⟩
    · exact DdAll.pick t (fun d hd => o d (List.mem_cons_of_mem _ hd)) m
def things : List PyData := ([.none, .int (5), .str (Str.ofString "k 1.ann -"), .tuple [.str (Str.ofString "k"), .tuple [.int (1), .str (Str.ofString "ann")]], .list [.str (Str.ofString "k"), .tuple [.int (1), .str (Str.ofString "ann")], .none], .tuple [.str (Str.ofString "k"), .tuple [.bool true, .str (Str.ofString "ann")], .str (Str.ofString "x")], .dict []] : List PyData)
theorem things_odd : ∀ d ∈ things, Odd d := by
  have sh : ∀ d ∈ things, (d.hasDict = false ∨ d = .dict []) := fun d hd => by
    simp only [things, List.mem_cons, List.not_mem_nil, or_false] at hd
    rcases hd with rfl | rfl | rfl | rfl | rfl | rfl | rfl
    all_goals first | exact .inr rfl | exact .inl rfl
  have ch : things.all (fun d => d.showable && decide (d.shown.length ≤ 1000000) && decide (d.depth ≤ 60) && !entryD d) = true := by decide +kernel
  have ok : okAll things := by
    simp only [things, okAll, okD, and_true, true_and]
    decide +kernel
  have okm : ∀ {ds : List PyData}, okAll ds → ∀ d ∈ ds, okD d := fun {ds} => by
    induction ds with
    | nil => intro _ d hd; cases hd
    | cons x xs ih =>
      intro h d hd
      rcases List.mem_cons.mp hd with e | hd
      · rw [e]; exact h.1
      · exact ih h.2 d hd
  intro d hd
  have c := List.all_eq_true.mp ch d hd
  simp only [Bool.and_eq_true, decide_eq_true_eq, Bool.not_eq_true'] at c
  obtain ⟨⟨⟨c1, c2⟩, c3⟩, c4⟩ := c
  exact ⟨⟨sh d hd, c1, c2, c3⟩, okm ok d hd, c4⟩
def bad1 : List PyData := ([.none, .int (5), .bool true, .list [], .tuple [], .str (Str.ofString ""), .str (Str.ofString " "), .str (Str.ofString "k"), .str (Str.ofString "k 1.ann"), .str (Str.ofString "k 1.ann "), .str (Str.ofString "k 01.ann -"), .str (Str.ofString "k 0.ann -"), .str (Str.ofString "k 1.ann  -")] : List PyData)
@[irreducible] def nines : Str := Txt.mul "9" 5000
@[irreducible] def ones : Str := Txt.mul "1" 5000
@[irreducible] def exes : Str := Txt.mul "x" 41
def bad2 : List PyData := [.str "k 1.ann x", .str "K 1.ann -", .str "k 1ann -", .str "k 1.ann.b -", .str "k 1.ann -\n", .str "k 1.ann \"\n\"", .str ("k 1." ++ nines ++ " -")]
def bad3 : List PyData := [.str ("k " ++ ones ++ ".ann -"), .str ("k 1.ann \"" ++ exes ++ "\"")]
theorem nines_len : nines.length = 5000 := by decide +kernel
theorem ones_len : ones.length = 5000 := by decide +kernel
theorem exes_len : exes.length = 41 := by decide +kernel
theorem nines_asc : Asc nines := fun c h => of_decide_eq_true (List.all_eq_true.mp (show nines.cps.toList.all (fun c => decide (c < 128)) = true by decide +kernel) c h)
theorem ones_asc : Asc ones := fun c h => of_decide_eq_true (List.all_eq_true.mp (show ones.cps.toList.all (fun c => decide (c < 128)) = true by decide +kernel) c h)
theorem ed_cat {σ : L2.St} {te tf : TE} {x y : Str} (h1 : EvD K te σ (.str x)) (h2 : EvD K tf σ (.str y)) (hl : x.length + y.length ≤ 100000) : EvD K (tOp (GAdd K) te tf) σ (.str (x ++ y)) := fun H Q q =>
  h1 H _ fun v1 H1 s1 d1 => h2 H1 _ fun v2 H2 s2 d2 => by
    cases d1
    cases d2
    exact g_addS (sz_of hl) (q _ H2 (s1.trans s2) (.str _))
theorem ed_mul {σ : L2.St} {x : Str} {n : Int} (h : ∀ (H : Hp) (Q : VK), Q (.str (Txt.mul x n)) H → GMul (.str x) (.int n) H Q) : EvD K (tOp GMul (tC (.str x)) (tC (.int n))) σ (.str (Txt.mul x n)) := fun H Q q => h H Q (q _ H (Same.refl H) (.str _))
theorem ed_nines {σ : L2.St} : EvD K (tOp GMul (tC (.str "9")) (tC (.int 5000))) σ (.str nines) := by
  have e : nines = Txt.mul "9" 5000 := by unfold nines; exact rfl
  rw [e]
  exact ed_mul fun _ _ q => g_mulS ⟨by decide, fun _ _ => by decide, fun _ _ => by decide⟩ q
theorem ed_ones {σ : L2.St} : EvD K (tOp GMul (tC (.str "1")) (tC (.int 5000))) σ (.str ones) := by
  have e : ones = Txt.mul "1" 5000 := by unfold ones; exact rfl
  rw [e]
  exact ed_mul fun _ _ q => g_mulS ⟨by decide, fun _ _ => by decide, fun _ _ => by decide⟩ q
theorem ed_exes {σ : L2.St} : EvD K (tOp GMul (tC (.str "x")) (tC (.int 41))) σ (.str exes) := by
  have e : exes = Txt.mul "x" 41 := by unfold exes; exact rfl
  rw [e]
  exact ed_mul fun _ _ q => g_mulS ⟨by decide, fun _ _ => by decide, fun _ _ => by decide⟩ q
theorem bad_big {x : Str} (a : Asc x) (h1 : 200 < x.length) (h2 : x.length ≤ 20000) : Bad (.str x) := by
  refine ⟨shows_str a h2, fun y e => by cases e; exact h2, ?_⟩
  show readL x.cps.toList = none
  cases e : readL x.cps.toList with
  | none => rfl
  | some en =>
    obtain ⟨z1, z2⟩ := read_back e
    have z3 := fmt_len z1
    rw [z2, S_tl] at z3
    omega
def chkB (d : PyData) : Bool := (!d.hasDict && d.showable && decide (d.shown.length ≤ 1000000) && decide (d.depth ≤ 60)) && ((readD d).isNone && (match d with | .str x => decide (x.length ≤ 20000) | _ => true))
theorem bad_of {d : PyData} (h : chkB d = true) : Bad d := by
  unfold chkB at h
  simp only [Bool.and_eq_true, decide_eq_true_eq, Bool.not_eq_true', Option.isNone_iff_eq_none] at h
  obtain ⟨⟨⟨⟨h1, h2⟩, h3⟩, h4⟩, h5, h6⟩ := h
  refine ⟨⟨.inl h1, h2, h3, h4⟩, fun x e => ?_, h5⟩
  subst e
  exact of_decide_eq_true h6
theorem small_bad : (bad1 ++ ([.str "k 1.ann x", .str "K 1.ann -", .str "k 1ann -", .str "k 1.ann.b -", .str "k 1.ann -\n", .str "k 1.ann \"\n\"", .str ("k 1.ann \"" ++ exes ++ "\"")] : List PyData)).all chkB = true := by decide +kernel
theorem asc_lit {x : Str} (h : x.cps.toList.all (fun c => decide (c < 128)) = true) : Asc x := fun c hc => of_decide_eq_true (List.all_eq_true.mp h c hc)
theorem bads : ∀ d ∈ (bad1 ++ bad2) ++ bad3, Bad d := by
  intro d hd
  have sm : ∀ d, d ∈ (bad1 ++ ([.str "k 1.ann x", .str "K 1.ann -", .str "k 1ann -", .str "k 1.ann.b -", .str "k 1.ann -\n", .str "k 1.ann \"\n\"", .str ("k 1.ann \"" ++ exes ++ "\"")] : List PyData)) → Bad d := fun d h => bad_of (List.all_eq_true.mp small_bad d h)
  rcases List.mem_append.mp hd with hd | hd
  · rcases List.mem_append.mp hd with hd | hd
    · exact sm d (List.mem_append_left _ hd)
    · simp only [bad2, List.mem_cons, List.not_mem_nil, or_false] at hd
      rcases hd with rfl | rfl | rfl | rfl | rfl | rfl | rfl
      · exact sm _ (List.mem_append_right _ (by simp))
      · exact sm _ (List.mem_append_right _ (by simp))
      · exact sm _ (List.mem_append_right _ (by simp))
      · exact sm _ (List.mem_append_right _ (by simp))
      · exact sm _ (List.mem_append_right _ (by simp))
      · exact sm _ (List.mem_append_right _ (by simp))
      · refine bad_big (((asc_lit (by decide +kernel)).cat nines_asc).cat (asc_lit (by decide +kernel))) ?_ ?_
        · rw [cat_len, cat_len, nines_len]
          omega
        · rw [cat_len, cat_len, nines_len, show ("k 1." : Str).length = 4 by decide, show (" -" : Str).length = 2 by decide]
          omega
  · simp only [bad3, List.mem_cons, List.not_mem_nil, or_false] at hd
    rcases hd with rfl | rfl
    · refine bad_big (((asc_lit (by decide +kernel)).cat ones_asc).cat (asc_lit (by decide +kernel))) ?_ ?_
      · rw [cat_len, cat_len, ones_len]
        omega
      · rw [cat_len, cat_len, ones_len, show ("k " : Str).length = 2 by decide, show (".ann -" : Str).length = 6 by decide]
        omega
    · exact sm _ (List.mem_append_right _ (by simp))
theorem b2_a : ("k 1." : Str).length + nines.length ≤ 100000 := by rw [nines_len]; decide
theorem b2_b : ("k 1." ++ nines : Str).length + (" -" : Str).length ≤ 100000 := by rw [cat_len, nines_len]; decide
theorem b3_a : ("k " : Str).length + ones.length ≤ 100000 := by rw [ones_len]; decide
theorem b3_b : ("k " ++ ones : Str).length + (".ann -" : Str).length ≤ 100000 := by rw [cat_len, ones_len]; decide
theorem b3_c : ("k 1.ann \"" : Str).length + exes.length ≤ 100000 := by rw [exes_len]; decide
theorem b3_d : ("k 1.ann \"" ++ exes : Str).length + ("\"" : Str).length ≤ 100000 := by rw [cat_len, exes_len]; decide
abbrev s_law : Stmt := top 29
abbrev n_law : List Str := ["_law_script", "_law_k", "_law_pool_here", "_law_turn", "_law_entry_here", "_law_text", "_law_at", "_law_sign", "_law_bent", "_law_due", "_law_thing", "_law_some"]
abbrev p_law : List Str := ["_law_script"]
theorem sc_law : FnScope n_law p_law (defScope s_law) := ⟨rfl, rfl, rfl, by decide +kernel, rfl, by decide +kernel, by decide +kernel⟩
theorem ok_law {CB CT : Addr} (T : Txt mg t1 t2 t3 t4) {f : Addr} {fd : FuncData} (F : Fun K "law" "law" s_law f fd) (K_L_pool : Cal P w K mg base CX0 6 "_law_pool" p_L_pool (spPool K)) (K_L_take : Cal P w K mg base CX0 6 "_law_take" p_L_take spTake)
    (K_L_entry : Cal P w K mg base CX0 6 "_law_entry" p_L_entry (spEnt K)) (K_L_written : Cal P w K mg base CX0 6 "_law_written" p_L_written (spWritten K)) (K_L_read : Cal P w K mg base CX0 6 "_law_read" p_L_read (spRead K))
    (K_format_entry : Cal P w K mg base (L2.CX P w) 6 "format_entry" p_format_entry (spFmt K CB)) (K_parse_entry : Cal P w K mg base (L2.CX P w) 6 "parse_entry" p_parse_entry (spParse K CT))
    (K_L_parsed : CalG P w K mg base CX0 6 "_law_parsed" p_L_parsed (spPars K)) (K_L_formatted : CalG P w K mg base CX0 6 "_law_formatted" p_L_formatted (spForm K)) :
    FnG P w K mg base CX0 7 f fd p_law (spLaw K) := by
  refine funG0 F sc_law (fun vs H Q E h => spLaw_len h) (fun cdv A outer s H vs Q E gd hr h => ?_)
  obtain ⟨a, ns, rfl, hS, hl, k⟩ := h
  have hu := hr.units
  refine ⟨_, (pss_cons (ps_for PassesOwn.never rfl (pi_range1 rfl T.z_range (pa_cons (pe_callB (c_max2 rfl) (by rfl) T.z_max (by decide +kernel) (pa_cons pe_int (pa_cons (pe_callB (c_min2 rfl) (by rfl) T.z_min (by decide +kernel) (pa_cons (pe_callB k_len (by rfl) T.z_len (by decide +kernel) (pa_cons (pv 0) pa_nil)) (pa_cons pe_int pa_nil))) pa_nil))) pa_nil)) (pg_name (i := 1) sc_law.nd rfl (by first | exact Or.inl rfl | exact Or.inr rfl))
      (pss_cons (ps_set (i := 2) sc_law.nd rfl (by first | exact Or.inl rfl | exact Or.inr rfl) (pe_cal K_L_pool (hr.mono (by decide)) pass0 (pa_cons (pv 0) (pa_cons (pv 1) pa_nil))))
      (pss_cons (ps_for PassesOwn.never rfl (pi_range1 rfl T.z_range (pa_cons pe_int pa_nil)) (pg_name (i := 3) sc_law.nd rfl (by first | exact Or.inl rfl | exact Or.inr rfl))
      (pss_cons (ps_set (i := 4) sc_law.nd rfl (by first | exact Or.inl rfl | exact Or.inr rfl) (pe_cal K_L_entry (hr.mono (by decide)) pass0 (pa_cons (pv 2) pa_nil)))
      (pss_cons (ps_set (i := 5) sc_law.nd rfl (by first | exact Or.inl rfl | exact Or.inr rfl) (pe_cal K_L_written (hr.mono (by decide)) pass0 (pa_cons (pv 4) pa_nil)))
      (pss_cons (ps_if (PW.pt (pw_or (pt_cmpR (k_ne hu) (pe_cal K_format_entry (hr.mono (by decide)) (passOut (E := E0) takes0) (pa_cons (pv 4) pa_nil)) (pv 5) (nomark _)) (pw_or1 (pt_cmpR (k_neP hu) (pe_cal K_parse_entry (hr.mono (by decide)) (passOut (E := E0) takes0) (pa_cons (pv 5) pa_nil)) (pv 4) (nomark _))))) (pss_one (ps_ret pe_bl)) pss_nil)
      (pss_cons (ps_par (i := 6) (j := 7) rfl sc_law.nd rfl rfl (by decide) rfl rfl (pa_cons (pe_cal K_L_take (hr.mono (by decide)) pass0 (pa_cons (pv 2) (pa_cons (pe_op k_add (pe_callB k_len (by rfl) T.z_len (by decide +kernel) (pa_cons (pv 5) pa_nil)) pe_int) pa_nil))) (pa_cons (pe_ix k_ix pe_str (pe_cal K_L_take (hr.mono (by decide)) pass0 (pa_cons (pv 2) (pa_cons pe_int pa_nil))) (fun _ _ => rfl)) pa_nil)) (by rfl))
      (pss_one (ps_for PassesOwn.never rfl (k_list (pe_lst (pa_cons (pe_op k_add (pe_op k_add (pe_slice k_slice (pv 5) po_none (po_some (pv 6))) (pv 7)) (pe_slice k_slice (pv 5) (po_some (pv 6)) po_none)) (pa_cons (pe_op k_add (pe_slice k_slice (pv 5) po_none (po_some (pv 6))) (pe_slice k_slice (pv 5) (po_some (pe_op k_add (pv 6) pe_int)) po_none)) (pa_cons (pe_op k_add (pe_op k_add (pe_slice k_slice (pv 5) po_none (po_some (pv 6))) (pv 7)) (pe_slice k_slice (pv 5) (po_some (pe_op k_add (pv 6) pe_int)) po_none)) pa_nil))))) (pg_name (i := 8) sc_law.nd rfl (by first | exact Or.inl rfl | exact Or.inr rfl))
      (pss_cons (ps_set (i := 9) sc_law.nd rfl (by first | exact Or.inl rfl | exact Or.inr rfl) (pe_cal K_L_read (hr.mono (by decide)) pass0 (pa_cons (pv 8) pa_nil)))
      (pss_one (ps_if (pt_cmpR (k_neP hu) (pe_calg K_L_parsed gd (hr.mono (by decide)) pass0 (pa_cons (pv 8) pa_nil)) (pe_ifExp (pt_cmpR op_notN (pv 9) pe_non (nomark _)) (pv 9) (pe_lst (pa_cons pe_str (pa_cons (pe_callB (call_reprD gd hu) (by rfl) T.z_repr (by decide +kernel) (pa_cons (pv 8) pa_nil)) (pa_cons pe_bl pa_nil))))) (nomark _)) (pss_one (ps_ret pe_bl)) pss_nil))))))))))
      (pss_cons (ps_for PassesOwn.never rfl (k_list (pe_lst (pa_cons pe_non (pa_cons pe_int (pa_cons pe_str (pa_cons (pe_tup (pa_cons pe_str (pa_cons (pe_tup (pa_cons pe_int (pa_cons pe_str pa_nil))) pa_nil))) (pa_cons (pe_lst (pa_cons pe_str (pa_cons (pe_tup (pa_cons pe_int (pa_cons pe_str pa_nil))) (pa_cons pe_non pa_nil)))) (pa_cons (pe_tup (pa_cons pe_str (pa_cons (pe_tup (pa_cons pe_bl (pa_cons pe_str pa_nil))) (pa_cons pe_str pa_nil)))) (pa_cons pe_dnewK pa_nil))))))))) (pg_name (i := 10) sc_law.nd rfl (by first | exact Or.inl rfl | exact Or.inr rfl))
      (pss_one (ps_if (pt_cmpR (k_neP hu) (pe_calg K_L_formatted gd (hr.mono (by decide)) pass0 (pa_cons (pv 10) pa_nil)) (pe_lst (pa_cons pe_str (pa_cons (pe_callB (call_reprD gd hu) (by rfl) T.z_repr (by decide +kernel) (pa_cons (pv 10) pa_nil)) (pa_cons pe_bl pa_nil)))) (nomark _)) (pss_one (ps_ret pe_bl)) pss_nil)))
      (pss_cons (ps_set (i := 11) sc_law.nd rfl (by first | exact Or.inl rfl | exact Or.inr rfl) (pe_lst (pa_cons pe_non (pa_cons pe_int (pa_cons pe_bl (pa_cons (pe_lst pa_nil) (pa_cons (pe_tup pa_nil) (pa_cons pe_str (pa_cons pe_str (pa_cons pe_str (pa_cons pe_str (pa_cons pe_str (pa_cons pe_str (pa_cons pe_str (pa_cons pe_str pa_nil)))))))))))))))
      (pss_cons (ps_set (i := 11) sc_law.nd rfl (by first | exact Or.inl rfl | exact Or.inr rfl) (pe_op k_add (pv 11) (pe_lst (pa_cons pe_str (pa_cons pe_str (pa_cons pe_str (pa_cons pe_str (pa_cons pe_str (pa_cons pe_str (pa_cons (pe_op k_add (pe_op k_add pe_str (pe_op o_mul pe_str pe_int)) pe_str) pa_nil))))))))))
      (pss_one (ps_for PassesOwn.never rfl (k_list (pe_op k_add (pv 11) (pe_lst (pa_cons (pe_op k_add (pe_op k_add pe_str (pe_op o_mul pe_str pe_int)) pe_str) (pa_cons (pe_op k_add (pe_op k_add pe_str (pe_op o_mul pe_str pe_int)) pe_str) pa_nil))))) (pg_name (i := 10) sc_law.nd rfl (by first | exact Or.inl rfl | exact Or.inr rfl))
      (pss_one (ps_if (pt_cmpR (k_neP hu) (pe_calg K_L_parsed gd (hr.mono (by decide)) pass0 (pa_cons (pv 10) pa_nil)) (pe_lst (pa_cons pe_str (pa_cons (pe_callB (call_reprD gd hu) (by rfl) T.z_repr (by decide +kernel) (pa_cons (pv 10) pa_nil)) (pa_cons pe_bl pa_nil)))) (nomark _)) (pss_one (ps_ret pe_bl)) pss_nil))))))))))
      (pss_one (ps_ret pe_bl))), ?_⟩
  walk_at "tx"
  refine r_lenQ hS ?_
  walk_at "tx"
  rw [List.length_map]
  obtain ⟨n, en, hn⟩ := turns_of 6 ns.length (by decide)
  rw [show (6 : Int) = ((6 : Nat) : Int) from rfl, en]
  walk_at "tx"
  refine for_range (lo := 0) (n := (n : Int).toNat) (fun i σ H1 => ∃ o1 o2 o3 o4 o5 o6 o7 o8 o9 o10 o11, σ = [some (.ref a), o1, o2, o3, o4, o5, o6, o7, o8, o9, o10, o11] ∧ Same H H1) ⟨_, _, _, _, _, _, _, _, _, _, _, rfl, Same.refl H⟩ ?_ ?_
  · rintro i σ H1 hi ⟨o1, o2, o3, o4, o5, o6, o7, o8, o9, o10, o11, rfl, s1⟩
    walk_at "tx"
    refine r_pool (s1.seq hS) hl (by omega) (by omega) fun p H2 hp s2 p2 => ?_
    have hp' : H p = none := by
      cases z : H p with
      | none => rfl
      | some o => rw [s1 _ _ z] at hp; cases hp
    walk_at "tx"
    refine for_range (lo := 0) (n := (((6 : Nat) : Int)).toNat) (fun j σ H3 => ∃ o3 o4 o5 o6 o7 o8 o9 o10 o11, σ = [some (.ref a), some (.int (0 + (i : Int))), some (.ref p), o3, o4, o5, o6, o7, o8, o9, o10, o11] ∧ Same H H3 ∧ PoolAt H3 p) ⟨_, _, _, _, _, _, _, _, _, rfl, s1.trans s2, p2⟩ ?_ ?_
    · rintro j σ H3 hj ⟨o3, o4, o5, o6, o7, o8, o9, o10, o11, rfl, s3, p3⟩
      walk_at "tx"
      refine ⟨p, rfl, p3, fun v e H4 ie de d4 => ?_⟩
      walk_at "tx"
      refine ⟨v, e, rfl, ie, de, fun H5 s5 => ?_⟩
      have le := fmt_len ie
      have d5 := Dd.same s5 _ _ de
      walk_at "tx"
      have oke : okD (entD e) := okD_ent ie
      refine ⟨v, entD e, rfl, d5, oke, fun e' he ie' H6 s6 => ?_, fun z => by rw [isE_iff.mpr ie] at z; cases z⟩
      obtain rfl := entD_inj he
      walk_at "tx"
      refine r_decN (fun c => absurd rfl c) (fun _ => ?_)
      walk_at "tx"
      have rf : readD (.str (S (fmtL e))) = some e := read_fmt ie
      refine ⟨_, .str (S (fmtL e)), rfl, .str _, fun x hx => by cases hx; omega, fun e' he v1 H7 s7 d7 => ?_, fun z => by rw [rf] at z; cases z⟩
      obtain rfl := Option.some.inj (rf.symm.trans he)
      walk_at "tx"
      refine r_neSame d7 (Dd.same (s6.trans s7) _ _ d5) (ent_plain e).1 (ent_plain e).2 ?_
      walk_at "tx"
      have p7 := ((d4.pool.same s5).same s6).same s7
      refine r_lenS (by omega) ?_
      walk_at "tx"
      refine r_take p7 (by omega) (by omega) fun r H8 r0 r1 d8 => ?_
      walk_at "tx"
      refine r_take d8.pool (by decide) (by decide) fun r' H9 r0' r1' d9 => ?_
      have ecs : ("k .0\"-\\a9" : Str).cps.toList = [107, 32, 46, 48, 34, 45, 92, 97, 57] := by decide +kernel
      obtain ⟨c, hc, ca⟩ : ∃ c, ("k .0\"-\\a9" : Str).cps.toList[r'.toNat]? = some c ∧ c < 128 := by
        rw [ecs]
        have hlt : r'.toNat < 9 := by omega
        have key : ∀ q : Fin 9, ∃ c, ([107, 32, 46, 48, 34, 45, 92, 97, 57] : List Nat)[q.val]? = some c ∧ c < 128 := by decide
        exact key ⟨r'.toNat, hlt⟩
      refine r_ixS (c := c) (by decide) (by
        have z := atI_nat hc
        rw [Int.toNat_of_nonneg r0'] at z
        exact z) ?_
      walk_at "tx"
      have ft := fmt_asc ie
      have ac : Asc ⟨#[c]⟩ := fun y hy => by
        rw [List.mem_singleton.mp hy]
        exact ca
      have lc : (⟨#[c]⟩ : Str).length = 1 := rfl
      generalize hT : S (fmtL e) = tt at *
      have cl := fun lo hi => cutS_len tt lo hi
      have q1 := cl none (some r)
      have q2 := cl (some r) none
      have q3 := cl (some (r + 1)) none
      refine g_slS (by omega) ?_
      walk_at "tx"
      refine g_addS (sz_of (by rw [lc]; omega)) ?_
      walk_at "tx"
      refine g_slS (by omega) ?_
      walk_at "tx"
      refine g_addS (sz_of (by rw [cat_len, lc]; omega)) ?_
      walk_at "tx"
      refine g_slS (by omega) ?_
      walk_at "tx"
      refine g_slS (by omega) ?_
      walk_at "tx"
      refine g_addS (sz_of (by omega)) ?_
      walk_at "tx"
      refine g_slS (by omega) ?_
      walk_at "tx"
      refine g_addS (sz_of (by rw [lc]; omega)) ?_
      walk_at "tx"
      refine g_slS (by omega) ?_
      walk_at "tx"
      refine g_addS (sz_of (by rw [cat_len, lc]; omega)) ?_
      walk_at "tx"
      refine a_lst (by simp) fun L1 H10 n10 s10 e10 => ?_
      walk_at "tx"
      refine ⟨_, rfl, ⟨_, SqL.of e10⟩, ?_⟩
      have b1 : Asc (cutS tt none (some r) ++ ⟨#[c]⟩ ++ cutS tt (some r) none) ∧ (cutS tt none (some r) ++ ⟨#[c]⟩ ++ cutS tt (some r) none).length ≤ 20000 := ⟨((ft.cut _ _).cat ac).cat (ft.cut _ _), by rw [cat_len, cat_len, lc]; omega⟩
      have b2 : Asc (cutS tt none (some r) ++ cutS tt (some (r + 1)) none) ∧ (cutS tt none (some r) ++ cutS tt (some (r + 1)) none).length ≤ 20000 := ⟨(ft.cut _ _).cat (ft.cut _ _), by rw [cat_len]; omega⟩
      have b3 : Asc (cutS tt none (some r) ++ ⟨#[c]⟩ ++ cutS tt (some (r + 1)) none) ∧ (cutS tt none (some r) ++ ⟨#[c]⟩ ++ cutS tt (some (r + 1)) none).length ≤ 20000 := ⟨((ft.cut _ _).cat ac).cat (ft.cut _ _), by rw [cat_len, cat_len, lc]; omega⟩
      have al : DdAll K H10 _ _ := .cons (.str (cutS tt none (some r) ++ ⟨#[c]⟩ ++ cutS tt (some r) none)) (.cons (.str (cutS tt none (some r) ++ cutS tt (some (r + 1)) none)) (.cons (.str (cutS tt none (some r) ++ ⟨#[c]⟩ ++ cutS tt (some (r + 1)) none)) .nil))
      have all : ∀ d ∈ [PyData.str (cutS tt none (some r) ++ ⟨#[c]⟩ ++ cutS tt (some r) none), .str (cutS tt none (some r) ++ cutS tt (some (r + 1)) none), .str (cutS tt none (some r) ++ ⟨#[c]⟩ ++ cutS tt (some (r + 1)) none)], ∃ x, d = .str x ∧ Asc x ∧ x.length ≤ 20000 := fun d hd => by
        simp only [List.mem_cons, List.not_mem_nil, or_false] at hd
        rcases hd with rfl | rfl | rfl
        · exact ⟨_, rfl, b1⟩
        · exact ⟨_, rfl, b2⟩
        · exact ⟨_, rfl, b3⟩
      have p10 := d9.pool.same s10
      have s310 : Same H H10 := ((((((d4.same s5).same s6).same s7).trans d8).trans d9).same s10).back s3 hp'
      refine for_data e10 (fun σ => ∃ o3 o4 o5 o6 o7 o8 o9 o10 o11, σ = [some (.ref a), some (.int (0 + (i : Int))), some (.ref p), o3, o4, o5, o6, o7, o8, o9, o10, o11]) ⟨_, _, _, _, _, _, _, _, _, rfl⟩ ?_ ?_
      · rintro v hv σ H11 ⟨o3, o4, o5, o6, o7, o8, o9, o10, o11, rfl⟩ s11
        obtain ⟨d, hd, x, rfl, ax, lx⟩ := DdAll.pick al all hv
        cases hd
        have sx := shows_str ax lx
        walk_at "tx"
        refine ⟨x, rfl, lx, fun v1 H12 s12 d12 => ?_⟩
        walk_at "tx"
        refine ⟨.str x, .str x, rfl, .str x, fun y hy => by cases hy; exact lx, sx, fun v2 H13 s13 d13 => ?_⟩
        walk_at "tx"
        refine ⟨rfl, ?_⟩
        walk_at "tx"
        have pp := pars_plain (.str x)
        cases er : readL x.cps.toList with
        | none =>
          rw [er] at d12
          cases d12
          refine r_decN (fun c => absurd rfl c) (fun _ => ?_)
          walk_at "tx"
          refine r_reprD (.str x) sx ?_
          walk_at "tx"
          refine a_lst (by simp) fun L2 H14 n14 s14 e14 => ?_
          have pd : parsedD (.str x) = .list [.str "text", .str (PyData.str x).shown, .bool true] := by
            have z : readD (.str x) = _ := er
            unfold parsedD
            rw [z]
          rw [pd] at d13 pp
          refine r_neSame (Dd.same s14 _ _ d13) (.lst e14 (.cons (.str _) (.cons (.str _) (.cons (.bl _) .nil)))) pp.1 pp.2 ?_
          walk_at "tx"
          exact ⟨⟨_, _, _, _, _, _, _, _, _, rfl⟩, s11.trans (s12.trans (s13.trans s14))⟩
        | some e2 =>
          have pd : parsedD (.str x) = entD e2 := by
            have z : readD (.str x) = _ := er
            unfold parsedD
            rw [z]
          rw [pd] at d13 pp
          rw [er] at d12
          have d12' := Dd.same s13 _ _ d12
          have hv1 : v1 ≠ .non := by
            rintro rfl
            cases d12
          refine r_decN (fun c => ?_) (fun c => absurd c hv1)
          walk_at "tx"
          refine r_neSame d13 d12' pp.1 pp.2 ?_
          walk_at "tx"
          exact ⟨⟨_, _, _, _, _, _, _, _, _, rfl⟩, s11.trans (s12.trans s13)⟩
      · rintro σ H11 ⟨o3, o4, o5, o6, o7, o8, o9, o10, o11, rfl⟩ s11
        exact ⟨_, _, _, _, _, _, _, _, _, rfl, s310.trans s11, p10.same s11⟩
    · rintro σ H3 ⟨o3, o4, o5, o6, o7, o8, o9, o10, o11, rfl, s3, p3⟩
      walk_at "rd1"
      walk_at "rd1"
      walk_at "rd1"
      refine ev_use (K := K) (d := .list things) (by unfold things; walk_at "ed") fun v1 H4 s4 d4 => ?_
      cases d4 with
      | lst e4 al =>
        refine ⟨_, rfl, ⟨_, SqL.of e4⟩, ?_⟩
        refine for_data e4 (fun σ => ∃ o1 o2 o3 o4 o5 o6 o7 o8 o9 o10 o11, σ = [some (.ref a), o1, o2, o3, o4, o5, o6, o7, o8, o9, o10, o11]) ⟨_, _, _, _, _, _, _, _, _, _, _, rfl⟩ ?_ ?_
        · rintro v hv σ H5 ⟨o1, o2, o3, o4, o5, o6, o7, o8, o9, o10, o11, rfl⟩ s5
          obtain ⟨d, hd, od⟩ := DdAll.pick al things_odd hv
          have hd := Dd.same s5 _ _ hd
          walk_at "tx"
          refine ⟨v, d, rfl, hd, od.ok, od.shows, od.no, fun v2 H6 s6 d6 => ?_⟩
          walk_at "tx"
          refine r_reprD (Dd.same s6 _ _ hd) od.shows ?_
          walk_at "tx"
          refine a_lst (by simp) fun L2 H7 n7 s7 e7 => ?_
          refine r_neSame (Dd.same s7 _ _ d6) (.lst e7 (.cons (.str _) (.cons (.str _) (.cons (.bl _) .nil)))) rfl (by show max 0 (max 0 (max 0 0)) + 1 ≤ 60; decide) ?_
          walk_at "tx"
          exact ⟨⟨_, _, _, _, _, _, _, _, _, _, _, rfl⟩, s5.trans (s6.trans s7)⟩
        · rintro σ H5 ⟨o1, o2, o3, o4, o5, o6, o7, o8, o9, o10, o11, rfl⟩ s5
          have s35 := s3.trans (s4.trans s5)
          walk_at "rd1"
          walk_at "rd1"
          refine ev_use (K := K) (d := .list bad1) (by unfold bad1; walk_at "ed") fun v2 H6 s6 d6 => ?_
          walk_at "rd1"
          walk_at "rd1"
          walk_at "rd1"
          walk_at "rd1"
          walk_at "rd1"
          refine ev_use (K := K) (d := .list bad2) (ed_lst (ed_cons ed_str (ed_cons ed_str (ed_cons ed_str (ed_cons ed_str (ed_cons ed_str (ed_cons ed_str (ed_cons (ed_cat (ed_cat ed_str ed_nines b2_a) ed_str b2_b) ed_nil))))))) (by simp [bad2])) fun v3 H7 s7 d7 => ?_
          refine g_cat (Dd.same s7 _ _ d6) d7 (by simp [bad1, bad2]) fun v4 H8 s8 d8 => ?_
          walk_at "rd1"
          walk_at "rd1"
          walk_at "rd1"
          walk_at "rd1"
          walk_at "rd1"
          refine ev_use (K := K) (d := .list bad3) (ed_lst (ed_cons (ed_cat (ed_cat ed_str ed_ones b3_a) ed_str b3_b) (ed_cons (ed_cat (ed_cat ed_str ed_exes b3_c) ed_str b3_d) ed_nil)) (by simp [bad3])) fun v5 H9 s9 d9 => ?_
          refine g_cat (Dd.same s9 _ _ d8) d9 (by simp [bad1, bad2, bad3]) fun v6 H10 s10 d10 => ?_
          cases d10 with
          | lst e10 al =>
            refine ⟨_, rfl, ⟨_, SqL.of e10⟩, ?_⟩
            refine for_data e10 (fun σ => ∃ o1 o2 o3 o4 o5 o6 o7 o8 o9 o10 o11, σ = [some (.ref a), o1, o2, o3, o4, o5, o6, o7, o8, o9, o10, o11]) ⟨_, _, _, _, _, _, _, _, _, _, _, rfl⟩ ?_ ?_
            · rintro v hv σ H11 ⟨o1, o2, o3, o4, o5, o6, o7, o8, o9, o10, o11, rfl⟩ s11
              obtain ⟨d, hd, bd⟩ := DdAll.pick al bads hv
              have hd := Dd.same s11 _ _ hd
              walk_at "tx"
              refine ⟨v, d, rfl, hd, bd.short, bd.shows, fun v2 H12 s12 d12 => ?_⟩
              have pd : parsedD d = .list [.str "text", .str d.shown, .bool true] := by
                unfold parsedD
                rw [bd.none]
              rw [pd] at d12
              walk_at "tx"
              refine r_reprD (Dd.same s12 _ _ hd) bd.shows ?_
              walk_at "tx"
              refine a_lst (by simp) fun L2 H13 n13 s13 e13 => ?_
              refine r_neSame (Dd.same s13 _ _ d12) (.lst e13 (.cons (.str _) (.cons (.str _) (.cons (.bl _) .nil)))) rfl (by show max 0 (max 0 (max 0 0)) + 1 ≤ 60; decide) ?_
              walk_at "tx"
              exact ⟨⟨_, _, _, _, _, _, _, _, _, _, _, rfl⟩, s11.trans (s12.trans s13)⟩
            · rintro σ H11 ⟨o1, o2, o3, o4, o5, o6, o7, o8, o9, o10, o11, rfl⟩ s11
              exact ⟨_, _, _, _, _, _, _, _, _, _, _, rfl, s35.trans (s6.trans (s7.trans (s8.trans (s9.trans (s10.trans s11)))))⟩
  · rintro σ H1 ⟨o1, o2, o3, o4, o5, o6, o7, o8, o9, o10, o11, rfl, s1⟩
    walk_at "tx"
    exact k _
end
end K02

set_option Elab.async false
set_option linter.all false
set_option maxRecDepth 100000
set_option maxHeartbeats 4000000
namespace K02
open PySem PySem.Spec PyProof.Rows L2 Tk TkM
section
abbrev s_ini_BadEntry : Stmt := inClass (top 2) 0
theorem sc_ini_BadEntry : FnScope ["self", "value"] ["self", "value"] (defScope s_ini_BadEntry) := ⟨rfl, rfl, rfl, by decide +kernel, rfl, by decide +kernel, by decide +kernel⟩
abbrev s_ini_BadText : Stmt := inClass (top 3) 0
theorem sc_ini_BadText : FnScope ["self", "value"] ["self", "value"] (defScope s_ini_BadText) := ⟨rfl, rfl, rfl, by decide +kernel, rfl, by decide +kernel, by decide +kernel⟩
end
theorem all_mk {l : PySem.W.OpenLaw} {w : World} {K : PySem.W.Frag} {h : Heap} {mg : Str → Option Value} {fa : Addr} {t1 t2 t3 t4 : Tok} (X : K.In h) (G : h.Ns mainGlobals mg) (hfa : mg "law" = some (.ref fa))
    {C_TombError : Addr}
    {C_BadEntry fI0 : Addr} {nm0 q0 : Str} {N0 : Addr} {bs0 : List Value} {sn0 : List Str} {sub0 : List Value} {ab0 : Bool} {col0 : Option Bool} {dd0 : Option Addr} {ma0 mb0 mc0 md0 me0 : Option Value} {iod0 ian0 : Option Addr} {isl0 : Array (Option Value)} {ioc0 ikV0 idc0 ipm0 icd0 ict0 : Value}
    {C_BadText fI1 : Addr} {nm1 q1 : Str} {N1 : Addr} {bs1 : List Value} {sn1 : List Str} {sub1 : List Value} {ab1 : Bool} {col1 : Option Bool} {dd1 : Option Addr} {ma1 mb1 mc1 md1 me1 : Option Value} {iod1 ian1 : Option Addr} {isl1 : Array (Option Value)} {ioc1 ikV1 idc1 ipm1 icd1 ict1 : Value}
    {od0 an0 : Option Addr} {sl0 : Array (Option Value)} {oc0 kV0 dc0 pm0 cd0 ct0 : Value} {f0 : Addr}
    {od1 an1 : Option Addr} {sl1 : Array (Option Value)} {oc1 kV1 dc1 pm1 cd1 ct1 : Value} {f1 : Addr}
    {od2 an2 : Option Addr} {sl2 : Array (Option Value)} {oc2 kV2 dc2 pm2 cd2 ct2 : Value} {f2 : Addr}
    {od3 an3 : Option Addr} {sl3 : Array (Option Value)} {oc3 kV3 dc3 pm3 cd3 ct3 : Value} {f3 : Addr}
    {od4 an4 : Option Addr} {sl4 : Array (Option Value)} {oc4 kV4 dc4 pm4 cd4 ct4 : Value} {f4 : Addr}
    {od5 an5 : Option Addr} {sl5 : Array (Option Value)} {oc5 kV5 dc5 pm5 cd5 ct5 : Value} {f5 : Addr}
    {od6 an6 : Option Addr} {sl6 : Array (Option Value)} {oc6 kV6 dc6 pm6 cd6 ct6 : Value} {f6 : Addr}
    {od7 an7 : Option Addr} {sl7 : Array (Option Value)} {oc7 kV7 dc7 pm7 cd7 ct7 : Value} {f7 : Addr}
    {od8 an8 : Option Addr} {sl8 : Array (Option Value)} {oc8 kV8 dc8 pm8 cd8 ct8 : Value} {f8 : Addr}
    {od9 an9 : Option Addr} {sl9 : Array (Option Value)} {oc9 kV9 dc9 pm9 cd9 ct9 : Value} {f9 : Addr}
    {od10 an10 : Option Addr} {sl10 : Array (Option Value)} {oc10 kV10 dc10 pm10 cd10 ct10 : Value} {f10 : Addr}
    {od11 an11 : Option Addr} {sl11 : Array (Option Value)} {oc11 kV11 dc11 pm11 cd11 ct11 : Value} {f11 : Addr}
    {od12 an12 : Option Addr} {sl12 : Array (Option Value)} {oc12 kV12 dc12 pm12 cd12 ct12 : Value} {f12 : Addr}
    {od13 an13 : Option Addr} {sl13 : Array (Option Value)} {oc13 kV13 dc13 pm13 cd13 ct13 : Value} {f13 : Addr}
    {od14 an14 : Option Addr} {sl14 : Array (Option Value)} {oc14 kV14 dc14 pm14 cd14 ct14 : Value} {f14 : Addr}
    {od15 an15 : Option Addr} {sl15 : Array (Option Value)} {oc15 kV15 dc15 pm15 cd15 ct15 : Value} {f15 : Addr}
    {od16 an16 : Option Addr} {sl16 : Array (Option Value)} {oc16 kV16 dc16 pm16 cd16 ct16 : Value} {f16 : Addr}
    {od17 an17 : Option Addr} {sl17 : Array (Option Value)} {oc17 kV17 dc17 pm17 cd17 ct17 : Value} {f17 : Addr}
    {od18 an18 : Option Addr} {sl18 : Array (Option Value)} {oc18 kV18 dc18 pm18 cd18 ct18 : Value} {f18 : Addr}
    {od19 an19 : Option Addr} {sl19 : Array (Option Value)} {oc19 kV19 dc19 pm19 cd19 ct19 : Value} {f19 : Addr}
    (r_a : PySem.W.nsIn K mainGlobals "TombError" = some (some (.ref C_TombError))) (r_t : PySem.W.typeIn K (.ref C_TombError) = some (.type "type")) (r_d : PySem.W.hasDictIn K C_TombError = true)
    (x0a : PySem.W.nsIn K mainGlobals "BadEntry" = some (some (.ref C_BadEntry))) (x0l : K.lookup C_BadEntry = some (excClassObj nm0 q0 C_BadEntry N0 bs0 [.ref C_TombError, .type "ValueError", .type "Exception", .type "BaseException", .type "object"] true sn0 sub0 ab0 col0 dd0 ma0 mb0 mc0 md0 me0 "ValueError.__new__")) (x0sa : PySem.W.findIn K (.ref C_BadEntry) "__setattr__" = some (some (.builtin "object.__setattr__"))) (x0ga : PySem.W.findIn K (.ref C_BadEntry) "__getattribute__" = some (some (.builtin "BaseException.__getattribute__"))) (x0gg : PySem.W.findIn K (.ref C_BadEntry) "__getattr__" = some none) (x0nv : PySem.W.findIn K (.ref C_BadEntry) "value" = some none) (x0in : PySem.W.findIn K (.ref C_BadEntry) "__init__" = some (some (.ref fI0))) (x0ti : PySem.W.typeIn K (.ref fI0) = some (.type "function")) (x0il : K.lookup fI0 = some ⟨ioc0, iod0, .func (PySem.W.fnOf "__init__" "BadEntry.__init__" (defArgs s_ini_BadEntry) (defBody s_ini_BadEntry) (defScope s_ini_BadEntry) .none ikV0 idc0 ipm0 ian0 icd0 ict0), isl0⟩) (x0ic : PySem.W.codeIn K icd0 "BadEntry.__init__" = true) (x0ik : PySem.W.keepIn K (.ref fI0) = true) (x0k : PySem.W.keepIn K (.ref C_BadEntry) = true) (x0be : PySem.W.subIn K (.ref C_BadEntry) (.type "BaseException") = some true) (x0ve : PySem.W.subIn K (.ref C_BadEntry) (.type "ValueError") = some true) (x0re : PySem.W.subIn K (.ref C_BadEntry) (.ref C_TombError) = some true) (x0se : PySem.W.subIn K (.ref C_BadEntry) (.ref C_BadEntry) = some true) (x0t : PySem.W.typeIn K (.ref C_BadEntry) = some (.type "type")) (x0d : PySem.W.hasDictIn K C_BadEntry = true) (x0c : PySem.W.isClsIn K C_BadEntry = true)
    (x1a : PySem.W.nsIn K mainGlobals "BadText" = some (some (.ref C_BadText))) (x1l : K.lookup C_BadText = some (excClassObj nm1 q1 C_BadText N1 bs1 [.ref C_TombError, .type "ValueError", .type "Exception", .type "BaseException", .type "object"] true sn1 sub1 ab1 col1 dd1 ma1 mb1 mc1 md1 me1 "ValueError.__new__")) (x1sa : PySem.W.findIn K (.ref C_BadText) "__setattr__" = some (some (.builtin "object.__setattr__"))) (x1ga : PySem.W.findIn K (.ref C_BadText) "__getattribute__" = some (some (.builtin "BaseException.__getattribute__"))) (x1gg : PySem.W.findIn K (.ref C_BadText) "__getattr__" = some none) (x1nv : PySem.W.findIn K (.ref C_BadText) "value" = some none) (x1in : PySem.W.findIn K (.ref C_BadText) "__init__" = some (some (.ref fI1))) (x1ti : PySem.W.typeIn K (.ref fI1) = some (.type "function")) (x1il : K.lookup fI1 = some ⟨ioc1, iod1, .func (PySem.W.fnOf "__init__" "BadText.__init__" (defArgs s_ini_BadText) (defBody s_ini_BadText) (defScope s_ini_BadText) .none ikV1 idc1 ipm1 ian1 icd1 ict1), isl1⟩) (x1ic : PySem.W.codeIn K icd1 "BadText.__init__" = true) (x1ik : PySem.W.keepIn K (.ref fI1) = true) (x1k : PySem.W.keepIn K (.ref C_BadText) = true) (x1be : PySem.W.subIn K (.ref C_BadText) (.type "BaseException") = some true) (x1ve : PySem.W.subIn K (.ref C_BadText) (.type "ValueError") = some true) (x1re : PySem.W.subIn K (.ref C_BadText) (.ref C_TombError) = some true) (x1se : PySem.W.subIn K (.ref C_BadText) (.ref C_BadText) = some true) (x1t : PySem.W.typeIn K (.ref C_BadText) = some (.type "type")) (x1d : PySem.W.hasDictIn K C_BadText = true) (x1c : PySem.W.isClsIn K C_BadText = true)
    (a0 : PySem.W.nsIn K mainGlobals "_law_pool" = some (some (.ref f0))) (l0 : K.lookup f0 = some ⟨oc0, od0, .func (PySem.W.fnOf "_law_pool" "_law_pool" (defArgs s_L_pool) (defBody s_L_pool) (defScope s_L_pool) .none kV0 dc0 pm0 an0 cd0 ct0), sl0⟩) (c0 : PySem.W.codeIn K cd0 "_law_pool" = true) (k0 : PySem.W.keepIn K (.ref f0) = true)
    (a1 : PySem.W.nsIn K mainGlobals "_law_take" = some (some (.ref f1))) (l1 : K.lookup f1 = some ⟨oc1, od1, .func (PySem.W.fnOf "_law_take" "_law_take" (defArgs s_L_take) (defBody s_L_take) (defScope s_L_take) .none kV1 dc1 pm1 an1 cd1 ct1), sl1⟩) (c1 : PySem.W.codeIn K cd1 "_law_take" = true) (k1 : PySem.W.keepIn K (.ref f1) = true)
    (a2 : PySem.W.nsIn K mainGlobals "_law_entry" = some (some (.ref f2))) (l2 : K.lookup f2 = some ⟨oc2, od2, .func (PySem.W.fnOf "_law_entry" "_law_entry" (defArgs s_L_entry) (defBody s_L_entry) (defScope s_L_entry) .none kV2 dc2 pm2 an2 cd2 ct2), sl2⟩) (c2 : PySem.W.codeIn K cd2 "_law_entry" = true) (k2 : PySem.W.keepIn K (.ref f2) = true)
    (a3 : PySem.W.nsIn K mainGlobals "_law_written" = some (some (.ref f3))) (l3 : K.lookup f3 = some ⟨oc3, od3, .func (PySem.W.fnOf "_law_written" "_law_written" (defArgs s_L_written) (defBody s_L_written) (defScope s_L_written) .none kV3 dc3 pm3 an3 cd3 ct3), sl3⟩) (c3 : PySem.W.codeIn K cd3 "_law_written" = true) (k3 : PySem.W.keepIn K (.ref f3) = true)
    (a4 : PySem.W.nsIn K mainGlobals "_law_value_read" = some (some (.ref f4))) (l4 : K.lookup f4 = some ⟨oc4, od4, .func (PySem.W.fnOf "_law_value_read" "_law_value_read" (defArgs s_L_value_read) (defBody s_L_value_read) (defScope s_L_value_read) .none kV4 dc4 pm4 an4 cd4 ct4), sl4⟩) (c4 : PySem.W.codeIn K cd4 "_law_value_read" = true) (k4 : PySem.W.keepIn K (.ref f4) = true)
    (a5 : PySem.W.nsIn K mainGlobals "is_word" = some (some (.ref f5))) (l5 : K.lookup f5 = some ⟨oc5, od5, .func (PySem.W.fnOf "is_word" "is_word" (defArgs s_is_word) (defBody s_is_word) (defScope s_is_word) .none kV5 dc5 pm5 an5 cd5 ct5), sl5⟩) (c5 : PySem.W.codeIn K cd5 "is_word" = true) (k5 : PySem.W.keepIn K (.ref f5) = true)
    (a6 : PySem.W.nsIn K mainGlobals "is_number" = some (some (.ref f6))) (l6 : K.lookup f6 = some ⟨oc6, od6, .func (PySem.W.fnOf "is_number" "is_number" (defArgs s_is_number) (defBody s_is_number) (defScope s_is_number) .none kV6 dc6 pm6 an6 cd6 ct6), sl6⟩) (c6 : PySem.W.codeIn K cd6 "is_number" = true) (k6 : PySem.W.keepIn K (.ref f6) = true)
    (a7 : PySem.W.nsIn K mainGlobals "is_stamp" = some (some (.ref f7))) (l7 : K.lookup f7 = some ⟨oc7, od7, .func (PySem.W.fnOf "is_stamp" "is_stamp" (defArgs s_is_stamp) (defBody s_is_stamp) (defScope s_is_stamp) .none kV7 dc7 pm7 an7 cd7 ct7), sl7⟩) (c7 : PySem.W.codeIn K cd7 "is_stamp" = true) (k7 : PySem.W.keepIn K (.ref f7) = true)
    (a8 : PySem.W.nsIn K mainGlobals "is_value" = some (some (.ref f8))) (l8 : K.lookup f8 = some ⟨oc8, od8, .func (PySem.W.fnOf "is_value" "is_value" (defArgs s_is_value) (defBody s_is_value) (defScope s_is_value) .none kV8 dc8 pm8 an8 cd8 ct8), sl8⟩) (c8 : PySem.W.codeIn K cd8 "is_value" = true) (k8 : PySem.W.keepIn K (.ref f8) = true)
    (a9 : PySem.W.nsIn K mainGlobals "is_entry" = some (some (.ref f9))) (l9 : K.lookup f9 = some ⟨oc9, od9, .func (PySem.W.fnOf "is_entry" "is_entry" (defArgs s_is_entry) (defBody s_is_entry) (defScope s_is_entry) .none kV9 dc9 pm9 an9 cd9 ct9), sl9⟩) (c9 : PySem.W.codeIn K cd9 "is_entry" = true) (k9 : PySem.W.keepIn K (.ref f9) = true)
    (a10 : PySem.W.nsIn K mainGlobals "_law_read" = some (some (.ref f10))) (l10 : K.lookup f10 = some ⟨oc10, od10, .func (PySem.W.fnOf "_law_read" "_law_read" (defArgs s_L_read) (defBody s_L_read) (defScope s_L_read) .none kV10 dc10 pm10 an10 cd10 ct10), sl10⟩) (c10 : PySem.W.codeIn K cd10 "_law_read" = true) (k10 : PySem.W.keepIn K (.ref f10) = true)
    (a11 : PySem.W.nsIn K mainGlobals "format_value" = some (some (.ref f11))) (l11 : K.lookup f11 = some ⟨oc11, od11, .func (PySem.W.fnOf "format_value" "format_value" (defArgs s_format_value) (defBody s_format_value) (defScope s_format_value) .none kV11 dc11 pm11 an11 cd11 ct11), sl11⟩) (c11 : PySem.W.codeIn K cd11 "format_value" = true) (k11 : PySem.W.keepIn K (.ref f11) = true)
    (a12 : PySem.W.nsIn K mainGlobals "format_entry" = some (some (.ref f12))) (l12 : K.lookup f12 = some ⟨oc12, od12, .func (PySem.W.fnOf "format_entry" "format_entry" (defArgs s_format_entry) (defBody s_format_entry) (defScope s_format_entry) .none kV12 dc12 pm12 an12 cd12 ct12), sl12⟩) (c12 : PySem.W.codeIn K cd12 "format_entry" = true) (k12 : PySem.W.keepIn K (.ref f12) = true)
    (a13 : PySem.W.nsIn K mainGlobals "_law_formatted" = some (some (.ref f13))) (l13 : K.lookup f13 = some ⟨oc13, od13, .func (PySem.W.fnOf "_law_formatted" "_law_formatted" (defArgs s_L_formatted) (defBody s_L_formatted) (defScope s_L_formatted) .none kV13 dc13 pm13 an13 cd13 ct13), sl13⟩) (c13 : PySem.W.codeIn K cd13 "_law_formatted" = true) (k13 : PySem.W.keepIn K (.ref f13) = true)
    (a14 : PySem.W.nsIn K mainGlobals "likely_value" = some (some (.ref f14))) (l14 : K.lookup f14 = some ⟨oc14, od14, .func (PySem.W.fnOf "likely_value" "likely_value" (defArgs s_likely_value) (defBody s_likely_value) (defScope s_likely_value) .none kV14 dc14 pm14 an14 cd14 ct14), sl14⟩) (c14 : PySem.W.codeIn K cd14 "likely_value" = true) (k14 : PySem.W.keepIn K (.ref f14) = true)
    (a15 : PySem.W.nsIn K mainGlobals "likely_number" = some (some (.ref f15))) (l15 : K.lookup f15 = some ⟨oc15, od15, .func (PySem.W.fnOf "likely_number" "likely_number" (defArgs s_likely_number) (defBody s_likely_number) (defScope s_likely_number) .none kV15 dc15 pm15 an15 cd15 ct15), sl15⟩) (c15 : PySem.W.codeIn K cd15 "likely_number" = true) (k15 : PySem.W.keepIn K (.ref f15) = true)
    (a16 : PySem.W.nsIn K mainGlobals "_likely_entry" = some (some (.ref f16))) (l16 : K.lookup f16 = some ⟨oc16, od16, .func (PySem.W.fnOf "_likely_entry" "_likely_entry" (defArgs s_likely_entry) (defBody s_likely_entry) (defScope s_likely_entry) .none kV16 dc16 pm16 an16 cd16 ct16), sl16⟩) (c16 : PySem.W.codeIn K cd16 "_likely_entry" = true) (k16 : PySem.W.keepIn K (.ref f16) = true)
    (a17 : PySem.W.nsIn K mainGlobals "parse_entry" = some (some (.ref f17))) (l17 : K.lookup f17 = some ⟨oc17, od17, .func (PySem.W.fnOf "parse_entry" "parse_entry" (defArgs s_parse_entry) (defBody s_parse_entry) (defScope s_parse_entry) .none kV17 dc17 pm17 an17 cd17 ct17), sl17⟩) (c17 : PySem.W.codeIn K cd17 "parse_entry" = true) (k17 : PySem.W.keepIn K (.ref f17) = true)
    (a18 : PySem.W.nsIn K mainGlobals "_law_parsed" = some (some (.ref f18))) (l18 : K.lookup f18 = some ⟨oc18, od18, .func (PySem.W.fnOf "_law_parsed" "_law_parsed" (defArgs s_L_parsed) (defBody s_L_parsed) (defScope s_L_parsed) .none kV18 dc18 pm18 an18 cd18 ct18), sl18⟩) (c18 : PySem.W.codeIn K cd18 "_law_parsed" = true) (k18 : PySem.W.keepIn K (.ref f18) = true)
    (a19 : PySem.W.nsIn K mainGlobals "law" = some (some (.ref f19))) (l19 : K.lookup f19 = some ⟨oc19, od19, .func (PySem.W.fnOf "law" "law" (defArgs s_law) (defBody s_law) (defScope s_law) .none kV19 dc19 pm19 an19 cd19 ct19), sl19⟩) (c19 : PySem.W.codeIn K cd19 "law" = true) (k19 : PySem.W.keepIn K (.ref f19) = true)
    (z_len : PySem.W.nsIn K mainGlobals "len" = some none)
    (z_all : PySem.W.nsIn K mainGlobals "all" = some none)
    (z_isinstance : PySem.W.nsIn K mainGlobals "isinstance" = some none)
    (z_str : PySem.W.nsIn K mainGlobals "str" = some none)
    (z_tuple : PySem.W.nsIn K mainGlobals "tuple" = some none)
    (z_int : PySem.W.nsIn K mainGlobals "int" = some none)
    (z_bool : PySem.W.nsIn K mainGlobals "bool" = some none)
    (z_repr : PySem.W.nsIn K mainGlobals "repr" = some none)
    (z_range : PySem.W.nsIn K mainGlobals "range" = some none)
    (z_max : PySem.W.nsIn K mainGlobals "max" = some none)
    (z_min : PySem.W.nsIn K mainGlobals "min" = some none)
    (z_ValueError : PySem.W.nsIn K mainGlobals "ValueError" = some none)
    (g_LONGEST_WORD : PySem.W.nsIn K mainGlobals "LONGEST_WORD" = some (some (.int 8 t1)))
    (g_LONGEST_VALUE : PySem.W.nsIn K mainGlobals "LONGEST_VALUE" = some (some (.int 40 t2)))
    (g_GREATEST_NUMBER : PySem.W.nsIn K mainGlobals "GREATEST_NUMBER" = some (some (.int 1000000000000000 t3)))
    (g_MOST_DIGITS : PySem.W.nsIn K mainGlobals "MOST_DIGITS" = some (some (.int 16 t4))) :
    ∃ fd : FuncData, (∀ (s : Shared) (v : Value), BindsTo s fd ⟨[v], []⟩ [("_law_script", v)]) ∧ ∀ base : Heap, K.In base → base.Ns mainGlobals mg → FnG l.prog w K mg base CX0 7 fa fd ["_law_script"] (spLaw K) := by
  have e := hfa.symm.trans (PySem.W.mg_of X G a19)
  cases e
  have T : Txt mg t1 t2 t3 t4 := ⟨PySem.W.mg_none_of X G z_len, PySem.W.mg_none_of X G z_all, PySem.W.mg_none_of X G z_isinstance, PySem.W.mg_none_of X G z_str, PySem.W.mg_none_of X G z_tuple, PySem.W.mg_none_of X G z_int, PySem.W.mg_none_of X G z_bool, PySem.W.mg_none_of X G z_repr, PySem.W.mg_none_of X G z_range, PySem.W.mg_none_of X G z_max, PySem.W.mg_none_of X G z_min, PySem.W.mg_none_of X G z_ValueError, PySem.W.mg_of X G g_LONGEST_WORD, PySem.W.mg_of X G g_LONGEST_VALUE, PySem.W.mg_of X G g_GREATEST_NUMBER, PySem.W.mg_of X G g_MOST_DIGITS⟩
  have hRoot := PySem.W.mg_of X G r_a
  have F_L_pool := fun_mk (st := s_L_pool) l0 c0 k0
  have b_L_pool := F_L_pool.binds (ps := p_L_pool) fun _ _ _ _ _ _ us hl => match us, hl with | [_, _], _ => rfl
  have F_L_take := fun_mk (st := s_L_take) l1 c1 k1
  have b_L_take := F_L_take.binds (ps := p_L_take) fun _ _ _ _ _ _ us hl => match us, hl with | [_, _], _ => rfl
  have F_L_entry := fun_mk (st := s_L_entry) l2 c2 k2
  have b_L_entry := F_L_entry.binds (ps := p_L_entry) fun _ _ _ _ _ _ us hl => match us, hl with | [_], _ => rfl
  have F_L_written := fun_mk (st := s_L_written) l3 c3 k3
  have b_L_written := F_L_written.binds (ps := p_L_written) fun _ _ _ _ _ _ us hl => match us, hl with | [_], _ => rfl
  have F_L_value_read := fun_mk (st := s_L_value_read) l4 c4 k4
  have b_L_value_read := F_L_value_read.binds (ps := p_L_value_read) fun _ _ _ _ _ _ us hl => match us, hl with | [_], _ => rfl
  have F_is_word := fun_mk (st := s_is_word) l5 c5 k5
  have b_is_word := F_is_word.binds (ps := p_is_word) fun _ _ _ _ _ _ us hl => match us, hl with | [_], _ => rfl
  have F_is_number := fun_mk (st := s_is_number) l6 c6 k6
  have b_is_number := F_is_number.binds (ps := p_is_number) fun _ _ _ _ _ _ us hl => match us, hl with | [_], _ => rfl
  have F_is_stamp := fun_mk (st := s_is_stamp) l7 c7 k7
  have b_is_stamp := F_is_stamp.binds (ps := p_is_stamp) fun _ _ _ _ _ _ us hl => match us, hl with | [_], _ => rfl
  have F_is_value := fun_mk (st := s_is_value) l8 c8 k8
  have b_is_value := F_is_value.binds (ps := p_is_value) fun _ _ _ _ _ _ us hl => match us, hl with | [_], _ => rfl
  have F_is_entry := fun_mk (st := s_is_entry) l9 c9 k9
  have b_is_entry := F_is_entry.binds (ps := p_is_entry) fun _ _ _ _ _ _ us hl => match us, hl with | [_], _ => rfl
  have F_L_read := fun_mk (st := s_L_read) l10 c10 k10
  have b_L_read := F_L_read.binds (ps := p_L_read) fun _ _ _ _ _ _ us hl => match us, hl with | [_], _ => rfl
  have F_format_value := fun_mk (st := s_format_value) l11 c11 k11
  have b_format_value := F_format_value.binds (ps := p_format_value) fun _ _ _ _ _ _ us hl => match us, hl with | [_], _ => rfl
  have F_format_entry := fun_mk (st := s_format_entry) l12 c12 k12
  have b_format_entry := F_format_entry.binds (ps := p_format_entry) fun _ _ _ _ _ _ us hl => match us, hl with | [_], _ => rfl
  have F_L_formatted := fun_mk (st := s_L_formatted) l13 c13 k13
  have b_L_formatted := F_L_formatted.binds (ps := p_L_formatted) fun _ _ _ _ _ _ us hl => match us, hl with | [_], _ => rfl
  have F_likely_value := fun_mk (st := s_likely_value) l14 c14 k14
  have b_likely_value := F_likely_value.binds (ps := p_likely_value) fun _ _ _ _ _ _ us hl => match us, hl with | [_], _ => rfl
  have F_likely_number := fun_mk (st := s_likely_number) l15 c15 k15
  have b_likely_number := F_likely_number.binds (ps := p_likely_number) fun _ _ _ _ _ _ us hl => match us, hl with | [_], _ => rfl
  have F_likely_entry := fun_mk (st := s_likely_entry) l16 c16 k16
  have b_likely_entry := F_likely_entry.binds (ps := p_likely_entry) fun _ _ _ _ _ _ us hl => match us, hl with | [_], _ => rfl
  have F_parse_entry := fun_mk (st := s_parse_entry) l17 c17 k17
  have b_parse_entry := F_parse_entry.binds (ps := p_parse_entry) fun _ _ _ _ _ _ us hl => match us, hl with | [_], _ => rfl
  have F_L_parsed := fun_mk (st := s_L_parsed) l18 c18 k18
  have b_L_parsed := F_L_parsed.binds (ps := p_L_parsed) fun _ _ _ _ _ _ us hl => match us, hl with | [_], _ => rfl
  have F_law := fun_mk (st := s_law) l19 c19 k19
  have b_law := F_law.binds (ps := p_law) fun _ _ _ _ _ _ us hl => match us, hl with | [_], _ => rfl
  have FI_BadEntry := fun_mk (st := s_ini_BadEntry) x0il x0ic x0ik
  have bI_BadEntry := FI_BadEntry.binds (ps := ["self", "value"]) fun _ _ _ _ _ _ us hl => match us, hl with | [_, _], _ => rfl
  have O_BadEntry : OexC K C_BadEntry := ⟨⟨nm0, q0, N0, bs0, _, sn0, sub0, ab0, col0, dd0, ma0, mb0, mc0, md0, me0, x0l, (by show PySem.HandSPX.refsVE _ = true; decide +kernel : PySem.HandSPX.refsVE [.type "ValueError", .type "Exception", .type "BaseException", .type "object"] = true)⟩, x0sa, x0be, x0t, x0k⟩
  have XC_BadEntry : ExcCls K mg "BadEntry" C_BadEntry fI0 := ⟨PySem.W.mg_of X G x0a, O_BadEntry, x0nv, x0in, x0ti, ⟨x0ga, x0gg, x0be, x0d⟩, exm_own x0be x0c x0t x0se⟩
  have FI_BadText := fun_mk (st := s_ini_BadText) x1il x1ic x1ik
  have bI_BadText := FI_BadText.binds (ps := ["self", "value"]) fun _ _ _ _ _ _ us hl => match us, hl with | [_, _], _ => rfl
  have O_BadText : OexC K C_BadText := ⟨⟨nm1, q1, N1, bs1, _, sn1, sub1, ab1, col1, dd1, ma1, mb1, mc1, md1, me1, x1l, (by show PySem.HandSPX.refsVE _ = true; decide +kernel : PySem.HandSPX.refsVE [.type "ValueError", .type "Exception", .type "BaseException", .type "object"] = true)⟩, x1sa, x1be, x1t, x1k⟩
  have XC_BadText : ExcCls K mg "BadText" C_BadText fI1 := ⟨PySem.W.mg_of X G x1a, O_BadText, x1nv, x1in, x1ti, ⟨x1ga, x1gg, x1be, x1d⟩, exm_own x1be x1c x1t x1se⟩
  refine ⟨PySem.W.fnOf "law" "law" (defArgs s_law) (defBody s_law) (defScope s_law) .none kV19 dc19 pm19 an19 cd19 ct19, fun s v => .of_eq rfl, fun base _ _ => ?_⟩
  have R_BadEntry : ExcR l.prog w K mg base "BadEntry" C_BadEntry := ⟨⟨fI0, _, XC_BadEntry, bI_BadEntry, ok_ini FI_BadEntry sc_ini_BadEntry ⟨_, _, _, _, rfl⟩ O_BadEntry x0nv⟩⟩
  have R_BadText : ExcR l.prog w K mg base "BadText" C_BadText := ⟨⟨fI1, _, XC_BadText, bI_BadText, ok_ini FI_BadText sc_ini_BadText ⟨_, _, _, _, rfl⟩ O_BadText x1nv⟩⟩
  have K_L_pool := Cal.of (PySem.W.mg_of X G a0) k0 b_L_pool (ok_L_pool (P := l.prog) (w := w) (base := base) T  (F := F_L_pool) )
  have K_L_take := Cal.of (PySem.W.mg_of X G a1) k1 b_L_take (ok_L_take (P := l.prog) (w := w) (base := base) T  (F := F_L_take) )
  have K_L_entry := Cal.of (PySem.W.mg_of X G a2) k2 b_L_entry (ok_L_entry (P := l.prog) (w := w) (base := base) T  (F := F_L_entry) (K_L_take := K_L_take.mono (by decide)))
  have K_L_written := Cal.of (PySem.W.mg_of X G a3) k3 b_L_written (ok_L_written (P := l.prog) (w := w) (base := base) T  (F := F_L_written) )
  have K_L_value_read := Cal.of (PySem.W.mg_of X G a4) k4 b_L_value_read (ok_L_value_read (P := l.prog) (w := w) (base := base) T  (F := F_L_value_read) )
  have K_is_word := Cal.of (PySem.W.mg_of X G a5) k5 b_is_word (ok_is_word (P := l.prog) (w := w) (base := base) T  (F := F_is_word) )
  have K_is_number := Cal.of (PySem.W.mg_of X G a6) k6 b_is_number (ok_is_number (P := l.prog) (w := w) (base := base) T  (F := F_is_number) )
  have K_is_stamp := Cal.of (PySem.W.mg_of X G a7) k7 b_is_stamp (ok_is_stamp (P := l.prog) (w := w) (base := base) T  (F := F_is_stamp) (K_is_number := K_is_number.mono (by decide)) (K_is_word := K_is_word.mono (by decide)))
  have K_is_value := Cal.of (PySem.W.mg_of X G a8) k8 b_is_value (ok_is_value (P := l.prog) (w := w) (base := base) T  (F := F_is_value) )
  have K_is_entry := Cal.of (PySem.W.mg_of X G a9) k9 b_is_entry (ok_is_entry (P := l.prog) (w := w) (base := base) T  (F := F_is_entry) (K_is_word := K_is_word.mono (by decide)) (K_is_stamp := K_is_stamp.mono (by decide)) (K_is_value := K_is_value.mono (by decide)))
  have K_L_read := Cal.of (PySem.W.mg_of X G a10) k10 b_L_read (ok_L_read (P := l.prog) (w := w) (base := base) T  (F := F_L_read) (K_L_value_read := K_L_value_read.mono (by decide)) (K_is_entry := K_is_entry.mono (by decide)))
  have K_format_value := Cal.of (PySem.W.mg_of X G a11) k11 b_format_value (ok_format_value (P := l.prog) (w := w) (base := base) T  (F := F_format_value) )
  have K_format_entry := Cal.of (PySem.W.mg_of X G a12) k12 b_format_entry (ok_format_entry (P := l.prog) (w := w) (base := base) T (R_BadEntry := R_BadEntry) (F := F_format_entry) (K_is_entry := K_is_entry.mono (by decide)) (K_format_value := K_format_value.mono (by decide)))
  have K_L_formatted := CalG.of (PySem.W.mg_of X G a13) k13 b_L_formatted (ok_L_formatted (P := l.prog) (w := w) (base := base) T (R_BadEntry := R_BadEntry) (hV := x0ve) (F := F_L_formatted) (K_format_entry := K_format_entry.mono (by decide)))
  have K_likely_value := Cal.of (PySem.W.mg_of X G a14) k14 b_likely_value (ok_likely_value (P := l.prog) (w := w) (base := base) T  (F := F_likely_value) )
  have K_likely_number := Cal.of (PySem.W.mg_of X G a15) k15 b_likely_number (ok_likely_number (P := l.prog) (w := w) (base := base) T  (F := F_likely_number) )
  have K_likely_entry := Cal.of (PySem.W.mg_of X G a16) k16 b_likely_entry (ok_likely_entry (P := l.prog) (w := w) (base := base) T  (F := F_likely_entry) (K_likely_value := K_likely_value.mono (by decide)) (K_likely_number := K_likely_number.mono (by decide)))
  have K_parse_entry := Cal.of (PySem.W.mg_of X G a17) k17 b_parse_entry (ok_parse_entry (P := l.prog) (w := w) (base := base) T (R_BadText := R_BadText) (F := F_parse_entry) (K_likely_entry := K_likely_entry.mono (by decide)) (K_is_entry := K_is_entry.mono (by decide)) (K_format_entry := K_format_entry.mono (by decide)))
  have K_L_parsed := CalG.of (PySem.W.mg_of X G a18) k18 b_L_parsed (ok_L_parsed (P := l.prog) (w := w) (base := base) T (R_BadText := R_BadText) (hTE := hRoot) (hT1 := r_t) (hT2 := r_d) (hT3 := x1re) (F := F_L_parsed) (K_parse_entry := K_parse_entry.mono (by decide)))
  exact ok_law T  (F := F_law) (K_L_pool := K_L_pool.mono (by decide)) (K_L_entry := K_L_entry.mono (by decide)) (K_L_written := K_L_written.mono (by decide)) (K_L_take := K_L_take.mono (by decide)) (K_L_read := K_L_read.mono (by decide)) (K_L_formatted := K_L_formatted.mono (by decide)) (K_L_parsed := K_L_parsed.mono (by decide)) (K_format_entry := K_format_entry.mono (by decide)) (K_parse_entry := K_parse_entry.mono (by decide))
end K02
open PySem PySem.W PyProof.Rows
set_option maxRecDepth 100000 in
set_option maxHeartbeats 0 in
theorem PySem.Challenge.cw_tombkeeper_k02_entries_as_text_holds : PySem.Challenge.rw_tombkeeper_k02_entries_as_text.Holds := by
  w_on; o_law; k_head; (case hw => w_witness2)
  k_fill
  refine Tk.walkG (l := PySem.Challenge.rw_tombkeeper_k02_entries_as_text) (k := 7) (x := "_law_script") rfl rfl ⟨rfl, by decide, by decide⟩ (fun w h Y => PySem.W.kIn_of Y) ?F
  case F =>
    intro w mg fa h KX G hmg
    refine' K02.all_mk KX G hmg ?r_a ?r_t ?r_d ?x0a ?x0l ?x0sa ?x0ga ?x0gg ?x0nv ?x0in ?x0ti ?x0il ?x0ic ?x0ik ?x0k ?x0be ?x0ve ?x0re ?x0se ?x0t ?x0d ?x0c ?x1a ?x1l ?x1sa ?x1ga ?x1gg ?x1nv ?x1in ?x1ti ?x1il ?x1ic ?x1ik ?x1k ?x1be ?x1ve ?x1re ?x1se ?x1t ?x1d ?x1c ?a0 ?l0 ?c0 ?k0 ?a1 ?l1 ?c1 ?k1 ?a2 ?l2 ?c2 ?k2 ?a3 ?l3 ?c3 ?k3 ?a4 ?l4 ?c4 ?k4 ?a5 ?l5 ?c5 ?k5 ?a6 ?l6 ?c6 ?k6 ?a7 ?l7 ?c7 ?k7 ?a8 ?l8 ?c8 ?k8 ?a9 ?l9 ?c9 ?k9 ?a10 ?l10 ?c10 ?k10 ?a11 ?l11 ?c11 ?k11 ?a12 ?l12 ?c12 ?k12 ?a13 ?l13 ?c13 ?k13 ?a14 ?l14 ?c14 ?k14 ?a15 ?l15 ?c15 ?k15 ?a16 ?l16 ?c16 ?k16 ?a17 ?l17 ?c17 ?k17 ?a18 ?l18 ?c18 ?k18 ?a19 ?l19 ?c19 ?k19 ?z_len ?z_all ?z_isinstance ?z_str ?z_tuple ?z_int ?z_bool ?z_repr ?z_range ?z_max ?z_min ?z_ValueError ?g_LONGEST_WORD ?g_LONGEST_VALUE ?g_GREATEST_NUMBER ?g_MOST_DIGITS
    (case r_a => first | k_is | rfl)
    (case r_t => first | k_is | rfl)
    (case r_d => first | k_is | rfl)
    (case x0a => first | k_is | rfl)
    (case x0l => first | k_is | rfl)
    (case x0sa => first | k_is | rfl)
    (case x0ga => first | k_is | rfl)
    (case x0gg => first | k_is | rfl)
    (case x0nv => first | k_is | rfl)
    (case x0in => first | k_is | rfl)
    (case x0ti => first | k_is | rfl)
    (case x0il => first | k_is | rfl)
    (case x0ic => first | k_is | rfl)
    (case x0ik => first | k_is | rfl)
    (case x0k => first | k_is | rfl)
    (case x0be => first | k_is | rfl)
    (case x0ve => first | k_is | rfl)
    (case x0re => first | k_is | rfl)
    (case x0se => first | k_is | rfl)
    (case x0t => first | k_is | rfl)
    (case x0d => first | k_is | rfl)
    (case x0c => first | k_is | rfl)
    (case x1a => first | k_is | rfl)
    (case x1l => first | k_is | rfl)
    (case x1sa => first | k_is | rfl)
    (case x1ga => first | k_is | rfl)
    (case x1gg => first | k_is | rfl)
    (case x1nv => first | k_is | rfl)
    (case x1in => first | k_is | rfl)
    (case x1ti => first | k_is | rfl)
    (case x1il => first | k_is | rfl)
    (case x1ic => first | k_is | rfl)
    (case x1ik => first | k_is | rfl)
    (case x1k => first | k_is | rfl)
    (case x1be => first | k_is | rfl)
    (case x1ve => first | k_is | rfl)
    (case x1re => first | k_is | rfl)
    (case x1se => first | k_is | rfl)
    (case x1t => first | k_is | rfl)
    (case x1d => first | k_is | rfl)
    (case x1c => first | k_is | rfl)
    (case a0 => first | k_is | rfl)
    (case l0 => first | k_is | rfl)
    (case c0 => first | k_is | rfl)
    (case k0 => first | k_is | rfl)
    (case a1 => first | k_is | rfl)
    (case l1 => first | k_is | rfl)
    (case c1 => first | k_is | rfl)
    (case k1 => first | k_is | rfl)
    (case a2 => first | k_is | rfl)
    (case l2 => first | k_is | rfl)
    (case c2 => first | k_is | rfl)
    (case k2 => first | k_is | rfl)
    (case a3 => first | k_is | rfl)
    (case l3 => first | k_is | rfl)
    (case c3 => first | k_is | rfl)
    (case k3 => first | k_is | rfl)
    (case a4 => first | k_is | rfl)
    (case l4 => first | k_is | rfl)
    (case c4 => first | k_is | rfl)
    (case k4 => first | k_is | rfl)
    (case a5 => first | k_is | rfl)
    (case l5 => first | k_is | rfl)
    (case c5 => first | k_is | rfl)
    (case k5 => first | k_is | rfl)
    (case a6 => first | k_is | rfl)
    (case l6 => first | k_is | rfl)
    (case c6 => first | k_is | rfl)
    (case k6 => first | k_is | rfl)
    (case a7 => first | k_is | rfl)
    (case l7 => first | k_is | rfl)
    (case c7 => first | k_is | rfl)
    (case k7 => first | k_is | rfl)
    (case a8 => first | k_is | rfl)
    (case l8 => first | k_is | rfl)
    (case c8 => first | k_is | rfl)
    (case k8 => first | k_is | rfl)
    (case a9 => first | k_is | rfl)
    (case l9 => first | k_is | rfl)
    (case c9 => first | k_is | rfl)
    (case k9 => first | k_is | rfl)
    (case a10 => first | k_is | rfl)
    (case l10 => first | k_is | rfl)
    (case c10 => first | k_is | rfl)
    (case k10 => first | k_is | rfl)
    (case a11 => first | k_is | rfl)
    (case l11 => first | k_is | rfl)
    (case c11 => first | k_is | rfl)
    (case k11 => first | k_is | rfl)
    (case a12 => first | k_is | rfl)
    (case l12 => first | k_is | rfl)
    (case c12 => first | k_is | rfl)
    (case k12 => first | k_is | rfl)
    (case a13 => first | k_is | rfl)
    (case l13 => first | k_is | rfl)
    (case c13 => first | k_is | rfl)
    (case k13 => first | k_is | rfl)
    (case a14 => first | k_is | rfl)
    (case l14 => first | k_is | rfl)
    (case c14 => first | k_is | rfl)
    (case k14 => first | k_is | rfl)
    (case a15 => first | k_is | rfl)
    (case l15 => first | k_is | rfl)
    (case c15 => first | k_is | rfl)
    (case k15 => first | k_is | rfl)
    (case a16 => first | k_is | rfl)
    (case l16 => first | k_is | rfl)
    (case c16 => first | k_is | rfl)
    (case k16 => first | k_is | rfl)
    (case a17 => first | k_is | rfl)
    (case l17 => first | k_is | rfl)
    (case c17 => first | k_is | rfl)
    (case k17 => first | k_is | rfl)
    (case a18 => first | k_is | rfl)
    (case l18 => first | k_is | rfl)
    (case c18 => first | k_is | rfl)
    (case k18 => first | k_is | rfl)
    (case a19 => first | k_is | rfl)
    (case l19 => first | k_is | rfl)
    (case c19 => first | k_is | rfl)
    (case k19 => first | k_is | rfl)
    (case z_len => first | k_is | rfl)
    (case z_all => first | k_is | rfl)
    (case z_isinstance => first | k_is | rfl)
    (case z_str => first | k_is | rfl)
    (case z_tuple => first | k_is | rfl)
    (case z_int => first | k_is | rfl)
    (case z_bool => first | k_is | rfl)
    (case z_repr => first | k_is | rfl)
    (case z_range => first | k_is | rfl)
    (case z_max => first | k_is | rfl)
    (case z_min => first | k_is | rfl)
    (case z_ValueError => first | k_is | rfl)
    (case g_LONGEST_WORD => first | k_is | rfl)
    (case g_LONGEST_VALUE => first | k_is | rfl)
    (case g_GREATEST_NUMBER => first | k_is | rfl)
    (case g_MOST_DIGITS => first | k_is | rfl)
