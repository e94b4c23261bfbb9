import PyProof.Rows.All
import Wide.All
import OpenK.AllK
import Wide.FinOn
import PyProof.EqAt
import PyProof.EqKinds
import PyProof.TupleCall
import HandS.ForMost
import HandS.IsInst
import HandS.Wide
import HandS.TupLe
import HandS.Style
import HandS.TupAny
import HandS.Walk
import HandS.ForExc
import HandS.ExcInit
import HandS.ExcField
import HandS.ExcIs
import HandS.TryMany
import PyProof.ReprRoads
import HandS.Codes
import HandS.ReplaceList
import HandS.StrSplit
import HandS.ReplaceDef
import HandS.ReplaceLit
import HandS.FStr
import HandS.StrMore
import HandS.Lambda
import HandS.TryOnly
import KE.DataEq
import OpenK.KMeth
import OpenK.KOps
import HandS.More
import HandS.SlotsOwn
import HandS.SetFor
import HandS.Zip
import PyProof.Rows.SortStr
import PyProof.Rows.SortShellK
import HandS.Strs
import PyProof.StrLawsRepr
import KE.KRevSl
import PySem.Challenge.RW_tombkeeper_k75_plans_judged
import HandS.TupMul
set_option Elab.async false
set_option linter.all false
set_option maxRecDepth 100000
set_option maxHeartbeats 4000000
namespace Tk
open PySem PySem.Spec PyProof.Rows L2

/-! ### a def that callers may use: its place, its promise -/
structure Cal (P : Program) (w : World) (K : PySem.W.Frag) (mg : Str → Option Value) (base : Heap) (CX : CXT) (k : Nat) (x : Str) (ps : List Str) (sp : Sp) : Prop where
  ex : ∃ (f : Addr) (fd : FuncData), mg x = some (.ref f) ∧ PySem.W.keepIn K (.ref f) = true ∧ Binds K fd ps [] ∧ FnOk P w K mg base CX k f fd ps sp
theorem Cal.mono {P : Program} {w : World} {K : PySem.W.Frag} {mg : Str → Option Value} {base : Heap} {CX : CXT} {j k : Nat} {x : Str} {ps : List Str} {sp : Sp} (C : Cal P w K mg base CX j x ps sp) (h : j ≤ k) : Cal P w K mg base CX k x ps sp := by
  obtain ⟨f, fd, hm, hk, hb, F⟩ := C.ex
  exact ⟨f, fd, hm, hk, hb, F.mono h⟩
theorem Cal.of {P : Program} {w : World} {K : PySem.W.Frag} {mg : Str → Option Value} {base : Heap} {CX : CXT} {k : Nat} {x : Str} {ps : List Str} {sp : Sp} {f : Addr} {fd : FuncData} (hm : mg x = some (.ref f)) (hk : PySem.W.keepIn K (.ref f) = true) (hb : Binds K fd ps []) (F : FnOk P w K mg base CX k f fd ps sp) : Cal P w K mg base CX k x ps sp :=
  ⟨f, fd, hm, hk, hb, F⟩
section
variable {X : Cx} {k : Nat} {ps : List Str} {sp : Sp} {CX : CXT} {x : Str} {p pos : Pos} {e : Expr} {es : List Expr} {t : TA} {E : XK}
theorem pe_cal (C : Cal X.prog X.w X.K X.mg X.base CX k x ps sp) (hr : Room k X.A) (hx : Passes CX X E) (ha : PA X (e :: es) t) (hg : Gl X x := by rfl)
    (hdb : (x == ("__debug__" : Str)) = false := by decide) (he : starEach (e :: es) X.env = (false, eval e X.env) :: starEach es X.env := by rfl) (hpl : (backTo pos (starEach es X.env)).any (·.1) = false := by rfl) :
    PE X (.Call (.Name x p) (e :: es) [] pos) (tCall sp [] E t) := by
  obtain ⟨f, fd, hm, hk, hb, F⟩ := C.ex
  exact pe_call F hr hg hm hk hb .nil hx ha hdb he hpl
theorem pe_cal0 (C : Cal X.prog X.w X.K X.mg X.base CX k x ps sp) (hr : Room k X.A) (hx : Passes CX X E) (hg : Gl X x := by rfl)
    (hdb : (x == ("__debug__" : Str)) = false := by decide) :
    PE X (.Call (.Name x p) [] [] pos) (tCall sp [] E tNil) := by
  obtain ⟨f, fd, hm, hk, hb, F⟩ := C.ex
  exact pe_call0 F hr hg hm hk hb .nil hx hdb
end

def AllocL (xs : List V) (H : Hp) (Q : VK) : Prop := xs.length ≤ sizeLine ∧ ∀ p, H p = none → Q (.ref p) (upd H p (.lst xs))
def AllocT (xs : List V) (H : Hp) (Q : VK) : Prop := xs.length ≤ sizeLine ∧ ∀ p, H p = none → Q (.ref p) (upd H p (.tup xs))
/-! ### readings, a construct at a time -/
section
variable {σ : L2.St} {H : Hp} {Q : VK} {D : Ends} {v : V} {i : Nat} {ta tb tc te : TE} {t u : TS} {r : R2} {K : PySem.W.Frag}
theorem r_var (h : σ[i]? = some (some v)) (q : Q v H) : tVar i σ H Q := ⟨v, h, q⟩
theorem r_c (q : Q v H) : tC v σ H Q := q
theorem r_op (h : ta σ H fun x H1 => tb σ H1 fun y H2 => r x y H2 Q) : tOp r ta tb σ H Q := h
theorem r_seq (h : t { D with nx := u D } σ H) : tSeq t u D σ H := h
theorem r_ret (h : te σ H D.rt) : tRet te D σ H := h
theorem r_retN (h : D.rt .non H) : tRetN D σ H := h
theorem r_set (h : te σ H fun x H1 => D.nx (σ.set i (some x)) H1) : tAsg te (gName i) D σ H := h
theorem r_drop (h : te σ H fun _ H1 => D.nx σ H1) : tDrop te D σ H := h
theorem r_next (h : D.nx σ H) : tNext D σ H := h
theorem r_ifS {c : TT} (h : c σ H fun b H1 => if b = true then t D σ H1 else u D σ H1) : tIfS c t u D σ H := h
theorem r_cons {tr : TA} {R : List V → Hp → Prop} (h : ta σ H fun x H1 => tr σ H1 fun xs H2 => R (x :: xs) H2) : tCons ta tr σ H R := h
theorem r_nil {R : List V → Hp → Prop} (h : R [] H) : tNil σ H R := h
theorem r_call {sp : Sp} {E : XK} {a : TA} (h : a σ H fun vs H1 => sp (vs ++ []) H1 Q E) : tCall sp [] E a σ H Q := h
theorem r_cb {f : List V → Hp → VK → Prop} {a : TA} (h : a σ H fun vs H1 => f vs H1 Q) : tCB f a σ H Q := h
theorem r_test {R : Bool → Hp → Prop} (h : te σ H fun x H1 => ∃ k, x = .bl k ∧ R k H1) : tTest te σ H R := h
theorem r_B {R : Bool → Hp → Prop} (h : te σ H fun x H1 => ∃ k, x = .bl k ∧ R k H1) : tB te σ H R := h
theorem r_not {c : TT} {R : Bool → Hp → Prop} (h : c σ H fun b H1 => R (!b) H1) : tNot c σ H R := h
theorem r_and {a b : TT} {R : Bool → Hp → Prop} (h : a σ H fun c H1 => if c = true then b σ H1 R else R false H1) : tAnd a b σ H R := h
theorem r_or {a b : TT} {R : Bool → Hp → Prop} (h : a σ H fun c H1 => if c = true then R true H1 else b σ H1 R) : tOr a b σ H R := h
theorem r_andV (h : ta σ H fun x H1 => ∃ c, x = .bl c ∧ if c = true then tb σ H1 Q else Q (.bl false) H1) : tAndV ta tb σ H Q := h
theorem r_orV (h : ta σ H fun x H1 => ∃ c, x = .bl c ∧ if c = true then Q (.bl true) H1 else tb σ H1 Q) : tOrV ta tb σ H Q := h
theorem r_notV (h : ta σ H fun x H1 => ∃ c, x = .bl c ∧ Q (.bl (!c)) H1) : tNotV ta σ H Q := h
theorem r_if {c : TT} (h : c σ H fun b H1 => if b = true then ta σ H1 Q else tb σ H1 Q) : tIf c ta tb σ H Q := h
theorem r_chain {r' : R2} (h : ta σ H fun x H1 => tb σ H1 fun y H2 => r x y H2 fun z H3 => ∃ k, z = .bl k ∧
    (if k = true then tc σ H3 fun w' H4 => r' y w' H4 Q else Q (.bl false) H3)) : tChain r r' ta tb tc σ H Q := h
/-- a made list, a made tuple: the heap behind is a letter -/
theorem r_lst {a : TA} (h : a σ H fun xs H1 => AllocL xs H1 Q) : tLst a σ H Q := h
theorem r_tup {a : TA} (h : a σ H fun xs H1 => AllocT xs H1 Q) : tTup a σ H Q := h
/-- the bool that a test hands on -/
theorem r_k {b : Bool} {R : Bool → Prop} (h : R b) : ∃ k, V.bl b = V.bl k ∧ R k := ⟨b, rfl, h⟩
theorem r_k2 {b : Bool} {R : Bool → Hp → Prop} (h : R b H) : ∃ k, V.bl b = V.bl k ∧ R k H := ⟨b, rfl, h⟩
theorem r_I0 {g : Int → Int → V} {a b : Int} (h : Q (g a b) H) : rI0 g (.int a) (.int b) H Q := ⟨a, b, rfl, rfl, h⟩
theorem r_I {C : Int → Int → Prop} {g : Int → Int → V} {a b : Int} (c : C a b) (h : Q (g a b) H) : rI C g (.int a) (.int b) H Q := ⟨a, b, rfl, rfl, c, h⟩
end
theorem Same.new {H : Hp} {p : Addr} {o : HO} (h : H p = none) : Same H (upd H p o) := fun a u e => by
  rw [upd_ne (ne_of_none e h)]
  exact e
/-- an object that H does not know may change -/
theorem Same.mut {H H' : Hp} {p : Addr} {o : HO} (e : Same H H') (h : H p = none) : Same H (upd H' p o) := fun a u ha => by
  rw [upd_ne (ne_of_none ha h)]
  exact e a u ha

/-! ### data -/
/- what is read of a value: none, bools, ints, texts, tuples, lists, the empty dict (lists and dicts: as they stand now) -/
mutual
inductive Dd (K : PySem.W.Frag) (H : Hp) : V → PyData → Prop
  | non : Dd K H .non .none
  | bl (b : Bool) : Dd K H (.bl b) (.bool b)
  | int (i : Int) : Dd K H (.int i) (.int i)
  | str (x : Str) : Dd K H (.str x) (.str x)
  | lst {a : Addr} {xs : List V} {ds : List PyData} : H a = some (.lst xs) → DdAll K H xs ds → Dd K H (.ref a) (.list ds)
  | tup {a : Addr} {xs : List V} {ds : List PyData} : H a = some (.tup xs) → DdAll K H xs ds → Dd K H (.ref a) (.tuple ds)
  | dct {a : Addr} : H a = some (.dK []) → Dd K H (.ref a) (.dict [])
inductive DdAll (K : PySem.W.Frag) (H : Hp) : List V → List PyData → Prop
  | nil : DdAll K H [] []
  | cons {v : V} {vs : List V} {d : PyData} {ds : List PyData} : Dd K H v d → DdAll K H vs ds → DdAll K H (v :: vs) (d :: ds)
end
mutual
theorem Dd.same {K : PySem.W.Frag} {H H' : Hp} (s : Same H H') : ∀ (d : PyData) (v : V), Dd K H v d → Dd K H' v d
  | .none, _, h => by cases h; exact .non
  | .bool b, _, h => by cases h; exact .bl b
  | .int i, _, h => by cases h; exact .int i
  | .str x, _, h => by cases h; exact .str x
  | .list ds, _, h => by
    cases h with
    | lst e a => exact .lst (s _ _ e) (DdAll.same s ds _ a)
  | .tuple ds, _, h => by
    cases h with
    | tup e a => exact .tup (s _ _ e) (DdAll.same s ds _ a)
  | .dict _, _, h => by
    cases h with
    | dct e => exact .dct (s _ _ e)
theorem DdAll.same {K : PySem.W.Frag} {H H' : Hp} (s : Same H H') : ∀ (ds : List PyData) (vs : List V), DdAll K H vs ds → DdAll K H' vs ds
  | [], _, h => by cases h; exact .nil
  | d :: ds, _, h => by
    cases h with
    | cons h1 h2 => exact .cons (Dd.same s d _ h1) (DdAll.same s ds _ h2)
end
theorem Dd.same' {K : PySem.W.Frag} {H H' : Hp} {v : V} {d : PyData} (h : Dd K H v d) (s : Same H H') : Dd K H' v d := Dd.same s d v h
theorem DdAll.length {K : PySem.W.Frag} {H : Hp} : ∀ {vs : List V} {ds : List PyData}, DdAll K H vs ds → vs.length = ds.length
  | _, _, .nil => rfl
  | _, _, .cons _ t => by rw [List.length_cons, List.length_cons, DdAll.length t]
/-- the name of its type -/
def tyN : PyData → String
  | .none => "NoneType"
  | .bool _ => "bool"
  | .int _ => "int"
  | .str _ => "str"
  | .list _ => "list"
  | .tuple _ => "tuple"
  | .dict _ => "dict"
theorem Dd.ty {K : PySem.W.Frag} {H : Hp} {v : V} {d : PyData} (h : Dd K H v d) : TyX K H v (.type (tyN d)) := by
  cases h with
  | non => exact .base .non
  | bl b => exact .base (.bl b)
  | int i => exact .base (.int i)
  | str x => exact .base (.str x)
  | lst e a => exact .base (.lst e)
  | tup e a => exact .base (.tup e)
  | dct e => exact .base (.dK e)
/-- isinstance(x, T) of data -/
def isN (a T : String) : Bool := (kitB a T).getD false
def isOf (d : PyData) (T : String) : Bool := isN (tyN d) T
def TyNames : List String := ["str", "tuple", "int", "bool", "list", "dict"]
theorem kitB_all : ∀ a ∈ ["NoneType", "bool", "int", "str", "list", "tuple", "dict"], ∀ T ∈ TyNames, kitB a T = some (isN a T) := by decide +kernel
theorem isOf_kit {K : PySem.W.Frag} (d : PyData) {T : String} (hT : T ∈ TyNames) : PySem.W.kitOne K (.type (tyN d)) (.type T) = some (isOf d T) :=
  kit_ty (kitB_all (tyN d) (by cases d <;> simp [tyN]) T hT)
theorem isN_str : isN "NoneType" "str" = false ∧ isN "bool" "str" = false ∧ isN "int" "str" = false ∧ isN "str" "str" = true ∧ isN "list" "str" = false ∧ isN "tuple" "str" = false ∧ isN "dict" "str" = false := by decide +kernel
theorem isN_tuple : isN "NoneType" "tuple" = false ∧ isN "bool" "tuple" = false ∧ isN "int" "tuple" = false ∧ isN "str" "tuple" = false ∧ isN "list" "tuple" = false ∧ isN "tuple" "tuple" = true ∧ isN "dict" "tuple" = false := by decide +kernel
theorem isN_int : isN "NoneType" "int" = false ∧ isN "bool" "int" = true ∧ isN "int" "int" = true ∧ isN "str" "int" = false ∧ isN "list" "int" = false ∧ isN "tuple" "int" = false ∧ isN "dict" "int" = false := by decide +kernel
theorem isN_bool : isN "NoneType" "bool" = false ∧ isN "bool" "bool" = true ∧ isN "int" "bool" = false ∧ isN "str" "bool" = false ∧ isN "list" "bool" = false ∧ isN "tuple" "bool" = false ∧ isN "dict" "bool" = false := by decide +kernel
theorem r_isi {K : PySem.W.Frag} {H : Hp} {v : V} {d : PyData} {T : String} {Q : VK} (h : Dd K H v d) (hT : T ∈ TyNames) (q : Q (.bl (isOf d T)) H) : rIsi K [v, .ty T] H Q :=
  ⟨v, .ty T, _, _, _, rfl, .ty T, h.ty, isOf_kit d hT, q⟩
/-! ### repr of bools -/
section
variable {X : Cx}
def reprB (b : Bool) : Str := if b then "True" else "False"
theorem call_repr_bl : CallR X (.builtin "repr") (fun xs H Q => ∃ b, xs = [.bl b] ∧ Q (.str (reprB b)) H) := by
  intro pins s σ H xs us Q I r h
  obtain ⟨b, rfl, q⟩ := h
  obtain ⟨u, rfl, ru⟩ := vals1 r
  obtain rfl : u = Value.bool b := ru
  exact PySem.P.repr_of_bool ⟨.str (reprB b), H, I.tok _, ⟨_, rfl⟩, q⟩
end
theorem reprB_inj {a b : Bool} : decide (V.str (reprB a) = V.str (reprB b)) = (a == b) := by
  cases a <;> cases b <;> decide +kernel
end Tk

set_option Elab.async false
set_option linter.all false
set_option maxRecDepth 100000
set_option maxHeartbeats 4000000
namespace Tk
open PySem PySem.Spec PyProof.Rows L2
/-! ### one rule a sign; its reading says which -/
def rMulS : R2 := fun x y H Q => ∃ z n, x = .str z ∧ y = .int n ∧ MulOk z n ∧ Q (.str (Txt.mul z n)) H
def GAdd (K : PySem.W.Frag) : R2 := fun x y H Q => rI0 (fun i j => .int (i + j)) x y H Q ∨ ((∃ i j, x = .str i ∧ y = .str j ∧ i.length + j.length ≤ sizeLine ∧ Q (.str (i ++ j)) H) ∨ (rCat x y H Q ∨ rCatA K x y H Q))
def GMul : R2 := fun x y H Q => rI CMulW (fun i j => .int (i * j)) x y H Q ∨ (rMulS x y H Q ∨ rRep x y H Q)
/-- any list == [] -/
def rEqNil (K : PySem.W.Frag) : R2 := fun x y H Q => ∃ p q xs, x = .ref p ∧ y = .ref q ∧ SqL K H p xs ∧ SqL K H q [] ∧ Q (.bl xs.isEmpty) H
def GEq (K : PySem.W.Frag) : R2 := fun x y H Q => rEq x y H Q ∨ (rEqD K x y H Q ∨ rEqNil K x y H Q)
def GNe (K : PySem.W.Frag) : R2 := fun x y H Q => rNe x y H Q ∨ rNeD K x y H Q
def sLt : R2 := fun x y H Q => ∃ i j, x = .str i ∧ y = .str j ∧ Q (.bl (decide (i.cps.toList < j.cps.toList))) H
def sLe : R2 := fun x y H Q => ∃ i j, x = .str i ∧ y = .str j ∧ Q (.bl (!decide (j.cps.toList < i.cps.toList))) H
def sGt : R2 := fun x y H Q => ∃ i j, x = .str i ∧ y = .str j ∧ Q (.bl (decide (j.cps.toList < i.cps.toList))) H
def sGe : R2 := fun x y H Q => ∃ i j, x = .str i ∧ y = .str j ∧ Q (.bl (!decide (i.cps.toList < j.cps.toList))) H
def GLt : R2 := fun x y H Q => rI0 (fun i j => .bl (decide (i < j))) x y H Q ∨ sLt x y H Q
def GLe : R2 := fun x y H Q => rI0 (fun i j => .bl (decide (i ≤ j))) x y H Q ∨ sLe x y H Q
def GGt : R2 := fun x y H Q => rI0 (fun i j => .bl (decide (j < i))) x y H Q ∨ sGt x y H Q
def GGe : R2 := fun x y H Q => rI0 (fun i j => .bl (decide (j ≤ i))) x y H Q ∨ sGe x y H Q
def rLen (K : PySem.W.Frag) : List V → Hp → VK → Prop := fun xs H Q => ∃ x n, xs = [x] ∧ LenV K x H n ∧ Q (.int n) H
def rRepr : List V → Hp → VK → Prop := fun xs H Q => ∃ b, xs = [.bl b] ∧ Q (.str (reprB b)) H
def rMax2 : List V → Hp → VK → Prop := fun xs H Q => ∃ i j, xs = [.int i, .int j] ∧ Q (.int (if j > i then j else i)) H
def rMin2 : List V → Hp → VK → Prop := fun xs H Q => ∃ i j, xs = [.int i, .int j] ∧ Q (.int (if j < i then j else i)) H
def rListOf (K : PySem.W.Frag) : List V → Hp → VK → Prop := fun xs H Q => ∃ p ys, xs = [.ref p] ∧ (SqL K H p ys ∨ SqT K H p ys) ∧ ∀ l, H l = none → Q (.ref l) (upd H l (.lst ys))
def rIsN : R2 := fun x y H Q => y = .non ∧ Q (.bl (decide (x = .non))) H
section
variable {X : Cx}
theorem c_len : CallR X (.builtin "len") (rLen X.K) := call_len
theorem c_repr : CallR X (.builtin "repr") rRepr := call_repr_bl
theorem c_max2 (hc : X.calm = true) : CallR X (.builtin "max") rMax2 := call_max2 hc
theorem c_min2 (hc : X.calm = true) : CallR X (.builtin "min") rMin2 := call_min2 hc
theorem c_listOf : CallR X (.type "list") (rListOf X.K) := call_list_of
theorem o_isN : OpR X (compareOp .Is) rIsN := op_isN
theorem op_mul_strI : OpR X (binaryOp .Mult) rMulS := by
  intro pins s σ H x y v u Q I rx ry h
  obtain ⟨z, n, rfl, rfl, hok, q⟩ := h
  obtain ⟨t, rfl⟩ := rx
  obtain ⟨t', rfl⟩ := ry
  exact SB.mul hok fun t2 k => ⟨.str _, H, I.tok _, ⟨_, rfl⟩, q⟩
theorem op_eqNil (hu : X.A.units < cLine) : OpR X (compareOp .Eq) (rEqNil X.K) := by
  intro pins s σ H x y v u Q I rx ry h
  obtain ⟨p, q, xs, rfl, rfl, hp, hq, k⟩ := h
  obtain rfl : v = Value.ref p := rx
  obtain rfl : u = Value.ref q := ry
  obtain ⟨its, r1, l1, _⟩ := I.list hp
  obtain ⟨jts, r2, l2, _⟩ := I.list hq
  cases r2
  cases r1 with
  | nil => exact SeqAt.eq_listAt (e := fun _ => true) l1.isList l2.isList rfl hu (fun j h1 => absurd h1 (Nat.not_lt_zero j)) ⟨.bl true, H, I, rfl, k⟩
  | cons r t => exact SeqAt.eq_list_lengthsAt l1.isList l2.isList (by simp) hu ⟨.bl false, H, I, rfl, k⟩
theorem o_add : OpR X (binaryOp .Add) (GAdd X.K) := OpR.or op_add (OpR.or op_add_str (OpR.or op_cat op_catA))
theorem o_mul : OpR X (binaryOp .Mult) GMul := OpR.or op_mulW (OpR.or op_mul_strI op_rep)
theorem o_fdiv : OpR X (binaryOp .FloorDiv) (rI CDivW fun i j => .int (i / j)) := op_fdivW
theorem o_eq (hu : X.A.units + 64 < cLine) : OpR X (compareOp .Eq) (GEq X.K) := OpR.or op_eq (OpR.or (op_eqD hu) (op_eqNil (Nat.lt_of_le_of_lt (Nat.le_add_right _ _) hu)))
theorem o_ne (hu : X.A.units + 64 < cLine) : OpR X (compareOp .NotEq) (GNe X.K) := OpR.or op_ne (op_neD hu)
theorem o_lt : OpR X (compareOp .Lt) GLt := OpR.or op_lt op_lt_str
theorem o_le : OpR X (compareOp .LtE) GLe := OpR.or op_le op_le_str
theorem o_gt : OpR X (compareOp .Gt) GGt := OpR.or op_gt op_gt_str
theorem o_ge : OpR X (compareOp .GtE) GGe := OpR.or op_ge op_ge_str
theorem o_slice : SlR X (fun x lo hi H Q => rSlL X.K x lo hi H Q ∨ (rSlS x lo hi H Q ∨ rSlA X.K x lo hi H Q)) := SlR.or sl_list (SlR.or sl_str sl_tupA)
end
section
variable {H : Hp} {Q : VK} {K : PySem.W.Frag} {a b : Int} {x y : Str}
theorem g_addI (q : Q (.int (a + b)) H) : GAdd K (.int a) (.int b) H Q := .inl ⟨a, b, rfl, rfl, q⟩
theorem g_addS (hl : x.length + y.length ≤ sizeLine) (q : Q (.str (x ++ y)) H) : GAdd K (.str x) (.str y) H Q := .inr (.inl ⟨x, y, rfl, rfl, hl, q⟩)
theorem g_mulI (hc : CMulW a b) (q : Q (.int (a * b)) H) : GMul (.int a) (.int b) H Q := .inl ⟨a, b, rfl, rfl, hc, q⟩
theorem g_mulS (hc : MulOk x a) (q : Q (.str (Txt.mul x a)) H) : GMul (.str x) (.int a) H Q := .inr (.inl ⟨x, a, rfl, rfl, hc, q⟩)
theorem g_mulB (ha : a.natAbs < 2 ^ 70) (hb : b.natAbs < 2 ^ 70) (q : Q (.int (a * b)) H) : GMul (.int a) (.int b) H Q := g_mulI (wide_mul ha hb (by decide) (by decide) (by decide)) q
theorem r_mod (hb : 0 < b) (q : Q (.int (a % b)) H) : rI (fun _ j => 0 < j) (fun i j => .int (i % j)) (.int a) (.int b) H Q := r_I (C := fun _ j => 0 < j) hb q
theorem r_div (hb : 0 < b) (h2 : b < 2 ^ 60) (q : Q (.int (a / b)) H) : rI CDivW (fun i j => .int (i / j)) (.int a) (.int b) H Q :=
  r_I (C := CDivW) (⟨hb, Nat.lt_of_lt_of_le (PySem.Flt.log2_lt_of (k := 60) (by decide) (by omega)) (by decide)⟩ : CDivW a b) q
theorem g_ltI (q : Q (.bl (decide (a < b))) H) : GLt (.int a) (.int b) H Q := .inl ⟨a, b, rfl, rfl, q⟩
theorem g_leI (q : Q (.bl (decide (a ≤ b))) H) : GLe (.int a) (.int b) H Q := .inl ⟨a, b, rfl, rfl, q⟩
theorem g_gtI (q : Q (.bl (decide (b < a))) H) : GGt (.int a) (.int b) H Q := .inl ⟨a, b, rfl, rfl, q⟩
theorem g_geI (q : Q (.bl (decide (b ≤ a))) H) : GGe (.int a) (.int b) H Q := .inl ⟨a, b, rfl, rfl, q⟩
theorem g_leS (q : Q (.bl (!decide (y.cps.toList < x.cps.toList))) H) : GLe (.str x) (.str y) H Q := .inr ⟨x, y, rfl, rfl, q⟩
theorem g_ltS (q : Q (.bl (decide (x.cps.toList < y.cps.toList))) H) : GLt (.str x) (.str y) H Q := .inr ⟨x, y, rfl, rfl, q⟩
theorem g_eqI (q : Q (.bl (decide (a = b))) H) : GEq K (.int a) (.int b) H Q := .inl ⟨rfl, by rw [dec_int, Bool.beq_eq_decide_eq]; exact q⟩
theorem g_neI (q : Q (.bl (!decide (a = b))) H) : GNe K (.int a) (.int b) H Q := .inl ⟨rfl, by rw [dec_int, Bool.beq_eq_decide_eq]; exact q⟩
theorem g_eqS (q : Q (.bl (decide (x = y))) H) : GEq K (.str x) (.str y) H Q := .inl ⟨rfl, by rw [dec_str, Bool.beq_eq_decide_eq]; exact q⟩
theorem g_neS (q : Q (.bl (!decide (x = y))) H) : GNe K (.str x) (.str y) H Q := .inl ⟨rfl, by rw [dec_str, Bool.beq_eq_decide_eq]; exact q⟩
end
section
variable {H : Hp} {Q : VK} {K : PySem.W.Frag} {p : Addr} {xs : List V} {i k : Int} {v : V} {j : Nat} {σ : L2.St} {D : Ends} {te to ti : TE}
theorem r_ixL (h : H p = some (.lst xs)) (e : atI xs i = some v) (q : Q v H) : rIx K (.ref p) (.int i) H Q := .inl ⟨p, xs, i, v, rfl, rfl, .of h, e, q⟩
theorem r_ixQ (h : SqL K H p xs) (e : atI xs i = some v) (q : Q v H) : rIx K (.ref p) (.int i) H Q := .inl ⟨p, xs, i, v, rfl, rfl, h, e, q⟩
theorem r_ixT (h : H p = some (.tup xs)) (e : atI xs i = some v) (q : Q v H) : rIx K (.ref p) (.int i) H Q := .inr (.inl ⟨p, xs, i, v, rfl, rfl, .of h, e, q⟩)
theorem r_lenS {x : Str} (h : x.length ≤ 100000) (q : Q (.int x.length) H) : rLen K [.str x] H Q := ⟨_, _, rfl, ⟨Nat.le_trans h (by decide), rfl⟩, q⟩
theorem r_lenT (h : H p = some (.tup xs)) (q : Q (.int (xs.length : Nat)) H) : rLen K [.ref p] H Q := ⟨_, _, rfl, .inr ⟨xs, SqT.of h, rfl⟩, q⟩
theorem r_lenQ (h : SqL K H p xs) (q : Q (.int (xs.length : Nat)) H) : rLen K [.ref p] H Q := ⟨_, _, rfl, .inl ⟨xs, h, rfl⟩, q⟩
theorem r_eqNil {q : Addr} (h : H p = some (.lst xs)) (h' : H q = some (.lst [])) (k : Q (.bl xs.isEmpty) H) : GEq K (.ref p) (.ref q) H Q := .inr (.inr ⟨p, q, xs, rfl, rfl, SqL.of h, SqL.of h', k⟩)
theorem r_repr {b : Bool} (q : Q (.str (reprB b)) H) : rRepr [.bl b] H Q := ⟨b, rfl, q⟩
theorem r_max2 {k : Int} (q : Q (.int (if k > i then k else i)) H) : rMax2 [.int i, .int k] H Q := ⟨i, k, rfl, q⟩
theorem r_min2 {k : Int} (q : Q (.int (if k < i then k else i)) H) : rMin2 [.int i, .int k] H Q := ⟨i, k, rfl, q⟩
theorem r_listOfT (h : H p = some (.tup xs)) (q : ∀ l, H l = none → Q (.ref l) (upd H l (.lst xs))) : rListOf K [.ref p] H Q := ⟨p, xs, rfl, .inr (SqT.of h), q⟩
theorem r_isN (q : Q (.bl (decide (v = .non))) H) : rIsN v .non H Q := ⟨rfl, q⟩
theorem r_asg {g : TG} (h : te σ H fun x H1 => g x σ H1 D.nx) : tAsg te g D σ H := h
theorem r_gName {n : Nat} {R : L2.St → Hp → Prop} (q : R (σ.set n (some v)) H) : gName n v σ H R := q
theorem r_gTup {n : Nat} {t : TGs} {R : L2.St → Hp → Prop} (h : H p = some (.tup xs)) (hl : xs.length = n) (q : t xs σ H R) : gTup K n t (.ref p) σ H R := ⟨p, xs, rfl, SqT.of h, hl, q⟩
theorem r_gCons {t : TG} {u : TGs} {ws : List V} {R : L2.St → Hp → Prop} (q : t v σ H fun σ' H' => u ws σ' H' R) : gCons t u (v :: ws) σ H R := ⟨v, ws, rfl, q⟩
theorem r_gNil {R : L2.St → Hp → Prop} (q : R σ H) : gNil [] σ H R := ⟨rfl, q⟩
theorem r_sub {t : TSet} {R : L2.St → Hp → Prop} (h : to σ H fun o H1 => ti σ H1 fun i H2 => t o i v H2 fun H3 => R σ H3) : gSub to ti t v σ H R := h
theorem r_setL {R : Hp → Prop} (h : H p = some (.lst xs)) (e : ixN xs.length k = some j) (q : R (upd H p (.lst (xs.set j v)))) : rSetL (.ref p) (.int k) v H R := ⟨p, xs, k, j, rfl, rfl, h, e, q⟩
theorem r_dec {c A B : Prop} {_i : Decidable c} (h1 : c → A) (h2 : ¬ c → B) : if decide c = true then A else B := by
  by_cases h : c
  · rw [decide_eq_true h]; exact iteT (h1 h)
  · rw [decide_eq_false h]; exact iteF (h2 h)
theorem r_decN {c A B : Prop} {_i : Decidable c} (h1 : ¬ c → A) (h2 : c → B) : if (!decide c) = true then A else B := by
  by_cases h : c
  · rw [decide_eq_true h]; exact iteF (h2 h)
  · rw [decide_eq_false h]; exact iteT (h1 h)
theorem r_bool {b : Bool} {A B : Prop} (h1 : b = true → A) (h2 : b = false → B) : if b = true then A else B := by
  cases b with
  | true => exact iteT (h1 rfl)
  | false => exact iteF (h2 rfl)
end
theorem sz_of {n : Nat} (h : n ≤ 100000) : n ≤ sizeLine := Nat.le_trans h (by decide)
theorem sz_lt {n : Nat} (h : n < 100000) : n < sizeLine := Nat.lt_of_lt_of_le h (by decide)
end Tk

set_option Elab.async false
set_option linter.all false
set_option maxRecDepth 100000
set_option maxHeartbeats 4000000
namespace Tk
open PySem PySem.Spec PyProof.Rows L2
theorem wipe1 (σ : L2.St) (s : Nat) : wipe σ [s] = σ.set s none := rfl
theorem wipe_set (σ : L2.St) (s : Nat) (v : Option V) : wipe ((wipe σ [s]).set s v) [s] = wipe σ [s] := by
  show ((σ.set s none).set s v).set s none = σ.set s none
  rw [List.set_set, List.set_set]
theorem wipe_slot (σ : L2.St) (s : Nat) (v : Option V) : (wipe σ [s]).set s v = σ.set s v := by
  show (σ.set s none).set s v = σ.set s v
  rw [List.set_set]
theorem take_succ_filter {α β : Type} {l : List α} {i : Nat} {x : α} (h : l[i]? = some x) (g : α → Bool) (f : α → β) :
    ((l.take (i + 1)).filter g).map f = ((l.take i).filter g).map f ++ (if g x = true then [f x] else []) := by
  rw [List.take_add_one, h, List.filter_append, List.map_append]
  cases hg : g x <;> simp [hg]
/-- what a comprehension asks, once it is known what it walks -/
def LcG (J : It) (g : TG) (tt : TT) (te : TE) (vs : List Nat) (σ : L2.St) (H1 : Hp) (Q : VK) : Prop := ∀ D, H1 D = none → ∃ W : Nat → Nat → Hp → Prop, (∃ m, W 0 m (upd H1 D (.lst []))) ∧ ∀ i m H, W i m H →
  (J.stop i H ∧ Q (.ref D) H) ∨ (J.go i H ∧ ∃ Nx : Hp → Prop, (∀ H', Nx H' → ∃ m', m' < m ∧ W (i + 1) m' H') ∧ ∀ x H', J.yld i H x H' → g x (wipe σ vs) H' fun σ2 H2 => wipe σ2 vs = wipe σ vs ∧ tt σ2 H2 fun b H3 =>
    if b = true then te σ2 H3 fun y H4 => ∃ acc, H4 D = some (.lst acc) ∧ acc.length < sizeLine ∧ Nx (upd H4 D (.lst (acc ++ [y]))) else Nx H3)
/-- what a for asks -/
def ForG (J : It) (g : TG) (tb : TS) (D : Ends) (σ : L2.St) (H1 : Hp) : Prop := ∃ W : Nat → Nat → L2.St → Hp → Prop, (∃ m, W 0 m σ H1) ∧ ∀ i m σ H, W i m σ H →
  (J.stop i H ∧ D.nx σ H) ∨ (J.go i H ∧ ∃ N : L2.St → Hp → Prop, (∀ σ' H', N σ' H' → ∃ m', m' < m ∧ W (i + 1) m' σ' H') ∧ ∀ x H', J.yld i H x H' → g x σ H' fun σ2 H2 => tb { D with nx := N, ct := N, bk := D.nx } σ2 H2)
section
variable {wi : TI} {g : TG} {tt : TT} {te tl : TE} {ta : TA} {tb : TS} {vs : List Nat} {σ : L2.St} {H : Hp} {Q : VK} {D : Ends} {K : PySem.W.Frag} {R : It → Hp → Prop}
theorem r_lc (h : wi σ H fun J H1 => LcG J g tt te vs σ H1 Q) : tLc wi g tt te vs σ H Q := h
theorem r_for (h : wi σ H fun J H1 => ForG J g tb D σ H1) : tFor wi g tb D σ H := h
theorem r_rng1 (h : ta σ H fun vs H1 => ∃ j : Int, vs = [.int j] ∧ -(2 ^ 62) ≤ j ∧ j < 2 ^ 62 ∧ R (Itr 0 j.toNat) H1) : iRng1 ta σ H R := h
theorem r_j {j lo hi : Int} {P : Int → Prop} (h0 : lo ≤ j) (h1 : j < hi) (q : P j) : ∃ j', [V.int j] = [V.int j'] ∧ lo ≤ j' ∧ j' < hi ∧ P j' := ⟨j, rfl, h0, h1, q⟩
theorem r_iList (h : tl σ H fun x H1 => ∃ a, x = .ref a ∧ (∃ xs, SqL K H1 a xs) ∧ R (Itl K a) H1) : iList K tl σ H R := h
theorem r_iStr (h : te σ H fun v H1 => ∃ x, v = .str x ∧ R (Its x) H1) : iStr te σ H R := h
theorem r_strx {x : Str} {P : Str → Prop} (q : P x) : ∃ y, V.str x = V.str y ∧ P y := ⟨x, rfl, q⟩
theorem r_iTup (h : tl σ H fun x H1 => ∃ a, x = .ref a ∧ (∃ xs, SqT K H1 a xs) ∧ R (Itt K a) H1) : iTup K tl σ H R := h
end
/-- a comprehension that only makes new things: tests and elements told item by item -/
theorem lc_pure {J : It} {G : Hp → Prop} {items : List V} {s : Nat} {tt : TT} {te : TE} {σ : L2.St} {H1 : Hp} {Qd : VK} (w : Walk J items.length G (YAt items)) (hG : ∀ H', Same H1 H' → G H') (hn : items.length ≤ 100000) (gb : V → Bool) (f : V → V)
    (ht : ∀ x ∈ items, ∀ (H2 : Hp) (R : Bool → Hp → Prop), Same H1 H2 → (∀ H3, Same H2 H3 → R (gb x) H3) → tt (σ.set s (some x)) H2 R)
    (he : ∀ x ∈ items, gb x = true → ∀ (H2 : Hp) (R : VK), Same H1 H2 → (∀ H3, Same H2 H3 → R (f x) H3) → te (σ.set s (some x)) H2 R)
    (hd : ∀ (D : Addr) (H' : Hp), H1 D = none → Same H1 H' → H' D = some (.lst ((items.filter gb).map f)) → Qd (.ref D) H') :
    LcG J (gName s) tt te [s] σ H1 Qd := by
  intro D hD
  refine lc_it (Qd := fun H' => Qd (.ref D) H') w (fun i H' => Same H1 H' ∧ H' D = some (.lst (((items.take i).filter gb).map f))) ⟨Same.new hD, by rw [upd_same]; rfl⟩ (fun i H' _ p => hG H' p.1) ?_ (fun H' p => hd D H' hD p.1 (by rw [p.2, List.take_length]))
  rintro i x H2 H2' hi ⟨p1, p2⟩ ⟨rfl, hx⟩
  have hm : x ∈ items := List.mem_of_getElem? hx
  have hl : (((items.take i).filter gb).map f).length ≤ items.length := by
    rw [List.length_map]
    refine Nat.le_trans (List.length_filter_le _ _) ?_
    rw [List.length_take]
    omega
  show wipe ((wipe σ [s]).set s (some x)) [s] = wipe σ [s] ∧ tt ((wipe σ [s]).set s (some x)) H2' _
  refine ⟨wipe_set σ s _, ?_⟩
  rw [wipe_slot]
  refine ht x hm H2' _ p1 fun H3 s3 => ?_
  cases hg : gb x with
  | true =>
    refine iteT ?_
    refine he x hm hg H3 _ (p1.trans s3) fun H4 s4 => ?_
    have e4 := s4 _ _ (s3 _ _ p2)
    refine ⟨_, e4, sz_lt (by have : i < items.length := hi; rw [List.length_map]; have := List.length_filter_le gb (items.take i); rw [List.length_take] at this; omega), ?_⟩
    refine ⟨Same.mut (p1.trans (s3.trans s4)) hD, ?_⟩
    rw [upd_same, take_succ_filter hx, hg, if_pos rfl]
  | false =>
    refine iteF ?_
    refine ⟨p1.trans s3, ?_⟩
    rw [s3 _ _ p2, take_succ_filter hx, hg, if_neg Bool.false_ne_true, List.append_nil]
theorem filt_true {α : Type} (l : List α) : l.filter (fun _ => true) = l := List.filter_eq_self.mpr fun _ _ => rfl
/-- a text's signs as values -/
abbrev signV (c : Nat) : V := .str ⟨#[c]⟩
def codeV : V → Nat
  | .str y => y.cps.getD 0 0
  | _ => 0
theorem codeV_sign (c : Nat) : codeV (signV c) = c := rfl
def signs (z : Str) : List V := z.cps.toList.map signV
theorem walk_signs {z : Str} : Walk (Its z) (signs z).length (fun _ => True) (YAt (signs z)) := by
  have e : (signs z).length = z.cps.size := by unfold signs; rw [List.length_map, Array.length_toList]
  rw [e]
  refine Walk.mono walk_str (fun _ h => h) fun i H x H' hi _ y => ?_
  obtain ⟨h1, c, h2, h3⟩ := y
  refine ⟨h1, ?_⟩
  unfold signs
  rw [List.getElem?_map, Array.getElem?_toList, h2, h3]
  rfl
theorem r_lcStr {s : Nat} {z : Str} {tt : TT} {te : TE} {σ : L2.St} {H : Hp} {Q : VK} (hn : z.length ≤ 100000) (gb : Nat → Bool) (f : V → V)
    (ht : ∀ c ∈ z.cps.toList, ∀ (H2 : Hp) (R : Bool → Hp → Prop), Same H H2 → (∀ H3, Same H2 H3 → R (gb c) H3) → tt (σ.set s (some (signV c))) H2 R)
    (he : ∀ c ∈ z.cps.toList, gb c = true → ∀ (H2 : Hp) (R : VK), Same H H2 → (∀ H3, Same H2 H3 → R (f (signV c)) H3) → te (σ.set s (some (signV c))) H2 R)
    (hd : ∀ (D : Addr) (H' : Hp), H D = none → Same H H' → H' D = some (.lst ((z.cps.toList.filter gb).map fun c => f (signV c))) → Q (.ref D) H') : LcG (Its z) (gName s) tt te [s] σ H Q := by
  have hl : (signs z).length ≤ 100000 := by unfold signs; rw [List.length_map, Array.length_toList]; exact hn
  have inj : ∀ c, gb c = (fun v => match v with | .str y => gb (y.cps.getD 0 0) | _ => false) (signV c) := fun c => rfl
  refine lc_pure (Qd := Q) walk_signs (fun _ _ => trivial) hl (fun v => match v with | .str y => gb (y.cps.getD 0 0) | _ => false) f ?_ ?_ ?_
  · intro x hx H2 R s2 k
    obtain ⟨c, hc, rfl⟩ := List.mem_map.mp hx
    exact ht c hc H2 R s2 k
  · intro x hx hg H2 R s2 k
    obtain ⟨c, hc, rfl⟩ := List.mem_map.mp hx
    exact he c hc hg H2 R s2 k
  · intro D H' h0 s2 e
    refine hd D H' h0 s2 ?_
    rw [e]
    unfold signs
    rw [List.filter_map, List.map_map]
    rfl
/-! ### signs between two -/
theorem sign_le {a c : Nat} : (!decide (([c] : List Nat) < [a])) = decide (a ≤ c) := by
  have h : ([c] : List Nat) < [a] ↔ c < a := by
    constructor
    · intro h
      cases h with
      | cons h => cases h
      | rel h => exact h
    · exact fun h => .rel h
  by_cases q : a ≤ c
  · rw [decide_eq_true q, decide_eq_false (fun z => by have := h.mp z; omega)]; rfl
  · rw [decide_eq_false q, decide_eq_true (h.mpr (by omega))]; rfl
theorem sign_ge {a c : Nat} : (!decide (([a] : List Nat) < [c])) = decide (c ≤ a) := sign_le (a := c) (c := a)
/-- lo <= sign <= hi -/
theorem r_between {s a b c : Nat} {lo hi : Str} {σ : L2.St} {H : Hp} {Q : VK} (hv : σ[s]? = some (some (signV c))) (h1 : lo.cps.toList = [a]) (h2 : hi.cps.toList = [b]) (q : Q (.bl (decide (a ≤ c) && decide (c ≤ b))) H) :
    tChain GLe GLe (tC (.str lo)) (tVar s) (tC (.str hi)) σ H Q := by
  refine ⟨_, hv, g_leS ?_⟩
  refine ⟨_, rfl, ?_⟩
  rw [h1]
  show if (!decide (([c] : List Nat) < [a])) = true then _ else _
  rw [sign_le]
  by_cases k1 : a ≤ c
  · rw [decide_eq_true k1] at q ⊢
    refine iteT (g_leS ?_)
    rw [h2]
    show Q (.bl (!decide (([b] : List Nat) < [c]))) H
    rw [sign_ge]
    exact q
  · rw [decide_eq_false k1] at q ⊢
    exact iteF q
theorem cps_a : (Str.ofString "a").cps.toList = [97] := by decide +kernel
theorem cps_z : (Str.ofString "z").cps.toList = [122] := by decide +kernel
theorem cps_sp : (Str.ofString " ").cps.toList = [32] := by decide +kernel
theorem cps_til : (Str.ofString "~").cps.toList = [126] := by decide +kernel
end Tk

set_option Elab.async false
set_option linter.all false
set_option maxRecDepth 100000
set_option maxHeartbeats 4000000
namespace Tk
open PySem PySem.Spec PyProof.Rows L2
/-! ### words, values, numbers, stamps, entries, as data -/
mutual
def okD : PyData → Prop
  | .str x => x.length ≤ 100000
  | .list xs => xs.length ≤ 100000 ∧ okAll xs
  | .tuple xs => xs.length ≤ 100000 ∧ okAll xs
  | _ => True
def okAll : List PyData → Prop
  | [] => True
  | x :: xs => okD x ∧ okAll xs
end
def lowB (c : Nat) : Bool := decide (97 ≤ c) && decide (c ≤ 122)
def shownB (c : Nat) : Bool := decide (32 ≤ c) && decide (c ≤ 126)
def wordS (x : Str) : Bool := (decide ((1 : Int) ≤ (x.length : Int)) && decide ((x.length : Int) ≤ 8)) && x.cps.toList.all lowB
def valueS (x : Str) : Bool := (!decide ((40 : Int) < (x.length : Int))) && x.cps.toList.all shownB
def wordD : PyData → Bool
  | .str x => wordS x
  | _ => false
def valueD : PyData → Bool
  | .str x => valueS x
  | _ => false
def numD : PyData → Bool
  | .int i => decide (1 ≤ i) && decide (i ≤ 1000000000000000)
  | _ => false
def stampD : PyData → Bool
  | .tuple [a, b] => numD a && wordD b
  | _ => false
def noneD : PyData → Bool
  | .none => true
  | _ => false
def entryD : PyData → Bool
  | .tuple [k, s, v] => wordD k && (stampD s && (noneD v || valueD v))
  | _ => false
/-- a def that tells something of data -/
def spD (K : PySem.W.Frag) (f : PyData → Bool) : Sp := fun vs H Q _ => ∃ (v : V) (d : PyData), vs = [v] ∧ Dd K H v d ∧ okD d ∧ ∀ H', Same H H' → Q (.bl (f d)) H'
theorem spD_len {K : PySem.W.Frag} {f : PyData → Bool} {vs : List V} {H : Hp} {Q : VK} {E : XK} (h : spD K f vs H Q E) : vs.length = 1 := by
  obtain ⟨v, d, rfl, _⟩ := h
  rfl
section
variable {K : PySem.W.Frag} {H : Hp} {Q : VK} {x : Str} {a : Addr} {xs : List V} {A B : Prop} {b : Bool} {v : V}
theorem r_all {bs : List Bool} (h : H a = some (.lst (bs.map V.bl))) (q : Q (.bl (bs.all id)) H) : rAll K [.ref a] H Q := ⟨a, bs, rfl, SqL.of h, q⟩
theorem r_boolN (h1 : b = false → A) (h2 : b = true → B) : if (!b) = true then A else B := by
  cases b with
  | true => exact iteF (h2 rfl)
  | false => exact iteT (h1 rfl)
/-- data stand for isinstance -/
theorem r_isiS {d : PyData} (h : Dd K H v d) (q : Q (.bl (isOf d "str")) H) : rIsi K [v, .ty "str"] H Q := r_isi h (by decide) q
theorem r_isiT {d : PyData} (h : Dd K H v d) (q : Q (.bl (isOf d "tuple")) H) : rIsi K [v, .ty "tuple"] H Q := r_isi h (by decide) q
theorem r_isiI {d : PyData} (h : Dd K H v d) (q : Q (.bl (isOf d "int")) H) : rIsi K [v, .ty "int"] H Q := r_isi h (by decide) q
theorem r_isiB {d : PyData} (h : Dd K H v d) (q : Q (.bl (isOf d "bool")) H) : rIsi K [v, .ty "bool"] H Q := r_isi h (by decide) q
end
/-- a call of a def that tells something of data -/
theorem r_spD {K : PySem.W.Frag} {f : PyData → Bool} {v : V} {d : PyData} {H : Hp} {Q : VK} {E : XK} (h : Dd K H v d) (o : okD d) (q : ∀ H', Same H H' → Q (.bl (f d)) H') : spD K f ([v] ++ []) H Q E := ⟨v, d, rfl, h, o, q⟩
theorem isStr (x : Str) : isOf (.str x) "str" = true := isN_str.2.2.2.1
theorem isTup (x : List PyData) : isOf (.tuple x) "tuple" = true := isN_tuple.2.2.2.2.2.1
theorem isNotStr {d : PyData} (h : ∀ x, d ≠ .str x) : isOf d "str" = false := by
  cases d with
  | str x => exact absurd rfl (h x)
  | none => exact isN_str.1
  | bool _ => exact isN_str.2.1
  | int _ => exact isN_str.2.2.1
  | list _ => exact isN_str.2.2.2.2.1
  | tuple _ => exact isN_str.2.2.2.2.2.1
  | dict _ => exact isN_str.2.2.2.2.2.2
theorem isNotTup {d : PyData} (h : ∀ x, d ≠ .tuple x) : isOf d "tuple" = false := by
  cases d with
  | tuple x => exact absurd rfl (h x)
  | none => exact isN_tuple.1
  | bool _ => exact isN_tuple.2.1
  | int _ => exact isN_tuple.2.2.1
  | str _ => exact isN_tuple.2.2.2.1
  | list _ => exact isN_tuple.2.2.2.2.1
  | dict _ => exact isN_tuple.2.2.2.2.2.2
theorem isInt_or (d : PyData) : (isOf d "int" = true ∧ isOf d "bool" = false ∧ ∃ i, d = .int i) ∨ (isOf d "int" = true ∧ isOf d "bool" = true ∧ ∃ b, d = .bool b) ∨ (isOf d "int" = false ∧ numD d = false) := by
  cases d with
  | int i => exact .inl ⟨isN_int.2.2.1, isN_bool.2.2.1, i, rfl⟩
  | bool b => exact .inr (.inl ⟨isN_int.2.1, isN_bool.2.1, b, rfl⟩)
  | none => exact .inr (.inr ⟨isN_int.1, rfl⟩)
  | str _ => exact .inr (.inr ⟨isN_int.2.2.2.1, rfl⟩)
  | list _ => exact .inr (.inr ⟨isN_int.2.2.2.2.1, rfl⟩)
  | tuple _ => exact .inr (.inr ⟨isN_int.2.2.2.2.2.1, rfl⟩)
  | dict _ => exact .inr (.inr ⟨isN_int.2.2.2.2.2.2, rfl⟩)
theorem all_signs (l : List Nat) (g : Nat → Bool) : (l.map g).all id = l.all g := by rw [List.all_map]; rfl
theorem str_or (d : PyData) : (∃ x, d = .str x) ∨ (∀ x, d ≠ .str x) := by
  cases d with
  | str x => exact .inl ⟨x, rfl⟩
  | _ => exact .inr fun x h => nomatch h
/-- a tuple of data, or none -/
theorem tup_or {K : PySem.W.Frag} {H : Hp} {v : V} {d : PyData} (h : Dd K H v d) : (∃ a xs ds, v = .ref a ∧ d = .tuple ds ∧ H a = some (.tup xs) ∧ DdAll K H xs ds ∧ isOf d "tuple" = true) ∨ (isOf d "tuple" = false ∧ ∀ ds, d ≠ .tuple ds) := by
  cases h with
  | tup e a => exact .inl ⟨_, _, _, rfl, rfl, e, a, isTup _⟩
  | _ => exact .inr ⟨isNotTup (fun x h => nomatch h), (fun x h => nomatch h)⟩
theorem stampD_no {d : PyData} (h : ∀ ds, d ≠ .tuple ds) : stampD d = false := by
  cases d with
  | tuple x => exact absurd rfl (h x)
  | _ => rfl
theorem entryD_no {d : PyData} (h : ∀ ds, d ≠ .tuple ds) : entryD d = false := by
  cases d with
  | tuple x => exact absurd rfl (h x)
  | _ => rfl
theorem stampD_len {ds : List PyData} (h : ¬ ds.length = 2) : stampD (.tuple ds) = false := by
  unfold stampD
  split
  · rename_i e
    cases e
    exact absurd rfl h
  · rfl
theorem entryD_len {ds : List PyData} (h : ¬ ds.length = 3) : entryD (.tuple ds) = false := by
  unfold entryD
  split
  · rename_i e
    cases e
    exact absurd rfl h
  · rfl
theorem all_two {K : PySem.W.Frag} {H : Hp} {xs : List V} {ds : List PyData} (h : DdAll K H xs ds) (e : xs.length = 2) : ∃ v0 v1 d0 d1, xs = [v0, v1] ∧ ds = [d0, d1] ∧ Dd K H v0 d0 ∧ Dd K H v1 d1 := by
  cases h with
  | nil => cases e
  | cons h0 t =>
    cases t with
    | nil => cases e
    | cons h1 t =>
      cases t with
      | nil => exact ⟨_, _, _, _, rfl, rfl, h0, h1⟩
      | cons _ _ => cases e
theorem all_three {K : PySem.W.Frag} {H : Hp} {xs : List V} {ds : List PyData} (h : DdAll K H xs ds) (e : xs.length = 3) : ∃ v0 v1 v2 d0 d1 d2, xs = [v0, v1, v2] ∧ ds = [d0, d1, d2] ∧ Dd K H v0 d0 ∧ Dd K H v1 d1 ∧ Dd K H v2 d2 := by
  cases h with
  | nil => cases e
  | cons h0 t =>
    cases t with
    | nil => cases e
    | cons h1 t =>
      cases t with
      | nil => cases e
      | cons h2 t =>
        cases t with
        | nil => exact ⟨_, _, _, _, _, _, rfl, rfl, h0, h1, h2⟩
        | cons _ _ => cases e
theorem noneD_iff {K : PySem.W.Frag} {H : Hp} {v : V} {d : PyData} (h : Dd K H v d) : decide (v = .non) = noneD d := by
  cases h <;> simp [noneD]
theorem wordD_no {d : PyData} (h : ∀ x, d ≠ .str x) : wordD d = false := by
  cases d with
  | str x => exact absurd rfl (h x)
  | _ => rfl
theorem valueD_no {d : PyData} (h : ∀ x, d ≠ .str x) : valueD d = false := by
  cases d with
  | str x => exact absurd rfl (h x)
  | _ => rfl
end Tk

set_option Elab.async false
set_option linter.all false
set_option maxRecDepth 100000
set_option maxHeartbeats 4000000
namespace Tk
open PySem PySem.Spec PyProof.Rows L2
/-! ### the law's draws: a pool of two numbers -/
def PoolAt (H : Hp) (p : Addr) : Prop := ∃ a b : Int, H p = some (.lst [.int a, .int b]) ∧ 0 ≤ a ∧ 0 ≤ b ∧ b < 2147483648
theorem pool_mk {H : Hp} {p : Addr} {a b : Int} (h0 : 0 ≤ a) (h1 : 0 ≤ b) (h2 : b < 2147483647) : PoolAt (upd H p (.lst [.int a, .int b])) p := ⟨a, b, upd_same, h0, h1, by omega⟩
theorem pool_mk1 {H : Hp} {p : Addr} {a b : Int} (h0 : 0 ≤ a) (h1 : 0 ≤ b) (h2 : b < 2147483648) : PoolAt (upd H p (.lst [.int a, .int b])) p := ⟨a, b, upd_same, h0, h1, h2⟩
/-- something was drawn of the pool at p (and new things made) -/
structure Drawn (p : Addr) (H H' : Hp) : Prop where
  kept : ∀ b o, H b = some o → b ≠ p → H' b = some o
  pool : PoolAt H' p
theorem Drawn.trans {p : Addr} {H H1 H2 : Hp} (a : Drawn p H H1) (b : Drawn p H1 H2) : Drawn p H H2 := ⟨fun c o h n => b.kept c o (a.kept c o h n) n, b.pool⟩
theorem Drawn.same {p : Addr} {H H1 H2 : Hp} (a : Drawn p H H1) (b : Same H1 H2) : Drawn p H H2 := ⟨fun c o h n => b c o (a.kept c o h n), by obtain ⟨x, y, h, r⟩ := a.pool; exact ⟨x, y, b _ _ h, r⟩⟩
theorem Drawn.refl {p : Addr} {H : Hp} (h : PoolAt H p) : Drawn p H H := ⟨fun _ _ h _ => h, h⟩
theorem Drawn.of {p : Addr} {H H' : Hp} (h : PoolAt H p) (s : Same H H') : Drawn p H H' := (Drawn.refl h).same s
theorem PoolAt.same {p : Addr} {H H' : Hp} (h : PoolAt H p) (s : Same H H') : PoolAt H' p := (Drawn.of h s).pool
/-- what stood ahead of the pool stands -/
theorem Drawn.back {p : Addr} {H0 H H' : Hp} (d : Drawn p H H') (s : Same H0 H) (n : H0 p = none) : Same H0 H' := fun b o h => d.kept b o (s b o h) (ne_of_none h n)
theorem PoolAt.ne {p a : Addr} {H : Hp} {xs : List V} (h : PoolAt H p) (e : H a = some (.tup xs)) : a ≠ p := by
  obtain ⟨x, y, h, _⟩ := h
  exact ne_of e h (by intro z; cases z)
theorem Drawn.tup {p a : Addr} {H H' : Hp} {xs : List V} (d : Drawn p H H') (h : PoolAt H p) (e : H a = some (.tup xs)) : H' a = some (.tup xs) := d.kept _ _ e (h.ne e)
/-! ### take -/
def spTake : Sp := fun vs H Q _ => ∃ (p : Addr) (m : Int), vs = [.ref p, .int m] ∧ PoolAt H p ∧ 0 < m ∧ m < 2 ^ 60 ∧ ∀ r H', 0 ≤ r → r < m → Drawn p H H' → Q (.int r) H'
theorem r_take {p : Addr} {m : Int} {H : Hp} {Q : VK} {E : XK} (h : PoolAt H p) (h0 : 0 < m) (h1 : m < 2 ^ 60) (q : ∀ r H', 0 ≤ r → r < m → Drawn p H H' → Q (.int r) H') : spTake ([.ref p, .int m] ++ []) H Q E := ⟨p, m, rfl, h, h0, h1, q⟩
def spPool (K : PySem.W.Frag) : Sp := fun vs H Q _ => ∃ (s : Addr) (ns : List Int) (k : Int), vs = [.ref s, .int k] ∧ SqL K H s (ns.map V.int) ∧ ns.length ≤ 63 ∧ 0 ≤ k ∧ k < 64 ∧ ∀ p H', H p = none → Same H H' → PoolAt H' p → Q (.ref p) H'
theorem spTake_len {vs : List V} {H : Hp} {Q : VK} {E : XK} (h : spTake vs H Q E) : vs.length = 2 := by
  obtain ⟨p, m, rfl, _⟩ := h
  rfl
theorem spPool_len {K : PySem.W.Frag} {vs : List V} {H : Hp} {Q : VK} {E : XK} (h : spPool K vs H Q E) : vs.length = 2 := by
  obtain ⟨p, m, k, rfl, _⟩ := h
  rfl
/-! ### what a written expression gives, as data: only new things are made -/
def EvD (K : PySem.W.Frag) (te : TE) (σ : L2.St) (d : PyData) : Prop := ∀ (H : Hp) (Q : VK), (∀ v H', Same H H' → Dd K H' v d → Q v H') → te σ H Q
def EvDA (K : PySem.W.Frag) (ta : TA) (σ : L2.St) (ds : List PyData) : Prop := ∀ (H : Hp) (Q : List V → Hp → Prop), (∀ vs H', Same H H' → DdAll K H' vs ds → Q vs H') → ta σ H Q
section
variable {K : PySem.W.Frag} {σ : L2.St} {te : TE} {ta : TA} {d : PyData} {ds : List PyData}
theorem ed_int {i : Int} : EvD K (tC (.int i)) σ (.int i) := fun H Q q => q _ H (Same.refl H) (.int i)
theorem ed_str {i : Str} : EvD K (tC (.str i)) σ (.str i) := fun H Q q => q _ H (Same.refl H) (.str i)
theorem ed_bl {i : Bool} : EvD K (tC (.bl i)) σ (.bool i) := fun H Q q => q _ H (Same.refl H) (.bl i)
theorem ed_non : EvD K (tC .non) σ .none := fun H Q q => q _ H (Same.refl H) .non
theorem ed_nil : EvDA K tNil σ [] := fun H Q q => q _ H (Same.refl H) .nil
theorem ed_cons (h : EvD K te σ d) (t : EvDA K ta σ ds) : EvDA K (tCons te ta) σ (d :: ds) := fun H Q q =>
  h H _ fun v H1 s1 dv => t H1 _ fun vs H2 s2 dvs => q _ H2 (s1.trans s2) (.cons (Dd.same s2 d v dv) dvs)
theorem ed_tup (h : EvDA K ta σ ds) (hl : ds.length ≤ 100000) : EvD K (tTup ta) σ (.tuple ds) := fun H Q q =>
  h H _ fun vs H1 s1 dvs => ⟨sz_of (by rw [dvs.length]; exact hl), fun p hp => q _ _ (s1.trans (Same.new hp)) (.tup upd_same (DdAll.same (Same.new hp) ds vs dvs))⟩
theorem ed_lst (h : EvDA K ta σ ds) (hl : ds.length ≤ 100000) : EvD K (tLst ta) σ (.list ds) := fun H Q q =>
  h H _ fun vs H1 s1 dvs => ⟨sz_of (by rw [dvs.length]; exact hl), fun p hp => q _ _ (s1.trans (Same.new hp)) (.lst upd_same (DdAll.same (Same.new hp) ds vs dvs))⟩
theorem ed_dct : EvD K tDNewK σ (.dict []) := fun H Q q => fun p hp => q _ _ (Same.new hp) (.dct upd_same)
theorem ed_neg {i : Int} : EvD K (tUn (rU fun i => .int (-i)) (tC (.int i))) σ (.int (-i)) := fun H Q q => ⟨i, rfl, q _ H (Same.refl H) (.int _)⟩
end
theorem DdAll.append {K : PySem.W.Frag} {H : Hp} : ∀ {vs ws : List V} {ds es : List PyData}, DdAll K H vs ds → DdAll K H ws es → DdAll K H (vs ++ ws) (ds ++ es)
  | _, _, _, _, .nil, b => b
  | _, _, _, _, .cons h t, b => .cons h (DdAll.append t b)
theorem DdAll.mem {K : PySem.W.Frag} {H : Hp} : ∀ {vs : List V} {ds : List PyData} {v : V}, DdAll K H vs ds → okAll ds → v ∈ vs → ∃ d, Dd K H v d ∧ okD d
  | _, _, _, .nil, _, h => by cases h
  | _, _, v, .cons h t, o, m => by
    rcases List.mem_cons.mp m with e | m
    · subst e
      exact ⟨_, h, o.1⟩
    · exact DdAll.mem t o.2 m
/-- a value that needs no heap -/
def Scal (v : V) : Prop := ∃ d, okD d ∧ ∀ K H, Dd K H v d
theorem scal_int (i : Int) : Scal (.int i) := ⟨.int i, trivial, fun _ _ => .int i⟩
theorem scal_bl (i : Bool) : Scal (.bl i) := ⟨.bool i, trivial, fun _ _ => .bl i⟩
theorem scal_non : Scal .non := ⟨.none, trivial, fun _ _ => .non⟩
theorem scal_str (x : Str) (h : x.length ≤ 100000) : Scal (.str x) := ⟨.str x, h, fun _ _ => .str x⟩
theorem PoolAt.ne' {p a : Addr} {H : Hp} (h : PoolAt H p) (e : H a = none) : a ≠ p := by
  obtain ⟨x, y, h, _⟩ := h
  exact (ne_of_none h e).symm
/-- a made list, a made tuple: the heap behind is a letter -/
theorem a_lst {xs : List V} {H : Hp} {Q : VK} (hl : xs.length ≤ 100000) (q : ∀ p H2, H p = none → Same H H2 → H2 p = some (.lst xs) → Q (.ref p) H2) : AllocL xs H Q :=
  ⟨sz_of hl, fun p hp => q p _ hp (Same.new hp) upd_same⟩
theorem a_tup {xs : List V} {H : Hp} {Q : VK} (hl : xs.length ≤ 100000) (q : ∀ p H2, H p = none → Same H H2 → H2 p = some (.tup xs) → Q (.ref p) H2) : AllocT xs H Q :=
  ⟨sz_of hl, fun p hp => q p _ hp (Same.new hp) upd_same⟩
/-- texts of at most n signs -/
def textB (n : Nat) : V → Bool
  | .str x => decide (x.length ≤ n)
  | _ => false
theorem textB_all {n : Nat} {xs : List V} {v : V} (h : xs.all (textB n) = true) (m : v ∈ xs) : ∃ x : Str, v = .str x ∧ x.length ≤ n := by
  have q := List.all_eq_true.mp h v m
  cases v with
  | str x => exact ⟨x, rfl, of_decide_eq_true q⟩
  | _ => cases q
def scalB : V → Bool
  | .non => true
  | .bl _ => true
  | .int _ => true
  | .str x => decide (x.length ≤ 100000)
  | _ => false
theorem scal_of {v : V} (h : scalB v = true) : Scal v := by
  cases v with
  | non => exact scal_non
  | bl b => exact scal_bl b
  | int i => exact scal_int i
  | str x => exact scal_str x (of_decide_eq_true h)
  | _ => cases h
theorem scal_all {xs : List V} {v : V} (h : xs.all scalB = true) (m : v ∈ xs) : Scal v := scal_of (List.all_eq_true.mp h v m)
/-- an item at a drawn place -/
theorem at_drawn {xs : List V} {r : Int} (h0 : 0 ≤ r) (h1 : r < (xs.length : Nat)) : ∃ v, atI xs r = some v ∧ v ∈ xs := by
  obtain ⟨n, rfl⟩ := Int.eq_ofNat_of_zero_le h0
  have hn : n < xs.length := by omega
  exact ⟨xs[n], atI_nat (by simp [hn]), List.getElem_mem hn⟩
theorem r_pow15 {H : Hp} {Q : VK} (q : Q (.int 1000000000000000) H) : rI CPow (fun i j => .int (i ^ j.toNat)) (.int 10) (.int 15) H Q := by
  refine r_I (C := CPow) (⟨by decide, by decide, by decide⟩ : CPow 10 15) ?_
  have e : ((10 : Int) ^ (15 : Int).toNat) = 1000000000000000 := by decide +kernel
  rw [e]
  exact q
theorem r_pow18 {H : Hp} {Q : VK} (q : Q (.int 1000000000000000000) H) : rI CPow (fun i j => .int (i ^ j.toNat)) (.int 10) (.int 18) H Q := by
  refine r_I (C := CPow) (⟨by decide, by decide, by decide⟩ : CPow 10 18) ?_
  have e : ((10 : Int) ^ (18 : Int).toNat) = 1000000000000000000 := by decide +kernel
  rw [e]
  exact q
theorem r_pow6 {H : Hp} {Q : VK} (q : Q (.int 1000000) H) : rI CPow (fun i j => .int (i ^ j.toNat)) (.int 10) (.int 6) H Q := by
  refine r_I (C := CPow) (⟨by decide, by decide, by decide⟩ : CPow 10 6) ?_
  have e : ((10 : Int) ^ (6 : Int).toNat) = 1000000 := by decide +kernel
  rw [e]
  exact q
theorem isEmpty_filter (l : List Nat) (g : Nat → Bool) (f : Nat → V) : ((l.filter fun c => !g c).map f).isEmpty = l.all g := by
  induction l with
  | nil => rfl
  | cons a r ih =>
    rw [List.filter_cons, List.all_cons]
    cases h : g a with
    | true => simpa [h] using ih
    | false => simp
end Tk

set_option Elab.async false
set_option linter.all false
set_option maxRecDepth 100000
set_option maxHeartbeats 4000000
namespace Tk
open PySem PySem.Spec PyProof.Rows L2
/-- a comprehension over a range whose element draws -/
theorem lc_drawn {n s : Nat} {p : Addr} {te : TE} {σ : L2.St} {H1 : Hp} {Qd : VK} (hp : PoolAt H1 p) (hn : n ≤ 100000) (Pv : V → Prop)
    (he : ∀ (i : Nat) (H2 : Hp) (R : VK), i < n → PoolAt H2 p → Drawn p H1 H2 → (∀ v H3, Pv v → Drawn p H2 H3 → R v H3) → te (σ.set s (some (.int (0 + (i : Int))))) H2 R)
    (hd : ∀ (D : Addr) (H' : Hp) (ys : List V), H1 D = none → Drawn p H1 H' → ys.length = n → (∀ y ∈ ys, Pv y) → H' D = some (.lst ys) → Qd (.ref D) H') :
    LcG (Itr 0 n) (gName s) tYes te [s] σ H1 Qd := by
  intro D hD
  have nD : D ≠ p := by
    obtain ⟨a, b, e, _⟩ := hp
    exact (ne_of_none e hD).symm
  refine lc_range (Qd := fun H' => Qd (.ref D) H') (lo := 0) (n := n) (fun i H' => Drawn p H1 H' ∧ ∃ ys : List V, ys.length = i ∧ (∀ y ∈ ys, Pv y) ∧ H' D = some (.lst ys)) ⟨Drawn.of hp (Same.new hD), [], rfl, (fun _ h => by cases h), upd_same⟩ ?_ (fun H' ⟨d, ys, e1, e2, e3⟩ => hd D H' ys hD d e1 e2 e3)
  rintro i H2 hi ⟨d2, ys, e1, e2, e3⟩
  show wipe ((wipe σ [s]).set s (some (V.int (0 + (i : Int))))) [s] = wipe σ [s] ∧ _
  refine ⟨wipe_set σ s _, ?_⟩
  simp only [tYes, reduceIte, wipe_slot]
  refine he i H2 _ hi d2.pool d2 fun v H3 hv d3 => ?_
  have e4 := d3.kept _ _ e3 nD
  refine ⟨ys, e4, sz_lt (by omega), ?_⟩
  have d5 : Drawn p H1 H3 := d2.trans d3
  refine ⟨⟨fun b o h n => by rw [upd_ne (ne_of_none h hD)]; exact d5.kept b o h n, ?_⟩, ys ++ [v], by simp [e1], fun y hy => ?_, upd_same⟩
  · obtain ⟨a, b, e, r⟩ := d5.pool
    exact ⟨a, b, by rw [upd_ne nD.symm]; exact e, r⟩
  · rcases List.mem_append.mp hy with h | h
    · exact e2 y h
    · rw [List.mem_singleton.mp h]; exact hv
theorem strs_of {n : Nat} : ∀ {ys : List V}, (∀ y ∈ ys, ∃ x : Str, y = .str x ∧ x.length ≤ n) → ∃ zs : List Str, ys = zs.map V.str ∧ ∀ z ∈ zs, z.length ≤ n
  | [], _ => ⟨[], rfl, fun _ h => by cases h⟩
  | y :: ys, h => by
    obtain ⟨x, rfl, hx⟩ := h y List.mem_cons_self
    obtain ⟨zs, rfl, hz⟩ := strs_of (ys := ys) fun z hz => h z (List.mem_cons_of_mem _ hz)
    exact ⟨x :: zs, rfl, fun z hz' => by
      rcases List.mem_cons.mp hz' with rfl | h
      · exact hx
      · exact hz z h⟩
theorem sum_le {n : Nat} : ∀ {zs : List Str}, (∀ z ∈ zs, z.length ≤ n) → (zs.map (·.length)).sum ≤ zs.length * n
  | [], _ => by simp
  | z :: zs, h => by
    have h1 := h z List.mem_cons_self
    have h2 := sum_le (zs := zs) fun y hy => h y (List.mem_cons_of_mem _ hy)
    rw [List.map_cons, List.sum_cons, List.length_cons, Nat.succ_mul]
    omega
theorem join_len (sep : Str) (zs : List Str) : (Txt.join sep zs).length = (zs.map (·.length)).sum + (zs.length - 1) * sep.length := size_glued sep zs
def rJoin (K : PySem.W.Frag) : V → List V → Hp → VK → Prop := fun x xs H Q => ∃ a p, ∃ ys : List Str, x = V.str a ∧ xs = [V.ref p] ∧ (SqL K H p (ys.map V.str) ∨ SqT K H p (ys.map V.str)) ∧ (ys.map (·.length)).sum + ys.length * a.length ≤ 16777216 ∧ Q (.str (Txt.join a ys)) H
theorem pe_joinK {X : Cx} {o e : Expr} {to te : TE} {apos pos : Pos} (ho : PE X o to) (he : PE X e te) (hs : starEach [e] X.env = [(false, eval e X.env)] := by rfl) (hbase : attributeBase o "join" X.env (eval o X.env) = eval o X.env := by rfl) (hline : (apos.endLine == pos.line) = true := by rfl) :
    PE X (.Call (.Attribute o "join" apos) [e] [] pos) (tM1 (rJoin X.K) to te) := pe_join ho he hs hbase hline
theorem r_m1 {r : V → List V → Hp → VK → Prop} {to te : TE} {σ : L2.St} {H : Hp} {Q : VK} (h : to σ H fun x H1 => (∃ a, x = .str a) ∧ te σ H1 fun y H2 => r x [y] H2 Q) : tM1 r to te σ H Q := h
theorem r_join {K : PySem.W.Frag} {p : Addr} {zs : List Str} {sep : Str} {H : Hp} {Q : VK} (h : H p = some (.lst (zs.map V.str))) (hz : (zs.map (·.length)).sum + zs.length * sep.length ≤ 16777216) (q : Q (.str (Txt.join sep zs)) H) : rJoin K (.str sep) [.ref p] H Q :=
  ⟨sep, p, zs, rfl, rfl, .inl (SqL.of h), hz, q⟩
/-! ### the rules with the written part said by its letter -/
section
variable {X : Cx} {K : PySem.W.Frag}
theorem k_ix (e : X.K = K := by rfl) : IxR X (rIx K) := by subst e; exact ix_seq
theorem k_add (e : X.K = K := by rfl) : OpR X (binaryOp .Add) (GAdd K) := by subst e; exact o_add
theorem k_eq (hu : X.A.units + 64 < cLine) (e : X.K = K := by rfl) : OpR X (compareOp .Eq) (GEq K) := by subst e; exact o_eq hu
theorem k_ne (hu : X.A.units + 64 < cLine) (e : X.K = K := by rfl) : OpR X (compareOp .NotEq) (GNe K) := by subst e; exact o_ne hu
theorem k_isi (e : X.K = K := by rfl) : CallR X (.builtin "isinstance") (rIsi K) := by subst e; exact call_isi
theorem k_len (e : X.K = K := by rfl) : CallR X (.builtin "len") (rLen K) := by subst e; exact c_len
theorem k_all (hc : X.calm = true) (e : X.K = K := by rfl) : CallR X (.builtin "all") (rAll K) := by subst e; exact cr_all hc
theorem k_any (hc : X.calm = true) (e : X.K = K := by rfl) : CallR X (.builtin "any") (rAny K) := by subst e; exact cr_any hc
theorem k_listOf (e : X.K = K := by rfl) : CallR X (.type "list") (rListOf K) := by subst e; exact c_listOf
def GSlice (K : PySem.W.Frag) : V → Option Int → Option Int → Hp → VK → Prop := fun x lo hi H Q => rSlL K x lo hi H Q ∨ (rSlS x lo hi H Q ∨ rSlA K x lo hi H Q)
theorem k_slice (e : X.K = K := by rfl) : SlR X (GSlice K) := by subst e; exact o_slice
theorem r_sl {r : V → Option Int → Option Int → Hp → VK → Prop} {te : TE} {tl th : TO} {σ : L2.St} {H : Hp} {Q : VK} (h : te σ H fun x H1 => tl σ H1 fun lo H2 => th σ H2 fun hi H3 => r x lo hi H3 Q) : tSl r te tl th σ H Q := h
theorem r_un {r : V → Hp → VK → Prop} {te : TE} {σ : L2.St} {H : Hp} {Q : VK} (h : te σ H fun x H1 => r x H1 Q) : tUn r te σ H Q := h
theorem r_U {g : Int → V} {i : Int} {H : Hp} {Q : VK} (q : Q (g i) H) : rU g (.int i) H Q := ⟨i, rfl, q⟩
theorem g_listOfT {p : Addr} {xs : List V} {H : Hp} {Q : VK} (h : H p = some (.tup xs)) (q : ∀ l H2, H l = none → Same H H2 → H2 l = some (.lst xs) → Q (.ref l) H2) : rListOf K [.ref p] H Q := r_listOfT h fun l hl => q l _ hl (Same.new hl) upd_same
theorem r_noPart {σ : L2.St} {H : Hp} {R : Option Int → Hp → Prop} (h : R none H) : tNoPart σ H R := h
theorem r_part {te : TE} {σ : L2.St} {H : Hp} {R : Option Int → Hp → Prop} (h : te σ H fun x H1 => ∃ i, x = .int i ∧ R (some i) H1) : tPart te σ H R := h
theorem r_inti {i : Int} {P : Int → Prop} (q : P i) : ∃ j, V.int i = V.int j ∧ P j := ⟨i, rfl, q⟩
theorem g_slS {x : Str} {lo hi : Option Int} {H : Hp} {Q : VK} (hx : x.length ≤ 100000) (q : Q (.str (cutS x lo hi)) H) : GSlice K (.str x) lo hi H Q := .inr (.inl ⟨x, rfl, sz_of hx, q⟩)
theorem g_slT {a : Addr} {xs : List V} {n : Nat} {lo hi : Option Int} {H : Hp} {Q : VK} (h : H a = some (.tup xs)) (hn : xs.length = n) (hw : ¬ (HT.sIx n 0 lo = 0 ∧ HT.sIx n n hi = n)) (q : ∀ p H2, H p = none → Same H H2 → H2 p = some (.tup (cutV xs lo hi)) → Q (.ref p) H2) : GSlice K (.ref a) lo hi H Q := by
  subst hn
  exact .inr (.inr ⟨a, xs, rfl, SqT.of h, fun w => absurd w hw, fun _ p hp => q p _ hp (Same.new hp) upd_same⟩)
theorem cutS_len (z : Str) (lo hi : Option Int) : (cutS z lo hi).length ≤ z.length := by
  unfold cutS
  show (List.toArray _).size ≤ z.cps.size
  rw [List.size_toArray, List.length_take, List.length_drop, Array.length_toList]
  omega
theorem k_list {tg l : Expr} {tl : TE} (hl : PE X l tl) (e : X.K = K := by rfl) : PI X tg l (iList K tl) := by subst e; exact pi_list hl
theorem k_tup {tg l : Expr} {tl : TE} (hl : PE X l tl) (e : X.K = K := by rfl) : PI X tg l (iTup K tl) := by subst e; exact pi_tup hl
theorem k_gtup {es : List Expr} {k : Nat} {pos : Pos} {t : TGs} {n : Nat} (hc : X.calm = true) (h : PGs X es t) (e : X.K = K := by rfl) (hn : (assignEach es X.env).length = n := by rfl) (hst : (assignEach es X.env).findIdx? (·.1) = none := by rfl) : PG X (.Tuple es k pos) (gTup K n t) := by subst e; exact pg_tup hc h hn hst
theorem k_joinK {o e' : Expr} {to te : TE} {apos pos : Pos} (ho : PE X o to) (he : PE X e' te) (e : X.K = K := by rfl) (hs : starEach [e'] X.env = [(false, eval e' X.env)] := by rfl) (hbase : attributeBase o "join" X.env (eval o X.env) = eval o X.env := by rfl) (hline : (apos.endLine == pos.line) = true := by rfl) :
    PE X (.Call (.Attribute o "join" apos) [e'] [] pos) (tM1 (rJoin K) to te) := by subst e; exact pe_joinK ho he hs hbase hline
end
def spDraw (Pv : V → Prop) : Sp := fun vs H Q _ => ∃ (p : Addr), vs = [.ref p] ∧ PoolAt H p ∧ ∀ v H', Pv v → Drawn p H H' → Q v H'
theorem spDraw_len {Pv : V → Prop} {vs : List V} {H : Hp} {Q : VK} {E : XK} (h : spDraw Pv vs H Q E) : vs.length = 1 := by
  obtain ⟨p, rfl, _⟩ := h
  rfl
theorem r_draw {Pv : V → Prop} {p : Addr} {H : Hp} {Q : VK} {E : XK} (h : PoolAt H p) (q : ∀ v H', Pv v → Drawn p H H' → Q v H') : spDraw Pv ([.ref p] ++ []) H Q E := ⟨p, rfl, h, q⟩
/-- a text of at most n signs -/
def TextV (n : Nat) (v : V) : Prop := ∃ x : Str, v = .str x ∧ x.length ≤ n
theorem turns_of (m l : Nat) (hm : 1 ≤ m) : ∃ n : Nat, (if (if (m : Int) < (l : Int) then (m : Int) else (l : Int)) > 1 then (if (m : Int) < (l : Int) then (m : Int) else (l : Int)) else 1) = (n : Int) ∧ n ≤ m := by
  by_cases h : (m : Int) < (l : Int)
  · rw [if_pos h]
    by_cases h2 : (m : Int) > 1
    · exact ⟨m, if_pos h2, Nat.le_refl _⟩
    · exact ⟨1, if_neg h2, hm⟩
  · rw [if_neg h]
    by_cases h2 : (l : Int) > 1
    · exact ⟨l, if_pos h2, by omega⟩
    · exact ⟨1, if_neg h2, hm⟩
theorem r_pool {K : PySem.W.Frag} {s : Addr} {ns : List Int} {k : Int} {H : Hp} {Q : VK} {E : XK} (h : SqL K H s (ns.map V.int)) (hl : ns.length ≤ 63) (h0 : 0 ≤ k) (h1 : k < 64) (q : ∀ p H', H p = none → Same H H' → PoolAt H' p → Q (.ref p) H') : spPool K ([.ref s, .int k] ++ []) H Q E :=
  ⟨s, ns, k, rfl, h, hl, h0, h1, q⟩
/-- the law's own promise -/
def spLaw (K : PySem.W.Frag) : Sp := fun vs H Q _ => ∃ (a : Addr) (ns : List Int), vs = [.ref a] ∧ SqL K H a (ns.map V.int) ∧ ns.length ≤ 63 ∧ ∀ H', Q (.bl true) H'
theorem spLaw_len {K : PySem.W.Frag} {vs : List V} {H : Hp} {Q : VK} {E : XK} (h : spLaw K vs H Q E) : vs.length = 1 := by
  obtain ⟨a, ns, rfl, _⟩ := h
  rfl
theorem ev_use {K : PySem.W.Frag} {te : TE} {σ : L2.St} {d : PyData} {H : Hp} {Q : VK} (h : EvD K te σ d) (q : ∀ v H', Same H H' → Dd K H' v d → Q v H') : te σ H Q := h H Q q
theorem g_cat {K : PySem.W.Frag} {v w : V} {ds es : List PyData} {H : Hp} {Q : VK} (h1 : Dd K H v (.list ds)) (h2 : Dd K H w (.list es)) (hl : ds.length + es.length ≤ 100000) (q : ∀ v' H2, Same H H2 → Dd K H2 v' (.list (ds ++ es)) → Q v' H2) : GAdd K v w H Q := by
  cases h1 with
  | lst e1 a1 =>
    cases h2 with
    | lst e2 a2 =>
      exact .inr (.inr (.inl ⟨_, _, _, _, rfl, rfl, e1, e2, sz_of (by rw [a1.length, a2.length]; exact hl), fun p hp => q _ _ (Same.new hp) (.lst upd_same (DdAll.same (Same.new hp) _ _ (a1.append a2)))⟩))
/-- a comprehension over a list of data whose tests all fail -/
theorem lc_none {K : PySem.W.Frag} {T : Addr} {xs : List V} {ds : List PyData} {s : Nat} {tt : TT} {te : TE} {σ : L2.St} {H : Hp} {Q : VK} (e : H T = some (.lst xs)) (al : DdAll K H xs ds) (ok : okAll ds) (hl : ds.length ≤ 100000)
    (ht : ∀ v d, Dd K H v d → okD d → ∀ (H2 : Hp) (R : Bool → Hp → Prop), Same H H2 → (∀ H3, Same H2 H3 → R false H3) → tt (σ.set s (some v)) H2 R)
    (hd : ∀ (D : Addr) (H' : Hp), H D = none → Same H H' → H' D = some (.lst []) → Q (.ref D) H') : LcG (Itl K T) (gName s) tt te [s] σ H Q := by
  refine lc_pure walk_list (fun H' s' => SqL.of (s' _ _ e)) (by rw [al.length]; exact hl) (fun _ => false) (fun v => v) ?_ (fun _ _ h => nomatch h) ?_
  · intro v hv H2 R s2 q
    obtain ⟨d, hd, od⟩ := al.mem ok hv
    exact ht v d hd od H2 R s2 q
  · intro D H' h0 s' e'
    refine hd D H' h0 s' ?_
    rw [e']
    have z : xs.filter (fun _ => false) = [] := List.filter_eq_nil_iff.mpr (fun _ _ h => nomatch h)
    rw [z]
    rfl
/-- a loop over a list of data that only makes new things -/
theorem for_data {K : PySem.W.Frag} {T : Addr} {xs : List V} {g : TG} {tb : TS} {D : Ends} {σ : L2.St} {H : Hp} (e : H T = some (.lst xs)) (Sl : L2.St → Prop) (h0 : Sl σ)
    (hs : ∀ v ∈ xs, ∀ (σ : L2.St) (H2 : Hp), Sl σ → Same H H2 → g v σ H2 fun σ2 H3 => tb { D with nx := fun σ' H' => Sl σ' ∧ Same H H', ct := fun σ' H' => Sl σ' ∧ Same H H', bk := D.nx } σ2 H3) (hd : ∀ σ H', Sl σ → Same H H' → D.nx σ H') :
    ForG (Itl K T) g tb D σ H := by
  refine for_it walk_list (fun _ σ H' => Sl σ ∧ Same H H') ⟨h0, Same.refl H⟩ (fun i σ H' _ p => SqL.of (p.2 _ _ e)) ?_ (fun σ H' p => hd σ H' p.1 p.2)
  rintro i x σ H2 H2' hi ⟨p1, p2⟩ ⟨rfl, hx⟩
  exact hs x (List.mem_of_getElem? hx) σ _ p1 p2
end Tk

set_option Elab.async false
set_option linter.all false
set_option maxRecDepth 100000
set_option maxHeartbeats 4000000
/-! defs as they are called where no repr runs around them: a promise that may lean on it (repr of lists and tuples asks it) -/
namespace Tk
open PySem PySem.Spec PyProof.Rows L2
structure FnG (P : Program) (w : World) (K : PySem.W.Frag) (mg : Str → Option Value) (base : Heap) (CX : CXT) (k : Nat) (f : Addr) (fd : FuncData) (ps : List Str) (sp : Sp) : Prop where
  arity : ∀ zs H Q E, sp zs H Q E → zs.length = ps.length
  go : ∀ (B : Around) (outs : List Env) (t : Shared) (H : Hp) (ar : Args) (us : List Value) (zs : List V) (Q : VK) (E : XK), B.guards = some [] → Room k B → Env0 P w K mg base B outs t H →
    BindsTo t fd ar (ps.zip us) → Vals zs us → sp zs H Q E → codeAny (model P w) B (.call (.ref f) ar) (CR CX outs P w H t Q E) t
section
variable {P : Program} {w : World} {K : PySem.W.Frag} {mg : Str → Option Value} {base : Heap} {CX : CXT} {j k : Nat} {f : Addr} {fd : FuncData} {ps : List Str} {sp : Sp}
theorem FnG.of (F : FnOk P w K mg base CX k f fd ps sp) : FnG P w K mg base CX k f fd ps sp :=
  ⟨F.len, fun B outs t H ar us zs Q E _ rm => F.run B outs t H ar us zs Q E rm⟩
theorem FnG.mono (F : FnG P w K mg base CX j f fd ps sp) (h : j ≤ k) : FnG P w K mg base CX k f fd ps sp :=
  ⟨F.arity, fun B outs t H ar us zs Q E gd rm => F.go B outs t H ar us zs Q E gd (rm.mono h)⟩
end
structure CalG (P : Program) (w : World) (K : PySem.W.Frag) (mg : Str → Option Value) (base : Heap) (CX : CXT) (k : Nat) (x : Str) (ps : List Str) (sp : Sp) : Prop where
  ex : ∃ (f : Addr) (fd : FuncData), mg x = some (.ref f) ∧ PySem.W.keepIn K (.ref f) = true ∧ Binds K fd ps [] ∧ FnG P w K mg base CX k f fd ps sp
section
variable {P : Program} {w : World} {K : PySem.W.Frag} {mg : Str → Option Value} {base : Heap} {CX : CXT} {j k : Nat} {x : Str} {ps : List Str} {sp : Sp}
theorem CalG.mono (C : CalG P w K mg base CX j x ps sp) (h : j ≤ k) : CalG P w K mg base CX k x ps sp := by
  obtain ⟨f, fd, m1, m2, m3, F⟩ := C.ex
  exact ⟨f, fd, m1, m2, m3, F.mono h⟩
theorem Cal.toG (C : Cal P w K mg base CX k x ps sp) : CalG P w K mg base CX k x ps sp := by
  obtain ⟨f, fd, m1, m2, m3, F⟩ := C.ex
  exact ⟨f, fd, m1, m2, m3, FnG.of F⟩
theorem CalG.of {f : Addr} {fd : FuncData} (m1 : mg x = some (.ref f)) (m2 : PySem.W.keepIn K (.ref f) = true) (m3 : Binds K fd ps []) (F : FnG P w K mg base CX k f fd ps sp) : CalG P w K mg base CX k x ps sp := ⟨f, fd, m1, m2, m3, F⟩
end
/-! ### calls -/
section
variable {X : Cx} {CX : CXT} {k : Nat} {f : Addr} {fd : FuncData} {ps : List Str} {sp : Sp} {E : XK} {x : Str} {p pos : Pos} {e : Expr} {es : List Expr} {t : TA}
theorem goG {pn : List (Addr × Obj)} {σ : L2.St} {H : Hp} {s : Shared} {Q : VK} {us : List Value} {zs : List V} (F : FnG X.prog X.w X.K X.mg X.base CX k f fd ps sp) (gd : X.A.guards = some []) (rm : Room k X.A) (bd : Binds X.K fd ps []) (hE : ∀ u s', Inv X pn σ H s → CX X.stack H s E u s' → X.xe u s')
    (I : Inv X pn σ H s) (rv : Vals zs us) (q : sp zs H Q E) : wpAny (model X.prog X.w) X.A (call (.ref f) us) (EP X pn σ Q) X.xe s := by
  have ar : us.length = ps.length := rv.length.symm.trans (F.arity _ _ _ _ q)
  have b := bd s us I.kIn (by rw [List.append_nil]; exact ar)
  rw [List.append_nil] at b
  refine wpAny_call (codeAny_mono (F.go X.A X.stack s H ⟨us, []⟩ us zs Q E gd rm I.env0 b rv q) ?_)
  rintro (e' | fl) s' hq
  · exact hE _ s' I hq
  · rcases fl with _ | _ | _ | u
    all_goals first | exact I.after hq | exact hq.elim
theorem pe_calg (C : CalG X.prog X.w X.K X.mg X.base CX k x ps sp) (gd : X.A.guards = some []) (rm : Room k X.A) (hx : Passes CX X E) (ha : PA X (e :: es) t) (hg : Gl X x := by rfl)
    (hdb : (x == ("__debug__" : Str)) = false := by decide) (he : starEach (e :: es) X.env = (false, eval e X.env) :: starEach es X.env := by rfl) (hpl : (backTo pos (starEach es X.env)).any (·.1) = false := by rfl) :
    PE X (.Call (.Name x p) (e :: es) [] pos) (tCall sp [] E t) := by
  obtain ⟨f, fd, m1, m2, m3, F⟩ := C.ex
  constructor
  intro pn s σ H Q I h
  refine wpAny_Call_Name_kw (ld_glob I hg m1 ?_ hdb)
  refine PySem.W.callWith_K (h₀ := X.base) I.ok.mod.kin m2 (thn (ha.run pos pn s σ H _ I h) ?_) he hpl
  rintro us s1 ⟨zs, H1, I1, rv, q⟩
  refine ⟨I1.kIn, goG F gd rm m3 (fun u s' I c => hx pn σ H1 s1 u s' I c) I1 rv ?_⟩
  rw [List.append_nil] at q
  exact q
end
/-! ### a def's body -/
section
variable {P : Program} {w : World} {K : PySem.W.Frag} {mg : Str → Option Value} {base : Heap} {CX : CXT} {k : Nat} {f : Addr} {N ps : List Str} {sp : Sp} {nm qn : Str} {prm : Arguments} {bd : List Stmt} {sco : Scope} {u1 u2 u3 u4 u5 u6 u7 : Value} {an od : Option Addr} {osl : Array (Option Value)}
theorem fnG_of (at_f : K.lookup f = some ⟨u7, od, .func (PySem.W.fnOf nm qn prm bd sco u1 u2 u3 u4 an u5 u6), osl⟩) (cd : PySem.W.codeIn K u5 qn = true) (S : FnScope N ps sco) (ary : ∀ zs H Q E, sp zs H Q E → zs.length = ps.length)
    (body : ∀ (B : Around) (outs : List Env) (t : Shared) (H : Hp) (zs : List V) (Q : VK) (E : XK), B.guards = some [] → Room k (B.deeper (envOfC qn sco t.heap.objs.size f u5)) → sp zs H Q E →
      ∃ tr, PSs (cxOf CX P w K mg base N qn sco f u5 B outs t H E) bd tr ∧ tr { nx := fun _ H' => Q .non H', rt := Q } (start N zs) H) :
    FnG P w K mg base CX (k + 1) f (PySem.W.fnOf nm qn prm bd sco u1 u2 u3 u4 an u5 u6) ps sp := by
  constructor
  case arity => exact ary
  intro B outs t H ar us zs Q E gd rm e0 bt rv q
  have len := ary _ _ _ _ q
  have up := fun b o e => (e0.bs b o e).1
  have kin : K.In t.heap := e0.mod.kin.keeps up
  have ndl : t.heap.NoLimit := e0.mod.nolimit.keeps up
  have kd : ∀ y ∈ ps.zip us, sco.names.lookup y.1 = some .local ∨ (sco.names.lookup y.1 = some .cell ∧ ((cellsFrom (t.heap.objs.size + 1) sco.names []).lookup y.1).isSome = true) := by
    rintro ⟨a, b⟩ hy
    cases S.par a (List.of_mem_zip hy).1 with
    | inl z => exact .inl z
    | inr z => exact .inr ⟨z, PySem.W.cellsFrom_some _ _ _ (.inl z)⟩
  refine codeAny_call_function rm.depth (kin _ _ at_f) rfl S.co S.gen rfl (PySem.W.codeRec_of kin cd) (bt _ _ _ _ ?_)
  refine wpAny_newFunctionEnv_cells S.kind kd ?_
  intro ff eq t1 xx
  cases eq
  refine ⟨ndl.keeps xx.toInCall.keep, codeAny_func ?_⟩
  obtain ⟨tr, der, rd⟩ := body B outs t H zs Q E gd (rm.deeper _) q
  have I0 := inv_start (CX := CX) (E := E) S rm.hd e0 len rv xx
  refine wpAny_mono (der.run [] t1 (start N zs) H _ I0 rd) ?_ (fun _ _ z => z)
  intro fl t2 hz
  cases fl with
  | next => obtain ⟨σ', H', J, z⟩ := hz; exact ⟨.non, H', J.os, J.bare, J.base, J.hok, rfl, z⟩
  | ret u => obtain ⟨v, σ', H', J, rr, z⟩ := hz; exact ⟨v, H', J.os, J.bare, J.base, J.hok, rr, z⟩
  | brk => obtain ⟨_, _, _, z⟩ := hz; exact z.elim
  | cont => obtain ⟨_, _, _, z⟩ := hz; exact z.elim
theorem funG {x qual : Str} {st : Stmt} {fd : FuncData} (F : Fun K x qual st f fd) (S : FnScope N ps (defScope st)) (ary : ∀ zs H Q E, sp zs H Q E → zs.length = ps.length)
    (body : ∀ (cdv : Value) (B : Around) (outs : List Env) (t : Shared) (H : Hp) (zs : List V) (Q : VK) (E : XK), B.guards = some [] → Room k (B.deeper (envOfC qual (defScope st) t.heap.objs.size f cdv)) → sp zs H Q E →
      ∃ tr, PSs (cxOf CX P w K mg base N qual (defScope st) f cdv B outs t H E) (defBody st) tr ∧ tr { nx := fun _ H' => Q .non H', rt := Q } (start N zs) H) : FnG P w K mg base CX (k + 1) f fd ps sp := by
  obtain ⟨_, _, _, _, _, _, cdv, _, _, rfl, at_f, cd⟩ := F.ex
  exact fnG_of at_f cd S ary fun B outs t H zs Q E gd rm q => body cdv B outs t H zs Q E gd rm q
/-- where no error leaves it -/
theorem funG0 {x qual : Str} {st : Stmt} {fd : FuncData} (F : Fun K x qual st f fd) (S : FnScope N ps (defScope st)) (ary : ∀ zs H Q E, sp zs H Q E → zs.length = ps.length)
    (body : ∀ (cdv : Value) (B : Around) (outs : List Env) (t : Shared) (H : Hp) (zs : List V) (Q : VK) (E : XK), B.guards = some [] → Room k (B.deeper (envOfC qual (defScope st) t.heap.objs.size f cdv)) → sp zs H Q E →
      ∃ tr, PSs (cxOf CX0 P w K mg base N qual (defScope st) f cdv B outs t H E).nox (defBody st) tr ∧ tr { nx := fun _ H' => Q .non H', rt := Q } (start N zs) H) : FnG P w K mg base CX0 (k + 1) f fd ps sp :=
  funG F S ary fun cdv B outs t H zs Q E gd rm q => by
    obtain ⟨tr, d, r⟩ := body cdv B outs t H zs Q E gd rm q
    exact ⟨tr, d.nox, r⟩
end
/-! ### the law's own call -/
section
variable {P : Program} {w : World} {K : PySem.W.Frag} {mg mb : Str → Option Value} {k : Nat} {fa a : Addr} {fd : FuncData} {x : Str} {t : Shared} {vs : List Value} {ns : List Int}
theorem lawG (kin : K.In t.heap) (n1 : t.heap.Ns mainGlobals mg) (n2 : t.heap.Ns builtinsNs mb) (n3 : ∀ y : Str, y ≠ "__name__" → mb y = bootBuiltins y) (ndl : t.heap.NoLimit) (gz : t.gens = #[])
    (obj : t.heap.get? a = some { cls := .type "list", data := .seq vs.toArray }) (are : IntsAre vs ns) (small : ns.length ≤ 63) (rm : Room k callerA)
    (F : ∀ bh : Heap, K.In bh → bh.Ns mainGlobals mg → FnG P w K mg bh CX0 k fa fd [x] (spLaw K)) (bt : ∀ (s : Shared) (u : Value), BindsTo s fd ⟨[u], []⟩ [(x, u)]) :
    codeAny (model P w) callerA (.call (.ref fa) ⟨[.ref a], []⟩) (fun r s' => r = .ok (.ret (.bool true)) ∧ OldK t.heap s'.heap ∧ s'.os = t.os ∧ AllBare s'.gens) t := by
  have lens := are.length
  have rel := vals_ints are
  have main : ∀ H : Hp, (∀ b, H b = none ∨ (b = a ∧ H b = some (.frz { cls := .type "list", data := .seq vs.toArray } (.lst (ns.map V.int))))) → (H a ≠ none → K.lookup a = none) → SqL K H a (ns.map V.int) →
      codeAny (model P w) callerA (.call (.ref fa) ⟨[.ref a], []⟩) (fun r s' => r = .ok (.ret (.bool true)) ∧ OldK t.heap s'.heap ∧ s'.os = t.os ∧ AllBare s'.gens) t := by
    intro H form free sq
    have hok : HOk P w H t.heap := by
      intro b u e
      rcases form b with z | ⟨rfl, z⟩
      · rw [z] at e; cases e
      · rw [z] at e
        cases e
        exact ⟨obj, by rw [List.length_map]; exact sz_of (by omega), vs, _, rel, obj⟩
    have hide : ∀ {b : Addr} {o : Obj}, t.heap.get? b = some o → H b = none → (hidT t.heap H).get? b = some o := fun e z => hidT_get e z
    have plain : ∀ {b : Addr} {o : Obj} {es : Array DictEntry} {ep : Nat}, t.heap.get? b = some o → o.data = .dict es ep → H b = none := by
      intro b o es ep e dd
      rcases form b with z | ⟨rfl, _⟩
      · exact z
      · rw [obj] at e
        cases e
        exact nomatch dd
    have names : ∀ {b : Addr} {m : Str → Option Value}, t.heap.Ns b m → (hidT t.heap H).Ns b m := by
      rintro b m ⟨o, es, ep, e, dd, rr⟩
      exact ⟨o, es, ep, hide e (plain e dd), dd, rr⟩
    have kin2 : K.In (hidT t.heap H) := by
      intro b o e
      refine hide (kin b o e) ?_
      rcases form b with z | ⟨rfl, z⟩
      · exact z
      · rw [free (by rw [z]; exact fun q => nomatch q)] at e
        cases e
    obtain ⟨mc, c1, c2⟩ := ndl
    have md : Mod K mg (hidT t.heap H) := ⟨kin2, names n1, ⟨mb, names n2, n3⟩, ⟨mc, names c1, c2⟩⟩
    have e0 : Env0 P w K mg (hidT t.heap H) callerA [] t H :=
      { frames := rfl, mod := md, bs := fun b o e => of_hidT e, bsz := Nat.le_of_eq (hidT_size _ _), funs := trivial, frf := (fun _ hb => nomatch hb), hok := hok, bare := .of_eq gz }
    refine codeAny_mono ((F _ kin2 (names n1)).go callerA [] t H ⟨[.ref a], []⟩ [.ref a] [.ref a] (fun v _ => v = .bl true) (fun _ _ _ => False) rfl rm e0 (bt t (.ref a)) (.cons rfl .nil) ⟨a, ns, rfl, sq, small, fun _ => rfl⟩) ?_
    rintro (e' | fl) s' hz
    · exact False.elim hz
    · rcases fl with _ | _ | _ | u
      · exact False.elim hz
      · exact False.elim hz
      · exact False.elim hz
      · obtain ⟨v, H', h1, h2, h3, h4, h5, h6⟩ := hz
        have h6' : v = .bl true := h6
        subst h6'
        obtain rfl : u = Value.bool true := h5
        refine ⟨rfl, OldK.of_keep ?_, h1, h2⟩
        intro b o e
        rcases form b with z | ⟨rfl, z⟩
        · exact h3.keep b o e z (by intro y; cases y) (by intro y; cases y)
        · obtain ⟨y1, _⟩ := h4 b _ (h3.frzs b _ _ z)
          rw [obj] at e
          cases e
          exact y1
  cases lk : K.lookup a with
  | some o =>
    have e := kin a o lk
    rw [obj] at e
    cases e
    exact main (fun _ => none) (fun _ => .inl rfl) (fun z => absurd rfl z) (.inr ⟨_, vs.toArray, _, lk, rfl, rfl, rfl, by rw [List.size_toArray, lens]; exact sz_of (by omega), by simpa using rel⟩)
  | none =>
    refine main (fun b => if b = a then some (.frz { cls := .type "list", data := .seq vs.toArray } (.lst (ns.map V.int))) else none) ?_ (fun _ => lk) (.inl (.inr ⟨_, if_pos rfl⟩))
    intro b
    by_cases z : b = a
    · exact .inr ⟨z, if_pos z⟩
    · exact .inl (if_neg z)
end
theorem walkG {l : PySem.W.OpenLaw} {k : Nat} {q : Program} {loose : List Str} {XP : (Str → Option Value) → Heap → Prop} {YP : World → Heap → Prop} {d : DefRec} {K : Params → PySem.W.Frag} {x : Str} (hn : l.most = some 63) (hdf : d.params.defaults = []) (rm : Room k callerA)
    (hY : ∀ (w : World) (h : Heap), YP w h → (K w.params).In h)
    (F : ∀ (w : World) (mg : Str → Option Value) (fa : Addr) (h : Heap), (K w.params).In h → h.Ns mainGlobals mg → mg d.name = some (.ref fa) →
      ∃ fd : FuncData, (∀ (s : Shared) (u : Value), BindsTo s fd ⟨[u], []⟩ [(x, u)]) ∧ ∀ bh : Heap, (K w.params).In bh → bh.Ns mainGlobals mg → FnG l.prog w (K w.params) mg bh CX0 k fa fd [x] (spLaw (K w.params))) :
    PySem.W.WalkO q loose XP YP l.row.toRowW d [] (fun f vs => PySem.call f vs) := by
  refine Att.attach_call hn hdf ?_
  intro w s₀ t mg mb fa o pm cd doc a vs ns G Y ho hd hcd hmg obj are small gz
  have kin := hY w _ Y
  obtain ⟨fd, bt, FF⟩ := F w mg fa _ kin G.T.g hmg
  exact lawG kin G.T.g G.T.b G.T.builtins G.T.nolimit gz obj are small rm FF bt
end Tk

set_option Elab.async false
set_option linter.all false
set_option maxRecDepth 100000
set_option maxHeartbeats 4000000
/-! repr of data; errors of own classes that store their argument as value -/
namespace Tk
open PySem PySem.Spec PyProof.Rows L2
section
variable {X : Cx} {pn : List (Addr × Obj)} {σ : L2.St} {H : Hp} {s : Shared}
mutual
theorem Dd.reads (I : Inv X pn σ H s) : ∀ (d : PyData) (v : V) (u : Value), Dd X.K H v d → RelV v u → ∃ as, Reads s.heap u d as
  | .none, _, _, h, r => by
    cases h; cases r
    exact ⟨_, Reads.none⟩
  | .bool b, _, _, h, r => by
    cases h; cases r
    exact ⟨_, Reads.bool b⟩
  | .int i, _, _, h, r => by
    cases h
    obtain ⟨t, rfl⟩ := r
    exact ⟨_, Reads.int i t⟩
  | .str x, _, _, h, r => by
    cases h
    obtain ⟨t, rfl⟩ := r
    exact ⟨_, Reads.str x t⟩
  | .list ds, _, _, h, r => by
    cases h with
    | lst e al =>
      cases r
      obtain ⟨its, rv, ⟨o, n, ho, hc, _, hd⟩, _⟩ := I.list (SqL.of e)
      obtain ⟨as, q⟩ := DdAll.reads I ds _ its al rv
      exact ⟨_, Reads.list ho hc hd q⟩
  | .tuple ds, _, _, h, r => by
    cases h with
    | tup e al =>
      cases r
      obtain ⟨its, rv, ⟨o, ho, hc, n, hd⟩, _⟩ := I.tuple (SqT.of e)
      obtain ⟨as, q⟩ := DdAll.reads I ds _ its al rv
      exact ⟨_, Reads.tuple ho hc hd q⟩
  | .dict kvs, _, _, h, r => by
    cases h with
    | dct e =>
      cases r
      obtain ⟨_, _, vs, kv, o, es, ep, h1, h2, h3, h4, h5, h6⟩ := (show ObjOk X.prog X.w H s.heap _ (.dK []) from I.hok _ _ e)
      cases kv
      have z : es.toList = [] := by
        generalize es.toList = l at h5
        cases h5
        rfl
      exact ⟨_, Reads.dict (as := []) (bs := []) h1 h2.1 h3 (by rw [z]; exact .nil) (by rw [z]; exact .nil)⟩
theorem DdAll.reads (I : Inv X pn σ H s) : ∀ (ds : List PyData) (vs : List V) (us : List Value), DdAll X.K H vs ds → Vals vs us → ∃ as, ReadsAll s.heap us ds as
  | [], _, _, h, r => by
    cases h; cases r
    exact ⟨_, ReadsAll.nil⟩
  | d :: ds, _, _, h, r => by
    cases h with
    | cons h1 h2 =>
      cases r with
      | cons r1 r2 =>
        obtain ⟨as, q1⟩ := Dd.reads I d _ _ h1 r1
        obtain ⟨bs, q2⟩ := DdAll.reads I ds _ _ h2 r2
        exact ⟨_, ReadsAll.cons q1 q2⟩
end
end
/-- what repr is asked of -/
structure Shows (d : PyData) : Prop where
  form : d.hasDict = false ∨ d = .dict []
  show_ : d.showable = true
  len : d.shown.length ≤ 1000000
  deep : d.depth ≤ 60
def rReprD (K : PySem.W.Frag) : List V → Hp → VK → Prop := fun xs H Q => ∃ v d, xs = [v] ∧ Dd K H v d ∧ Shows d ∧ Q (.str d.shown) H
theorem r_reprD {K : PySem.W.Frag} {v : V} {d : PyData} {H : Hp} {Q : VK} (h : Dd K H v d) (S : Shows d) (q : Q (.str d.shown) H) : rReprD K [v] H Q := ⟨v, d, rfl, h, S, q⟩
theorem call_reprD {X : Cx} {K : PySem.W.Frag} (gd : X.A.guards = some []) (hu : X.A.units + 64 < cLine) (e : X.K = K := by rfl) : CallR X (.builtin "repr") (rReprD K) := by
  subst e
  intro pn s σ H xs us Q I r h
  obtain ⟨v, d, rfl, hd, S, q⟩ := h
  obtain ⟨u, rfl, ru⟩ := vals1 r
  have hl : d.shown.length ≤ sizeLine := Nat.le_trans S.len (by decide)
  obtain ⟨as, rd⟩ := Dd.reads I d v u hd ru
  have dp := S.deep
  have fin : ∀ a : Addr, Reads s.heap (.ref a) d as → (d.hasDict = true → sysModules ∉ as) → wpAny (model X.prog X.w) X.A (call (.builtin "repr") [.ref a]) (EP X pn σ Q) X.xe s := fun a rd hs =>
    repr_of_reads' rd S.show_ hs gd (by omega) (fun _ _ z => z) (fun h' t tk k => ⟨.str d.shown, H, I.kept (t' := tk) k, ⟨t, rfl⟩, q⟩) hl
  cases hd with
  | non => cases ru; exact PySem.P.repr_of_none ⟨.str _, H, I.tok _, ⟨_, rfl⟩, q⟩
  | bl b =>
    cases ru
    have q' : Q (.str (if b then "True" else "False")) H := q
    exact PySem.P.repr_of_bool ⟨.str _, H, I.tok _, ⟨_, rfl⟩, q'⟩
  | int i =>
    obtain ⟨t, rfl⟩ := ru
    exact PySem.P.repr_of_int (by simpa [PyData.showable] using S.show_) ⟨.str _, H, I.tok _, ⟨_, rfl⟩, q⟩
  | str x =>
    obtain ⟨t, rfl⟩ := ru
    exact PySem.P.repr_of_str ⟨.str _, H, I.tok _, ⟨_, rfl⟩, q⟩ hl
  | lst e al =>
    cases ru
    exact fin _ rd (PyData.noDict_hsm (S.form.resolve_right fun z => nomatch z))
  | tup e al =>
    cases ru
    exact fin _ rd (PyData.noDict_hsm (S.form.resolve_right fun z => nomatch z))
  | dct e =>
    cases ru
    obtain ⟨_, ns, _⟩ := (show ObjOk X.prog X.w H s.heap _ (.dK []) from I.hok _ _ e)
    cases rd with
    | dict h1 h2 h3 h4 h5 =>
      rename_i es ep as1 bs1
      cases h4' : es.toList with
      | nil =>
        rw [h4'] at h4 h5
        cases h4; cases h5
        refine fin _ (.dict h1 h2 h3 (by rw [h4']; exact .nil) (by rw [h4']; exact .nil)) fun _ m => ?_
        rcases List.mem_cons.mp m with z | z
        · rw [← z] at ns; simp at ns
        · cases z
      | cons y ys => rw [h4'] at h4; cases h4
/-! ### own errors with one argument, kept as value -/
structure ExcCls (K : PySem.W.Frag) (mg : Str → Option Value) (x : Str) (C fI : Addr) : Prop where
  gC : mg x = some (.ref C)
  T : OexC K C
  nv : PySem.W.findIn K (.ref C) "value" = some none
  iC : PySem.W.findIn K (.ref C) "__init__" = some (some (.ref fI))
  tI : PySem.W.typeIn K (.ref fI) = some (.type "function")
  xf : XfC K C
  te : PySem.W.exmOne K (.ref C) (.ref C) = some true
theorem exm_own {K : PySem.W.Frag} {C : Addr} (a : PySem.W.subIn K (.ref C) (.type "BaseException") = some true) (b : PySem.W.isClsIn K C = true) (c : PySem.W.typeIn K (.ref C) = some (.type "type")) (d : PySem.W.subIn K (.ref C) (.ref C) = some true) : PySem.W.exmOne K (.ref C) (.ref C) = some true := by
  have b' : (PySem.W.clsIn K C).isSome = true := b
  unfold PySem.W.exmOne PySem.W.kitCls
  simp [a, b', c, d]
abbrev valF (v : V) : List (Str × V) := [(("value" : Str), v)]
def spIni (K : PySem.W.Frag) (C : Addr) : Sp := fun vs H Q _ => ∃ (a : Addr) (v : V), vs = [.ref a, v] ∧ H a = some (exo a C none) ∧ ∀ dx, H dx = none → dx ≠ a → Q .non (upd (upd H dx (exd dx (valF v))) a (exo a C (some dx)))
structure ExcR (P : Program) (w : World) (K : PySem.W.Frag) (mg : Str → Option Value) (base : Heap) (x : Str) (C : Addr) : Prop where
  cls : ∃ (fI : Addr) (fd : FuncData), ExcCls K mg x C fI ∧ Binds K fd ["self", "value"] [] ∧ FnOk P w K mg base CX0 1 fI fd ["self", "value"] (spIni K C)
theorem ok_ini {P : Program} {w : World} {K : PySem.W.Frag} {mg : Str → Option Value} {base : Heap} {st : Stmt} {q : Str} {f C : Addr} {fd : FuncData} (F : Fun K "__init__" q st f fd) (sc : FnScope ["self", "value"] ["self", "value"] (defScope st))
    (hb : ∃ p1 p2 p3 p4, defBody st = [.Assign [.Attribute (.Name "self" p1) "value" p2] (.Name "value" p3) p4]) (T : OexC K C) (nv : PySem.W.findIn K (.ref C) "value" = some none) : FnOk P w K mg base CX0 1 f fd ["self", "value"] (spIni K C) := by
  refine F.ok sc (fun vs H Q E h => ?_) (fun cdv A outer s H vs Q E hr h => ?_)
  · obtain ⟨a, v, rfl, _⟩ := h
    rfl
  · obtain ⟨a, v, rfl, ha, k⟩ := h
    obtain ⟨p1, p2, p3, p4, eb⟩ := hb
    rw [eb]
    have v0 : Vis (defScope st) "self" := (sc.par "self" (by simp)).elim Or.inl fun z => Or.inr (Or.inl z)
    have v1 : Vis (defScope st) "value" := (sc.par "value" (by simp)).elim Or.inl fun z => Or.inr (Or.inl z)
    refine ⟨_, pss_one (ps_ost (pv 0 rfl v0) (pv 1 rfl v1)), ?_⟩
    exact ⟨_, rfl, _, rfl, a, C, rfl, T, nv, .inl ⟨ha, fun dx hd hn => k dx hd hn⟩⟩
/-- what is wished where such an error is made -/
def MkG (K : PySem.W.Frag) (C : Addr) (v : V) (H1 : Hp) (R : XK) : Prop := [v].length ≤ 1000 ∧ ∀ a, H1 a = none → spIni K C (.ref a :: ([v] ++ [])) (upd H1 a (exo a C none))
  (fun z H2 => z = .non ∧ ∃ (d : Addr) (fs : List (Str × V)), H2 a = some (exo a C (some d)) ∧ H2 d = some (exd d fs) ∧ H1 d = none ∧ R (.ref C) (some d) (upd (del H2 a) d (.xd fs))) (fun _ _ _ => False)
theorem r_mk {K : PySem.W.Frag} {C : Addr} {v : V} {H : Hp} {R : XK} (q : ∀ d H2, H d = none → Same H H2 → H2 d = some (.xd (valF v)) → R (.ref C) (some d) H2) : MkG K C v H R := by
  refine ⟨by simp, fun a ha => ⟨a, v, rfl, upd_same, fun dx hd hn => ⟨rfl, dx, valF v, upd_same, by rw [upd_ne hn, upd_same], ?_, ?_⟩⟩⟩
  · rw [upd_ne hn] at hd
    exact hd
  · rw [upd_ne hn] at hd
    refine q dx _ hd (fun b o e => ?_) upd_same
    have n1 := ne_of_none e hd
    have n2 := ne_of_none e ha
    rw [upd_ne n1, del_ne n2, upd_ne n2, upd_ne n1, upd_ne n2]
    exact e
def tRaiseV (K : PySem.W.Frag) (C : Addr) (W : WX) (te : TE) : TS := fun _ σ H => te σ H fun v H1 => MkG K C v H1 fun cls d H' => W cls d σ H'
theorem ps_raiseV {X : Cx} {K : PySem.W.Frag} {x : Str} {C : Addr} {W : WX} {e : Expr} {te : TE} {p pos pos2 : Pos} (R : ExcR X.prog X.w K X.mg X.base x C) (tk : Takes X W) (hr : Room 2 X.A) (he : PE X e te) (eK : X.K = K := by rfl) (hc : X.calm = true := by rfl) (hg : Gl X x := by rfl)
    (hdb : (x == ("__debug__" : Str)) = false := by decide) (hs : starEach (e :: []) X.env = (false, eval e X.env) :: starEach [] X.env := by rfl) (hpl : (backTo pos (starEach [] X.env)).any (·.1) = false := by rfl) :
    PS X (.Raise (some (.Call (.Name x p) [e] [] pos)) none pos2) (tRaiseV K C W te) := by
  subst eK
  obtain ⟨fI, fd, c, b, F1⟩ := R.cls
  exact ps_raise hc tk (pmk_oex (p := p) c.T c.iC c.tI F1 hr b .nil pass0 hg c.gC (pa_cons he pa_nil hs) hdb hs hpl)
theorem r_raise {K : PySem.W.Frag} {C : Addr} {W : WX} {te : TE} {D : Ends} {σ : L2.St} {H : Hp} (h : te σ H fun v H1 => MkG K C v H1 fun cls d H' => W cls d σ H') : tRaiseV K C W te D σ H := h
/-! ### isinstance of the caught error, where it is one -/
section
open PySem.W
variable {prog : Program} {w : World} {A : Around} {E : Value → Shared → Prop} {Q : Value → Shared → Prop} {s : Shared} {K : PySem.W.Frag} {x D : Addr} {ox : Obj} {od : Option Obj} {c : Value}
theorem isi_yes (X : K.In s.heap) (I : InstAt s.heap x ox D od) (ht : ∀ h : Heap, K.In h → Looks (model prog w) h (typeOf c) (.type "type")) (hi : ∀ h : Heap, K.In h → Looks (model prog w) h (isType c) true) (hs : subIn K (.ref D) c = some true) (q : Q (.bool true) s) :
    wpAny (model prog w) A (call (.builtin "isinstance") [.ref x, c]) Q E s := by
  refine PyProof.Rows.call_isinstance_of ?_ (fun z => nomatch z)
  unfold Builtin.«isinstance.nested»
  have L0 := I.type (M := model prog w)
  refine wpAny_bind (m := typeOf (.ref x)) (L0.at ?_)
  show wpAny _ _ (if (Value.ref D == c) = true then _ else _) _ _ s
  by_cases he : (Value.ref D == c) = true
  · rw [if_pos he]
    repeat (first | refine wpAny_pure ?_ | refine wpAny_rule ?_ | refine wpAny_bind ?_)
    exact q
  · rw [if_neg he]
    refine wpAny_bind (m := typeOf c) ((ht _ X).at ?_)
    show wpAny _ _ (if (Value.type "type" == Value.type "type") = true then _ else _) _ _ s
    rw [if_pos (by decide)]
    refine wpAny_bind (wpAny_bind (m := isType c) ((hi _ X).at ?_))
    have L9 : Looks (model prog w) s.heap (isInstance (.ref x) c) true := L0.andThen (looks_subIn X hs)
    refine wpAny_bind (m := isInstance (.ref x) c) (L9.at ?_)
    exact wpAny_pure (a := true) (wpAny_pure q)
theorem isType_ref {C : Addr} (hd : hasDictIn K C = true) (h : Heap) (X : K.In h) : Looks (model prog w) h (isType (.ref C)) true := by
  obtain ⟨cd, hc, _⟩ := any_some hd
  unfold clsIn at hc
  split at hc
  · rename_i c' d' cd' sl' ho
    intro A' Q' E' s' k q
    unfold isType
    unfold loadHead
    exact wpAny_bind (wpAny_loadPart (k _ _ (X _ _ ho)) (wpAny_pure q))
  · cases hc
end
/-- isinstance(e, c) is True -/
def rIsE1 (K : PySem.W.Frag) (D a : Addr) (dd : Addr) : List V → Hp → VK → Prop := fun xs H Q => ∃ (c : V) (cv : Value) (fs : List (Str × V)), xs = [.ref a, c] ∧ H dd = some (.xd fs) ∧ (∀ u, RelV c u → u = cv) ∧
  (PySem.W.typeIn K cv = some (.type "type") ∨ typeOf cv = pure (.type "type")) ∧ ((∃ n, cv = .type n) ∨ ∃ C, cv = .ref C ∧ PySem.W.hasDictIn K C = true) ∧ PySem.W.subIn K (.ref D) cv = some true ∧ Q (.bl true) H
theorem call_isE1 {X : Cx} {K : PySem.W.Frag} {a D dd : Addr} {oe : Obj} {pn : List (Addr × Obj)} (hz : Zc (.ref D) (some dd) oe) (hf : ∃ vs, oe.data = .fields vs) (eK : X.K = K := by rfl) : CallR (X.suite a ((a, oe) :: pn)) (.builtin "isinstance") (rIsE1 K D a dd) := by
  subst eK
  intro pins s σ H xs us Q I r h
  obtain ⟨c, cv, fs, rfl, hx, hcv, ht, hk, hs, q⟩ := h
  obtain ⟨u1, u2, rfl, r1, r2⟩ := vals2 r
  cases r1
  obtain rfl := hcv _ r2
  obtain ⟨hget, _⟩ := I.pin (a, oe) (List.mem_append.mpr (.inl List.mem_cons_self))
  obtain ⟨vs, hv⟩ := hf
  obtain ⟨mA, hns, _⟩ := (show ObjOk X.prog X.w H s.heap dd (.xd fs) from I.hok dd _ hx)
  obtain ⟨od, ho, _⟩ := lookIn_ns hns
  have J : PySem.W.InstAt s.heap a oe D (some od) := ⟨hget, hz.1, by unfold PySem.W.notCls; rw [hv] <;> rfl, by rw [hz.2]; exact ho⟩
  refine isi_yes I.kIn J (fun h Xh => ht.elim (fun e => PySem.W.looks_typeIn Xh e) fun e => PySem.W.Looks.of_pure e) ?_ hs ⟨.bl true, H, I, rfl, q⟩
  rcases hk with ⟨n, rfl⟩ | ⟨C, rfl, hd⟩
  · exact fun _ _ => PySem.W.Looks.of_pure rfl
  · exact isType_ref hd
end Tk

set_option Elab.async false
set_option linter.all false
set_option maxRecDepth 100000
set_option maxHeartbeats 4000000
/-! an entry as text: what is written is read back, and nothing else is -/
namespace TkM
open PySem PySem.StrLaws PySem.Builtin.Str SX
open TL (spl par joinL numL)
def esc (v : List Nat) : List Nat := v.flatMap fun c => if c = 92 ∨ c = 34 then [92, c] else [c]
def esc1 (v : List Nat) : List Nat := v.flatMap fun c => if c = 92 then [92, 92] else [c]
theorem esc_cons (c : Nat) (v : List Nat) : esc (c :: v) = (if c = 92 ∨ c = 34 then [92, c] else [c]) ++ esc v := by
  unfold esc
  rw [List.flatMap_cons]
theorem esc1_cons (c : Nat) (v : List Nat) : esc1 (c :: v) = (if c = 92 then [92, 92] else [c]) ++ esc1 v := by
  unfold esc1
  rw [List.flatMap_cons]
theorem repl1 (a : Nat) (z : List Nat) : ∀ l : List Nat, replL [a] z l = l.flatMap fun c => if c = a then z else [c]
  | [] => by rw [replL_nil]; rfl
  | c :: r => by
    rw [List.flatMap_cons]
    by_cases e : c = a
    · subst e
      rw [if_pos rfl, replL_hit (by simp) (by simp), ← repl1 c z r]
      rfl
    · rw [if_neg e, replL_miss (by simp [e]), repl1 a z r]
      rfl
theorem esc_repl (v : List Nat) : replL [34] [92, 34] (replL [92] [92, 92] v) = esc v := by
  rw [repl1, repl1, List.flatMap_assoc]
  unfold esc
  congr 1
  funext c
  by_cases e : c = 92
  · subst e; rfl
  · by_cases e2 : c = 34
    · subst e2; rfl
    · simp [e, e2]
theorem esc_head : ∀ (v : List Nat) (r : List Nat), esc v ≠ 34 :: r
  | [], _ => by intro h; cases h
  | c :: v, r => by
    rw [esc_cons]
    by_cases e : c = 92 ∨ c = 34
    · rw [if_pos e]
      intro h
      injection h with h1 _
      omega
    · rw [if_neg e]
      intro h
      injection h with h1 _
      omega
theorem back1 : ∀ v : List Nat, replL [92, 34] [34] (esc v) = esc1 v
  | [] => replL_nil
  | c :: v => by
    have ih := back1 v
    rw [esc_cons, esc1_cons]
    by_cases e : c = 92
    · subst e
      rw [if_pos (.inl rfl), if_pos rfl]
      show replL [92, 34] [34] (92 :: 92 :: esc v) = 92 :: 92 :: esc1 v
      rw [replL_miss (by simp), replL_miss, ih]
      intro h
      cases ev : esc v with
      | nil => rw [ev] at h; cases h
      | cons d r =>
        rw [ev] at h
        have h2 : [92, d] = [92, 34] := h
        injection h2 with _ h3
        injection h3 with h4 _
        exact esc_head v r (by rw [ev, h4])
    · by_cases e2 : c = 34
      · subst e2
        rw [if_pos (.inr rfl), if_neg e]
        show replL [92, 34] [34] (92 :: 34 :: esc v) = 34 :: esc1 v
        rw [replL_hit (by simp) (by simp)]
        show [34] ++ replL [92, 34] [34] (esc v) = _
        rw [ih]
        rfl
      · rw [if_neg (by omega), if_neg e]
        show replL [92, 34] [34] (c :: esc v) = c :: esc1 v
        rw [replL_miss (by
          intro h
          have h2 : c = 92 := by
            cases ev : esc v with
            | nil => rw [ev] at h; cases h
            | cons d r =>
              rw [ev] at h
              have h2 : [c, d] = [92, 34] := h
              injection h2
          exact e h2), ih]
theorem back2 : ∀ v : List Nat, replL [92, 92] [92] (esc1 v) = v
  | [] => replL_nil
  | c :: v => by
    have ih := back2 v
    rw [esc1_cons]
    by_cases e : c = 92
    · subst e
      rw [if_pos rfl]
      show replL [92, 92] [92] (92 :: 92 :: esc1 v) = _
      rw [replL_hit (by simp) (by simp)]
      show [92] ++ replL [92, 92] [92] (esc1 v) = _
      rw [ih]
      rfl
    · rw [if_neg e]
      show replL [92, 92] [92] (c :: esc1 v) = c :: v
      rw [replL_miss (by
        intro h
        have h2 : c = 92 := by
          cases ev : esc1 v with
          | nil => rw [ev] at h; cases h
          | cons d r =>
            rw [ev] at h
            have h2 : [c, d] = [92, 92] := h
            injection h2
        exact e h2), ih]
theorem esc_back (v : List Nat) : replL [92, 92] [92] (replL [92, 34] [34] (esc v)) = v := by rw [back1, back2]
/-! ### the careful reader of a value -/
def vr : List Nat → List Nat → Option (List Nat)
  | [], found => some found
  | [c], found => if c = 34 ∨ c = 92 then none else some (found ++ [c])
  | c :: d :: r, found => if c = 34 then none else if c = 92 then (if d = 92 ∨ d = 34 then vr r (found ++ [d]) else none) else vr (d :: r) (found ++ [c])
theorem vr_esc : ∀ (v found : List Nat), vr (esc v) found = some (found ++ v)
  | [], found => by
    show some found = some (found ++ [])
    rw [List.append_nil]
  | c :: v, found => by
    have ih := vr_esc v (found ++ [c])
    rw [List.append_assoc] at ih
    rw [esc_cons]
    by_cases e : c = 92 ∨ c = 34
    · rw [if_pos e]
      show vr (92 :: c :: esc v) found = _
      unfold vr
      rw [if_neg (by decide), if_pos rfl, if_pos e, ih]
      rfl
    · rw [if_neg e]
      show vr (c :: esc v) found = _
      cases ev : esc v with
      | nil =>
        rw [ev] at ih
        unfold vr
        rw [if_neg (by omega)]
        have : v = [] := by
          cases v with
          | nil => rfl
          | cons d v => rw [esc_cons] at ev; split at ev <;> cases ev
        subst this
        rfl
      | cons d r =>
        rw [ev] at ih
        unfold vr
        rw [if_neg (by omega), if_neg (by omega), ih]
        rfl
theorem vr_back : ∀ (n : Nat) (t found w : List Nat), t.length ≤ n → vr t found = some w → ∃ v, w = found ++ v ∧ esc v = t
  | _, [], found, w, _, h => by
    have h2 : some found = some w := h
    injection h2 with h3
    exact ⟨[], by rw [List.append_nil]; exact h3.symm, rfl⟩
  | _, [c], found, w, _, h => by
    unfold vr at h
    by_cases e : c = 34 ∨ c = 92
    · rw [if_pos e] at h; cases h
    · rw [if_neg e] at h
      injection h with h3
      refine ⟨[c], h3.symm, ?_⟩
      rw [esc_cons, if_neg (by omega)]
      rfl
  | n + 1, c :: d :: r, found, w, hl, h => by
    unfold vr at h
    simp only [List.length_cons] at hl
    by_cases e : c = 34
    · rw [if_pos e] at h; cases h
    · rw [if_neg e] at h
      by_cases e2 : c = 92
      · rw [if_pos e2] at h
        by_cases e3 : d = 92 ∨ d = 34
        · rw [if_pos e3] at h
          obtain ⟨v, h1, h2⟩ := vr_back n r _ _ (by omega) h
          refine ⟨d :: v, by rw [h1, List.append_assoc]; rfl, ?_⟩
          rw [esc_cons, if_pos e3, h2, e2]
          rfl
        · rw [if_neg e3] at h; cases h
      · rw [if_neg e2] at h
        obtain ⟨v, h1, h2⟩ := vr_back n (d :: r) _ _ (by simp only [List.length_cons]; omega) h
        refine ⟨c :: v, by rw [h1, List.append_assoc]; rfl, ?_⟩
        rw [esc_cons, if_neg (by omega), h2]
        rfl
  | 0, _ :: _ :: _, _, _, h, _ => by simp at h
/-! ### numbers -/
theorem num_back {a : List Nat} (h : NumText.AllDigits a) (h0 : ∃ c r, a = c :: r ∧ c ≠ 48) : numL (NumText.digitsVal a) = a := by
  obtain ⟨c, r, rfl, h1⟩ := h0
  have hc := h.head
  show (Nat.toDigits 10 (NumText.digitsVal (c :: r))).map Char.toNat = c :: r
  rw [NumText.toDigits_digitsVal r.length (c :: r) rfl h (.inr ⟨c, r, rfl, by omega⟩), List.map_map]
  refine (List.map_congr_left fun d hd => ?_).trans (List.map_id _)
  have := h d hd
  show (Char.ofNat d).toNat = d
  have key : ∀ d : Nat, d < 58 → (Char.ofNat d).toNat = d := by decide
  exact key d (by omega)
theorem numL_head {n : Nat} (h : 1 ≤ n) : ∃ c r, numL n = c :: r ∧ c ≠ 48 := by
  induction n using Nat.strongRecOn with
  | _ n ih =>
    by_cases hn : n < 10
    · rw [TL.numL_lt hn]
      exact ⟨_, _, rfl, by omega⟩
    · rw [TL.numL_step (by omega)]
      obtain ⟨c, r, e, h1⟩ := ih (n / 10) (by omega) (by omega)
      exact ⟨c, r ++ [48 + n % 10], by rw [e]; rfl, h1⟩
end TkM

set_option Elab.async false
set_option linter.all false
set_option maxRecDepth 100000
set_option maxHeartbeats 4000000
/-! split at most twice; numbers as text; an entry read and written -/
namespace TkM
open PySem PySem.StrLaws PySem.Builtin PySem.Builtin.Str SX Tk
open TL (spl par joinL numL tl)
/-! ### occurrences, at most so many -/
theorem occ_most (s sub : Str) (hi most lo : Nat) (hw : 1 ≤ sub.length) : ∀ (m cur : Nat) (p : Array Nat × Nat), ChainG s sub hi lo p.1.toList p.2 → (p.1.size < most → ∀ k, p.2 ≤ k → k < cur → ¬ At s sub hi k) →
    ∃ q : Array Nat × Nat, (forIn (List.range' cur m) p (occBody s sub hi most)).run = q ∧ ChainG s sub hi lo q.1.toList q.2 ∧ (q.1.size < most → ∀ k, q.2 ≤ k → k < cur + m → ¬ At s sub hi k)
  | 0, cur, p, g, no => ⟨p, rfl, g, no⟩
  | m + 1, cur, p, g, no => by
    rw [List.range'_succ, List.forIn_cons, show cur + (m + 1) = cur + 1 + m by omega]
    unfold occBody
    split
    · rename_i c
      obtain ⟨⟨⟨c1, c2⟩, c3⟩, c4⟩ := c
      refine occ_most s sub hi most lo hw m (cur + 1) (p.1.push cur, cur + sub.length) ?_ ?_
      · show ChainG s sub hi lo (p.1.push cur).toList _
        rw [Array.toList_push]
        exact chainG_snoc g c2 ⟨c3, c4⟩ (no c1)
      · intro _ k k1 k2
        have k1' : cur + sub.length ≤ k := k1
        omega
    · rename_i c
      refine occ_most s sub hi most lo hw m (cur + 1) p g ?_
      intro z k k1 k2 at_k
      rcases Nat.lt_or_ge k cur with q | q
      · exact no z k k1 q at_k
      · obtain rfl : k = cur := by omega
        exact c ⟨⟨⟨z, k1⟩, at_k.1⟩, at_k.2⟩
theorem occ_two (x y : Str) (most : Nat) (hw : 1 ≤ y.length) : ∃ f, ChainG x y x.length 0 (occurrences x y 0 x.length most) f ∧ ((occurrences x y 0 x.length most).length < most → ∀ k, f ≤ k → ¬ At x y x.length k) := by
  rw [occ_eq]
  obtain ⟨q, e, g, no⟩ := occ_most x y x.length most 0 hw (x.length + 1 - 0) 0 ((#[] : Array Nat), 0) rfl (fun _ k _ z => by omega)
  refine ⟨q.2, ?_, ?_⟩
  · rw [e]; exact g
  · rw [e]
    intro z k k1 a
    exact no (by rw [← Array.length_toList]; exact z) k k1 (by have := a.1; omega) a
/-- parts, at most three -/
theorem split2_few (x : Str) (c : Nat) : (Txt.splitMax x (S [c]) 2).length ≤ 3 := by
  unfold Txt.splitMax
  split
  · exact Nat.le_add_left 1 2
  · split
    · exact Nat.le_add_left 1 2
    · rw [length_partsBetween]
      have : (occurrences x (S [c]) 0 x.length (limitOf x 2)).length ≤ limitOf x 2 := occ_length_le _ _ _ _ _
      have e : limitOf x 2 = 2 := rfl
      omega
theorem first_at {L : List Nat} {c f : Nat} {p r : List Nat} (x : Str) (ex : x = S L) (hp : c ∉ p) (e : L.drop f = p ++ c :: r) {k : Nat} (k1 : f ≤ k) (at_k : At x (S [c]) x.length k) (no : ∀ j, f ≤ j → j < k → ¬ At x (S [c]) x.length j) : k = f + p.length := by
  subst ex
  have is : ∀ j, At (S L) (S [c]) (S L).length j ↔ L[j]? = some c := subAt_one (S L) c
  have g : ∀ j, L[f + j]? = (p ++ c :: r)[j]? := fun j => by rw [← e, List.getElem?_drop]
  have here : At (S L) (S [c]) (S L).length (f + p.length) := (is _).mpr (by rw [g, List.getElem?_append_right (Nat.le_refl _), Nat.sub_self]; rfl)
  rcases Nat.lt_trichotomy k (f + p.length) with q | q | q
  · have z := (is k).mp at_k
    rw [show k = f + (k - f) by omega, g, List.getElem?_append_left (by omega)] at z
    exact absurd (List.mem_of_getElem? z) hp
  · exact q
  · exact absurd here (no _ (by omega) q)
theorem split2 {p q r : List Nat} {c : Nat} (hc : c < 256) (hp : c ∉ p) (hq : c ∉ q) : Txt.splitMax (S (p ++ c :: (q ++ c :: r))) (S [c]) 2 = [S p, S q, S r] := by
  obtain ⟨f, g, no⟩ := occ_two (S (p ++ c :: (q ++ c :: r))) (S [c]) 2 (Nat.le_refl _)
  have lim : limitOf (S (p ++ c :: (q ++ c :: r))) 2 = 2 := rfl
  have hl : (S (p ++ c :: (q ++ c :: r))).length = p.length + (q.length + (r.length + 1) + 1) := by rw [S_len]; simp only [List.length_append, List.length_cons]
  have is : ∀ j, At (S (p ++ c :: (q ++ c :: r))) (S [c]) (S (p ++ c :: (q ++ c :: r))).length j ↔ (p ++ c :: (q ++ c :: r))[j]? = some c := subAt_one _ c
  have d1 : (p ++ c :: (q ++ c :: r)).drop (p.length + 1) = q ++ c :: r := by rw [← List.drop_drop, List.drop_left]; rfl
  have d2 : (p ++ c :: (q ++ c :: r)).drop (p.length + 1 + q.length + 1) = r := by rw [← List.drop_drop, ← List.drop_drop, d1, List.drop_left]; rfl
  have a1 : At (S (p ++ c :: (q ++ c :: r))) (S [c]) (S (p ++ c :: (q ++ c :: r))).length p.length := (is _).mpr (by rw [List.getElem?_append_right (Nat.le_refl _), Nat.sub_self]; rfl)
  have a2 : At (S (p ++ c :: (q ++ c :: r))) (S [c]) (S (p ++ c :: (q ++ c :: r))).length (p.length + 1 + q.length) := (is _).mpr (by rw [← List.getElem?_drop, d1, List.getElem?_append_right (Nat.le_refl _), Nat.sub_self]; rfl)
  have key : occurrences (S (p ++ c :: (q ++ c :: r))) (S [c]) 0 (S (p ++ c :: (q ++ c :: r))).length 2 = [p.length, p.length + 1 + q.length] := by
    have few : (occurrences (S (p ++ c :: (q ++ c :: r))) (S [c]) 0 (S (p ++ c :: (q ++ c :: r))).length 2).length ≤ 2 := occ_length_le _ _ _ _ _
    generalize occurrences (S (p ++ c :: (q ++ c :: r))) (S [c]) 0 (S (p ++ c :: (q ++ c :: r))).length 2 = cs at g no few
    match cs, g, no, few with
    | [], g, no, _ =>
      have e : f = 0 := g
      exact absurd a1 (no (by decide) _ (by omega))
    | [b], g, no, _ =>
      obtain ⟨g1, g2, g3, g4⟩ := g
      have e : f = b + 1 := g4
      have eb := first_at (L := p ++ c :: (q ++ c :: r)) (f := 0) (p := p) (r := q ++ c :: r) _ rfl hp rfl g1 g2 g3
      exact absurd a2 (no (by simp) _ (by omega))
    | [b, d], g, no, _ =>
      obtain ⟨g1, g2, g3, g4, g5, g6, g7⟩ := g
      have eb := first_at (L := p ++ c :: (q ++ c :: r)) (f := 0) (p := p) (r := q ++ c :: r) _ rfl hp rfl g1 g2 g3
      have e0 : b + (S [c]).length = p.length + 1 := by rw [eb]; show 0 + p.length + 1 = _; omega
      rw [e0] at g4 g6
      have ed := first_at (L := p ++ c :: (q ++ c :: r)) (f := p.length + 1) (p := q) (r := r) _ rfl hq d1 g4 g5 g6
      rw [eb, ed, Nat.zero_add]
    | _ :: _ :: _ :: _, _, _, few => simp at few
  unfold Txt.splitMax
  rw [lim, key, if_neg, if_neg (by simp), partsBetween_eq]
  · show [strSub _ 0 p.length, strSub _ (p.length + 1) (p.length + 1 + q.length), strSub _ (p.length + 1 + q.length + 1) (S (p ++ c :: (q ++ c :: r))).length] = _
    have e1 : strSub (S (p ++ c :: (q ++ c :: r))) 0 p.length = S p := TL.ext_tl (by rw [TL.tl_strSub]; show ((p ++ _).drop 0).take (p.length - 0) = p; rw [List.drop_zero, Nat.sub_zero, List.take_left])
    have e2 : strSub (S (p ++ c :: (q ++ c :: r))) (p.length + 1) (p.length + 1 + q.length) = S q := TL.ext_tl (by
      rw [TL.tl_strSub]
      show ((p ++ c :: (q ++ c :: r)).drop (p.length + 1)).take _ = q
      rw [d1, Nat.add_sub_cancel_left, List.take_left])
    have e3 : strSub (S (p ++ c :: (q ++ c :: r))) (p.length + 1 + q.length + 1) (S (p ++ c :: (q ++ c :: r))).length = S r := TL.ext_tl (by
      rw [TL.tl_strSub_end]
      exact d2)
    rw [e1, e2, e3]
  · rw [Bool.or_eq_true, decide_eq_true_eq, decide_eq_true_eq]
    rintro (z | z)
    · rw [hl] at z
      have : (S [c]).length = 1 := rfl
      omega
    · exact TL.kind_ok (all256 (b := [c]) (by simp [hc])) z
/-! ### numbers -/
theorem ascii_digit {c : Nat} (h : c < 128) : Unicode.isDigit c = (decide (48 ≤ c) && decide (c ≤ 57)) := by
  have key : ∀ c : Fin 128, Unicode.isDigit c.val = (decide (48 ≤ c.val) && decide (c.val ≤ 57)) := by decide +kernel
  exact key ⟨c, h⟩
def digB (c : Nat) : Bool := decide (48 ≤ c) && decide (c ≤ 57)
theorem all_dig : ∀ a : List Nat, (∀ x ∈ a, x < 128) → a.all Unicode.isDigit = a.all digB
  | [], _ => rfl
  | c :: r, h => by
    rw [List.all_cons, List.all_cons, all_dig r fun x hx => h x (List.mem_cons_of_mem _ hx), ascii_digit (h c (List.mem_cons_self ..))]
    rfl
theorem digits_told (a : List Nat) : (Txt.isascii (S a) && Txt.isdigit (S a)) = (!a.isEmpty && a.all digB) := by
  have e1 : Txt.isascii (S a) = a.all fun c => decide (c < 128) := by
    unfold Txt.isascii
    rw [← Array.all_toList]
  have e2 : Txt.isdigit (S a) = (decide (0 < a.length) && a.all Unicode.isDigit) := by
    unfold Txt.isdigit
    rw [← Array.all_toList, S_len]
  have e3 : (!a.isEmpty) = decide (0 < a.length) := by cases a <;> simp
  rw [e1, e2, e3]
  cases h : a.all fun c => decide (c < 128) with
  | true =>
    rw [Bool.true_and, all_dig a fun x hx => of_decide_eq_true (List.all_eq_true.mp h x hx)]
  | false =>
    rw [Bool.false_and]
    symm
    rw [Bool.and_eq_false_iff]
    right
    rw [List.all_eq_false] at h ⊢
    obtain ⟨c, hc, hn⟩ := h
    refine ⟨c, hc, fun z => hn ?_⟩
    unfold digB at z
    simp at z ⊢
    omega
end TkM

set_option Elab.async false
set_option linter.all false
set_option maxRecDepth 100000
set_option maxHeartbeats 4000000
/-! an entry, its text, its two readers -/
namespace TkM
open PySem PySem.StrLaws PySem.Builtin PySem.Builtin.Str SX Tk L2
open TL (spl par joinL numL tl)
abbrev Ent := List Nat × Nat × List Nat × Option (List Nat)
def optV : Option (List Nat) → PyData
  | none => .none
  | some v => .str (S v)
def entD (e : Ent) : PyData := .tuple [.str (S e.1), .tuple [.int e.2.1, .str (S e.2.2.1)], optV e.2.2.2]
def optD : Option Ent → PyData
  | none => .none
  | some e => entD e
def toldL : Option (List Nat) → List Nat
  | none => [45]
  | some v => 34 :: (esc v ++ [34])
def fmtL (e : Ent) : List Nat := e.1 ++ 32 :: ((numL e.2.1 ++ 46 :: e.2.2.1) ++ 32 :: toldL e.2.2.2)
def midL (t : List Nat) : List Nat := (t.drop 1).take (t.length - 2)
def valR (t : List Nat) : Option (Option (List Nat)) :=
  if t = [45] then some none else if t.length < 2 ∨ t.head? ≠ some 34 ∨ t.getLast? ≠ some 34 then none else (vr (midL t) []).map some
def entR (a b w : List Nat) (v : Option (List Nat)) : Option Ent :=
  if (a ≠ [] ∧ a.head? ≠ some 48 ∧ a.length ≤ 16 ∧ a.all digB = true) ∧ entryD (entD (w, NumText.digitsVal a, b, v)) = true then some (w, NumText.digitsVal a, b, v) else none
def readL (t : List Nat) : Option Ent :=
  match spl [32] 0 [] t with
  | w0 :: w1 :: w2 :: ws =>
    match spl [46] 0 [] w1, valR (joinL [32] (w2 :: ws)) with
    | [a, b], some v => entR a b w0 v
    | _, _ => none
  | _ => none
/-! what an entry is -/
structure IsE (e : Ent) : Prop where
  key : wordS (S e.1) = true
  lo : 1 ≤ e.2.1
  hi : e.2.1 ≤ 1000000000000000
  home : wordS (S e.2.2.1) = true
  val : ∀ v, e.2.2.2 = some v → valueS (S v) = true
theorem isE_iff {e : Ent} : entryD (entD e) = true ↔ IsE e := by
  obtain ⟨k, n, h, v⟩ := e
  have num : numD (.int (n : Int)) = true ↔ 1 ≤ n ∧ n ≤ 1000000000000000 := by
    unfold numD
    rw [Bool.and_eq_true, decide_eq_true_eq, decide_eq_true_eq]
    omega
  have val : (noneD (optV v) || valueD (optV v)) = true ↔ ∀ u, v = some u → valueS (S u) = true := by
    cases v with
    | none => exact ⟨fun _ _ z => (nomatch z), fun _ => rfl⟩
    | some u => exact ⟨fun z w e => by cases e; exact z, fun z => z u rfl⟩
  have e0 : entryD (entD (k, n, h, v)) = (wordS (S k) && ((numD (.int (n : Int)) && wordS (S h)) && (noneD (optV v) || valueD (optV v)))) := rfl
  rw [e0, Bool.and_eq_true, Bool.and_eq_true, Bool.and_eq_true, num, val]
  exact ⟨fun ⟨a, ⟨⟨b, c⟩, d⟩, e⟩ => ⟨a, b, c, d, e⟩, fun ⟨a, b, c, d, e⟩ => ⟨a, ⟨⟨b, c⟩, d⟩, e⟩⟩
theorem ent_of {d : PyData} (h : entryD d = true) : ∃ e : Ent, d = entD e := by
  unfold entryD at h
  split at h
  · rename_i k s v
    rw [Bool.and_eq_true, Bool.and_eq_true, Bool.or_eq_true] at h
    obtain ⟨hk, hs, hv⟩ := h
    have ek : ∃ x, k = .str (S x) := by
      unfold wordD at hk
      split at hk
      · rename_i x
        exact ⟨x.cps.toList, by rw [S_tl]⟩
      · cases hk
    have es : ∃ n x, s = .tuple [.int ((n : Nat) : Int), .str (S x)] := by
      unfold stampD at hs
      split at hs
      · rename_i a b
        rw [Bool.and_eq_true] at hs
        obtain ⟨h1, h2⟩ := hs
        unfold numD at h1
        split at h1
        · rename_i i
          rw [Bool.and_eq_true, decide_eq_true_eq, decide_eq_true_eq] at h1
          unfold wordD at h2
          split at h2
          · rename_i x
            refine ⟨i.toNat, x.cps.toList, ?_⟩
            rw [S_tl, Int.toNat_of_nonneg (by omega)]
          · cases h2
        · cases h1
      · cases hs
    have ev : ∃ o, v = optV o := by
      rcases hv with z | z
      · cases v <;> first | exact ⟨none, rfl⟩ | cases z
      · unfold valueD at z
        split at z
        · rename_i x
          exact ⟨some x.cps.toList, by show _ = PyData.str (S _); rw [S_tl]⟩
        · cases z
    obtain ⟨x, rfl⟩ := ek
    obtain ⟨n, y, rfl⟩ := es
    obtain ⟨o, rfl⟩ := ev
    exact ⟨(x, n, y, o), rfl⟩
  · cases h
theorem word_free {x : List Nat} (h : wordS (S x) = true) {c : Nat} (hc : c < 97) : c ∉ x := by
  intro m
  unfold wordS at h
  rw [Bool.and_eq_true] at h
  have := List.all_eq_true.mp h.2 c m
  unfold lowB at this
  rw [Bool.and_eq_true, decide_eq_true_eq] at this
  omega
theorem word_len {x : List Nat} (h : wordS (S x) = true) : 1 ≤ x.length ∧ x.length ≤ 8 := by
  unfold wordS at h
  rw [Bool.and_eq_true, Bool.and_eq_true, decide_eq_true_eq, decide_eq_true_eq, S_len] at h
  omega
theorem value_len {x : List Nat} (h : valueS (S x) = true) : x.length ≤ 40 := by
  unfold valueS at h
  rw [Bool.and_eq_true] at h
  have h1 := h.1
  rw [Bool.not_eq_true', decide_eq_false_iff_not, S_len] at h1
  omega
/-! joined again -/
theorem spl_ne (S0 : List Nat) : ∀ (t acc : List Nat), spl S0 0 acc t ≠ []
  | [], acc => by rw [TL.spl_nil]; simp
  | c :: r, acc => by
    cases h : TL.pre S0 (c :: r) with
    | true => rw [TL.spl_hit h]; simp
    | false => rw [TL.spl_miss h]; exact spl_ne S0 r _
theorem spl_joined (c : Nat) : ∀ (t acc : List Nat), joinL [c] (spl [c] 0 acc t) = acc ++ t
  | [], acc => by
    rw [TL.spl_nil, List.append_nil]
    rfl
  | d :: r, acc => by
    by_cases e : d = c
    · subst e
      rw [TL.spl_hit (by unfold TL.pre; simp)]
      have ih := spl_joined d r []
      cases h : spl [d] 0 [] r with
      | nil => exact absurd h (spl_ne _ _ _)
      | cons x y =>
        rw [h] at ih
        show joinL [d] (acc :: (spl [d] 0 [] r)) = _
        rw [h]
        show acc ++ ([d] ++ joinL [d] (x :: y)) = _
        rw [ih]
        rfl
    · rw [TL.spl_miss (by unfold TL.pre; simp [e]), spl_joined c r, List.append_assoc]
      rfl
theorem mid_back {t : List Nat} (h1 : ¬ t.length < 2) (h2 : t.head? = some 34) (h3 : t.getLast? = some 34) : t = 34 :: (midL t ++ [34]) := by
  cases t with
  | nil => simp at h1
  | cons c r =>
    have e : c = 34 := by simpa using h2
    subst e
    have hr : r ≠ [] := by rintro rfl; simp at h1
    have hl : r.getLast hr = 34 := by
      rw [List.getLast?_eq_some_getLast (by simp), List.getLast_cons hr] at h3
      exact Option.some.inj h3
    have em : midL (34 :: r) = r.dropLast := by
      unfold midL
      rw [List.dropLast_eq_take]
      rfl
    rw [em]
    have := List.dropLast_concat_getLast hr
    rw [hl] at this
    rw [this]
theorem mid_of (m : List Nat) : midL (34 :: (m ++ [34])) = m := by
  unfold midL
  have e : (34 :: (m ++ [34])).length - 2 = m.length := by simp
  rw [e]
  show (m ++ [34]).take m.length = m
  rw [List.take_left]
theorem valR_back {t : List Nat} {v : Option (List Nat)} (h : valR t = some v) : toldL v = t := by
  unfold valR at h
  by_cases e : t = [45]
  · rw [if_pos e] at h
    cases h
    exact e.symm
  · rw [if_neg e] at h
    by_cases e2 : t.length < 2 ∨ t.head? ≠ some 34 ∨ t.getLast? ≠ some 34
    · rw [if_pos e2] at h; cases h
    · rw [if_neg e2] at h
      rw [not_or, not_or] at e2
      obtain ⟨h1, h2, h3⟩ := e2
      cases hv : vr (midL t) [] with
      | none => rw [hv] at h; cases h
      | some w =>
        rw [hv] at h
        cases h
        obtain ⟨u, eu, hu⟩ := vr_back _ _ _ _ (Nat.le_refl _) hv
        rw [List.nil_append] at eu
        subst eu
        show 34 :: (esc w ++ [34]) = t
        rw [hu]
        exact (mid_back h1 (Classical.not_not.mp h2) (Classical.not_not.mp h3)).symm
theorem valR_told (v : Option (List Nat)) : valR (toldL v) = some v := by
  cases v with
  | none => rfl
  | some u =>
    unfold valR toldL
    rw [if_neg (by intro h; injection h with h1 _; omega), if_neg, mid_of, vr_esc, List.nil_append]
    · rfl
    · have e : (34 :: (esc u ++ [34])).getLast? = some 34 := by
        show ((34 :: esc u) ++ [34]).getLast? = _
        rw [List.getLast?_concat]
      rw [e]
      simp
theorem read_back {t : List Nat} {e : Ent} (h : readL t = some e) : IsE e ∧ fmtL e = t := by
  unfold readL at h
  split at h
  · rename_i w0 w1 w2 ws e1
    split at h
    · rename_i a b v e2 e3
      unfold entR at h
      by_cases c : (a ≠ [] ∧ a.head? ≠ some 48 ∧ a.length ≤ 16 ∧ a.all digB = true) ∧ entryD (entD (w0, NumText.digitsVal a, b, v)) = true
      · rw [if_pos c] at h
        cases h
        obtain ⟨⟨c1, c2, c3, c4⟩, c5⟩ := c
        refine ⟨isE_iff.mp c5, ?_⟩
        have ad : NumText.AllDigits a := fun x hx => by
          have := List.all_eq_true.mp c4 x hx
          unfold digB at this
          rw [Bool.and_eq_true, decide_eq_true_eq, decide_eq_true_eq] at this
          exact this
        have na : numL (NumText.digitsVal a) = a := num_back ad (by
          cases a with
          | nil => exact absurd rfl c1
          | cons x y => exact ⟨x, y, rfl, fun z => c2 (by rw [z]; rfl)⟩)
        have j1 := spl_joined 32 t []
        rw [e1] at j1
        have j2 := spl_joined 46 w1 []
        rw [e2] at j2
        show w0 ++ 32 :: ((numL (NumText.digitsVal a) ++ 46 :: b) ++ 32 :: toldL v) = t
        rw [na, valR_back e3]
        have j2' : a ++ 46 :: b = w1 := j2
        rw [j2']
        exact j1
      · rw [if_neg c] at h; cases h
    · cases h
  · cases h
theorem num_len {n : Nat} (h : n ≤ 1000000000000000) : (numL n).length ≤ 16 := TL.numL_len (by decide) (by omega)
theorem read_fmt {e : Ent} (h : IsE e) : readL (fmtL e) = some e := by
  obtain ⟨k, n, m, v⟩ := e
  have k1 : 32 ∉ k := word_free h.key (by decide)
  have m1 : 32 ∉ m := word_free h.home (by decide)
  have m2 : 46 ∉ m := word_free h.home (by decide)
  have lo : 1 ≤ n := h.lo
  have hi : n ≤ 1000000000000000 := h.hi
  have n1 : 32 ∉ numL n := TL.numL_free (by decide)
  have n2 : 46 ∉ numL n := TL.numL_free (by decide)
  have s1 : 32 ∉ numL n ++ 46 :: m := by
    intro z
    rcases List.mem_append.mp z with z | z
    · exact n1 z
    · rcases List.mem_cons.mp z with z | z
      · cases z
      · exact m1 z
  have e1 : spl [32] 0 [] (fmtL (k, n, m, v)) = k :: (numL n ++ 46 :: m) :: spl [32] 0 [] (toldL v) := by
    show spl [32] 0 [] (k ++ ([32] ++ ((numL n ++ 46 :: m) ++ ([32] ++ toldL v)))) = _
    rw [TL.spl_part1 k1, TL.spl_part1 s1]
    rfl
  have e2 : spl [46] 0 [] (numL n ++ 46 :: m) = [numL n, m] := by
    show spl [46] 0 [] (numL n ++ ([46] ++ m)) = _
    rw [TL.spl_part1 n2, TL.spl_last1 m2]
    rfl
  have e3 := spl_joined 32 (toldL v) []
  rw [List.nil_append] at e3
  have ne := spl_ne [32] (toldL v) []
  unfold readL
  rw [e1]
  cases h0 : spl [32] 0 [] (toldL v) with
  | nil => exact absurd h0 ne
  | cons x y =>
    rw [h0] at e3
    show (match spl [46] 0 [] (numL n ++ 46 :: m), valR (joinL [32] (x :: y)) with
      | [a, b], some v => entR a b k v
      | _, _ => none) = _
    rw [e2, e3, valR_told]
    show entR (numL n) m k v = _
    unfold entR
    rw [TL.numL_val, if_pos]
    refine ⟨⟨TL.numL_ne n, ?_, num_len hi, ?_⟩, isE_iff.mpr h⟩
    · obtain ⟨c, r, e, q⟩ := numL_head lo
      rw [e]
      intro z
      exact q (by simpa using z)
    · refine List.all_eq_true.mpr fun c hc => ?_
      have := TL.numL_digits n c hc
      unfold digB
      rw [Bool.and_eq_true, decide_eq_true_eq, decide_eq_true_eq]
      exact this
theorem read_iff {t : List Nat} {e : Ent} : readL t = some e ↔ IsE e ∧ fmtL e = t := ⟨read_back, fun ⟨a, b⟩ => b ▸ read_fmt a⟩
/-! ### the quick reader -/
def likN (a : Str) : PyData := if decide ((16 : Int) < (a.length : Int)) || !(Txt.isascii a && Txt.isdigit a) then .none else .int (NumText.digitsVal a.cps.toList)
def unq (x : Str) : Str := Txt.replace (Txt.replace (cutS x (some 1) (some (-1))) (S [92, 34]) (S [34])) (S [92, 92]) (S [92])
def likT (k st told : Str) : PyData := .tuple [.str k, .tuple [likN (Txt.partition st (S [46])).1, .str (Txt.partition st (S [46])).2.2], if (told == S [45]) = true then .none else .str (unq told)]
def likE (x : Str) : PyData :=
  match Txt.splitMax x (S [32]) 2 with
  | [k, st, told] => likT k st told
  | _ => .none
theorem unq_told (u : List Nat) : unq (S (34 :: (esc u ++ [34]))) = S u := by
  have c : cutS (S (34 :: (esc u ++ [34]))) (some 1) (some (-1)) = S (esc u) := by
    refine TL.ext_tl ?_
    have l : (S (34 :: (esc u ++ [34]))).length = (esc u).length + 2 := by rw [S_len]; simp
    have i1 : HT.sIx (S (34 :: (esc u ++ [34]))).length 0 (some 1) = 1 := by rw [l]; unfold HT.sIx; simp
    have i2 : HT.sIx (S (34 :: (esc u ++ [34]))).length (S (34 :: (esc u ++ [34]))).length (some (-1)) = (esc u).length + 1 := by rw [l]; unfold HT.sIx; simp; omega
    unfold cutS
    rw [i1, i2]
    show (((34 :: (esc u ++ [34])).drop 1).take ((esc u).length + 1 - 1)) = esc u
    rw [Nat.add_sub_cancel]
    show (esc u ++ [34]).take (esc u).length = _
    rw [List.take_left]
  unfold unq
  rw [c]
  refine TL.ext_tl ?_
  show (Txt.replace (Txt.replace (S (esc u)) (S [92, 34]) (S [34])) (S [92, 92]) (S [92])).cps.toList = u
  rw [replace_list (by decide), replace_list (by decide)]
  exact esc_back u
theorem lik_fmt {e : Ent} (h : IsE e) : likE (S (fmtL e)) = entD e := by
  obtain ⟨k, n, m, v⟩ := e
  have k1 : 32 ∉ k := word_free h.key (by decide)
  have m1 : 32 ∉ m := word_free h.home (by decide)
  have n1 : 32 ∉ numL n := TL.numL_free (by decide)
  have n2 : 46 ∉ numL n := TL.numL_free (by decide)
  have hi : n ≤ 1000000000000000 := h.hi
  have s1 : 32 ∉ numL n ++ 46 :: m := by
    intro z
    rcases List.mem_append.mp z with z | z
    · exact n1 z
    · rcases List.mem_cons.mp z with z | z
      · cases z
      · exact m1 z
  unfold likE
  have e1 : Txt.splitMax (S (fmtL (k, n, m, v))) (S [32]) 2 = [S k, S (numL n ++ 46 :: m), S (toldL v)] := split2 (by decide) k1 s1
  rw [e1]
  show likT (S k) (S (numL n ++ 46 :: m)) (S (toldL v)) = _
  unfold likT
  have e2 : Txt.partition (S (numL n ++ 46 :: m)) (S [46]) = (S (numL n), S [46], S m) := partition_some (by simp) (TL.par_part1 (S := []) (acc := []) n2)
  have e3 : likN (S (numL n)) = .int n := by
    unfold likN
    have al : (numL n).all digB = true := List.all_eq_true.mpr fun c hc => by
      have := TL.numL_digits n c hc
      unfold digB
      rw [Bool.and_eq_true, decide_eq_true_eq, decide_eq_true_eq]
      exact this
    have ne : (numL n).isEmpty = false := by
      cases z : numL n with
      | nil => exact absurd z (TL.numL_ne n)
      | cons _ _ => rfl
    have hl := num_len hi
    rw [digits_told, al, ne, if_neg]
    · show PyData.int (NumText.digitsVal (numL n)) = _
      rw [TL.numL_val]
    · rw [S_len]
      simp
      omega
  rw [e2, e3]
  have e4 : (if (S (toldL v) == S [45]) = true then PyData.none else PyData.str (unq (S (toldL v)))) = optV v := by
    cases v with
    | none => rfl
    | some u =>
      rw [if_neg]
      · show PyData.str (unq (S (34 :: (esc u ++ [34])))) = _
        rw [unq_told]
        rfl
      · rw [S_beq]
        intro z
        have := eq_of_beq z
        injection this with q _
        cases q
  rw [e4]
  rfl
/-- what the program's reader tells is what the careful one tells -/
theorem parse_none {t : List Nat} (h : readL t = none) : ¬ ∃ e : Ent, IsE e ∧ fmtL e = t := fun ⟨e, a, b⟩ => by
  rw [read_iff.mpr ⟨a, b⟩] at h
  cases h
end TkM

set_option Elab.async false
set_option linter.all false
set_option maxRecDepth 100000
set_option maxHeartbeats 4000000
/-! texts: written texts out (replace), f-strings, split, partition; calls that may raise, in a try -/
namespace Tk
open PySem PySem.Spec PyProof.Rows L2 CwR
section
variable {X : Cx} {te : TE} {e : Expr} {pos : Pos}
/-- name = value, a token out -/
theorem pst_set {i : Nat} {x : Str} {pos' : Pos} (hN : X.N.Nodup) (hi : X.N[i]? = some x) (hx : Loc X.env.scope x) (he : PET X e te) (hs : swapsWith e (some (.Name x pos')) pos.line X.env = pure false := by rfl)
    (hf : X.fn x = true ∨ X.env.scope.names.lookup x = some .local := by first | exact .inl rfl | exact .inr rfl | assumption) : PST X (.Assign [.Name x pos'] e pos) (tAsg te (gName i)) := by
  intro pn s σ H D h0 I h
  refine wpAny_Assign_Name (thn (he pn s σ H _ h0 I h) fun v s1 hv => ?_) hs
  obtain ⟨y, H1, I1, r1, q1⟩ := hv
  exact store_ok I1 hN hi hx r1 (fun s2 I2 => ⟨_, H1, I2, q1⟩) hf
end
/-- a def with parameters, none of them in a cell: when it begins a token is out -/
theorem Fun_okT {P : Program} {w : World} {K : PySem.W.Frag} {mg : Str → Option Value} {base : Heap} {k : Nat} {x qual : Str} {st : Stmt} {f : Addr} {fd : FuncData} {N ps : List Str} {sp : Sp} (F : Fun K x qual st f fd) (S : FnScope N ps (defScope st)) (hnc : ∀ y ∈ (defScope st).names, y.2 ≠ .cell) (hps : 1 ≤ ps.length)
    (len : ∀ vs H Q E, sp vs H Q E → vs.length = ps.length)
    (go : ∀ (cdv : Value) (A : Around) (outer : List Env) (s : Shared) (H : Hp) (vs : List V) (Q : VK) (E : XK), Room k (A.deeper (envOfC qual (defScope st) s.heap.objs.size f cdv)) → sp vs H Q E →
      ∃ t, PSsT (cxOf CX0 P w K mg base N qual (defScope st) f cdv A outer s H E) (defBody st) t ∧ t { nx := fun _ H' => Q .non H', rt := Q } (start N vs) H) : FnOk P w K mg base CX0 (k + 1) f fd ps sp := by
  obtain ⟨_, _, _, _, _, _, cdv, _, _, rfl, at_f, cd⟩ := F.ex
  exact fn_ofT at_f cd S hnc hps len fun A outer s H vs Q E hr h => go cdv A outer s H vs Q E hr h
/-! ### calls that may raise -/
section
variable {X : Cx} {k : Nat} {sp : Sp} {x : Str} {ps : List Str} {p pos : Pos} {e : Expr} {es : List Expr} {t : TA} {W : WX}
theorem pe_calS {CX : CXT} {E : L2.St → XK} (C : Cal X.prog X.w X.K X.mg X.base CX k x ps sp) (hr : Room k X.A) (hx : ∀ σ, PassesAt CX X σ (E σ)) (ha : PA X (e :: es) t) (hg : Gl X x := by rfl)
    (hdb : (x == ("__debug__" : Str)) = false := by decide) (he : starEach (e :: es) X.env = (false, eval e X.env) :: starEach es X.env := by rfl) (hpl : (backTo pos (starEach es X.env)).any (·.1) = false := by rfl) :
    PE X (.Call (.Name x p) (e :: es) [] pos) (tCallS sp E t) := by
  obtain ⟨f, fd, m1, m2, m3, F⟩ := C.ex
  exact pe_callS F hr hg m1 m2 m3 hx ha hdb he hpl
/-- a raising def called in a def that lets it out -/
theorem passOut (tk : Takes X fun cls d _ H => E cls d H) : Passes (L2.CX X.prog X.w) X E := fun pn σ H s e s' I c => passes_call tk (fun _ _ _ _ h => h) pn σ H s e s' I c
end
theorem r_callS {sp : Sp} {E : L2.St → XK} {t : TA} {σ : L2.St} {H : Hp} {Q : VK} (h : t σ H fun vs H1 => sp vs H1 Q (E σ)) : tCallS sp E t σ H Q := h
/-! ### methods of texts -/
def rSplit1 : V → List V → Hp → VK → Prop := fun x xs H Q => ∃ a b, x = .str a ∧ xs = [.str b] ∧ (b.length == 0) = false ∧ a.length + 2 ≤ sizeLine ∧ rNewStrs (Txt.split a b) H Q
def rSplit2 : V → List V → Hp → VK → Prop := fun x xs H Q => ∃ (a b : Str) (k : Int), x = .str a ∧ xs = [.str b, .int k] ∧ (b.length == 0) = false ∧ -(2 ^ 63) ≤ k ∧ k < 2 ^ 63 ∧ a.length + 2 ≤ sizeLine ∧ rNewStrs (Txt.splitMax a b k) H Q
def rPart3 : V → List V → Hp → VK → Prop := fun x xs H Q => ∃ a b, x = .str a ∧ xs = [.str b] ∧ (b.length == 0) = false ∧ a.length ≤ sizeLine ∧
  ∀ p, H p = none → Q (.ref p) (upd H p (.tup [.str (Txt.partition a b).1, .str (Txt.partition a b).2.1, .str (Txt.partition a b).2.2]))
def rTold (g : Str → Bool) : V → List V → Hp → VK → Prop := fun x xs H Q => ∃ a, x = .str a ∧ xs = [] ∧ True ∧ Q (.bl (g a)) H
section
variable {X : Cx}
theorem k_split1 : MtR X "str.split" rSplit1 := mt_split
theorem k_split2 : MtR X "str.split" rSplit2 := mt_splitMax
theorem k_part3 : MtR X "str.partition" rPart3 := mt_partition
theorem k_ascii : MtR X "str.isascii" (rTold Txt.isascii) := mt_isascii
theorem k_digit : MtR X "str.isdigit" (rTold Txt.isdigit) := mt_isdigit
end
section
variable {K : PySem.W.Frag} {σ : L2.St} {H : Hp} {Q : VK} {a b : Str} {r : V → List V → Hp → VK → Prop} {to te : TE} {t : TA}
theorem r_m0 (h : to σ H fun x H1 => (∃ a, x = .str a) ∧ r x [] H1 Q) : tM0 r to σ H Q := h
theorem r_bm {T : String} (h : to σ H fun x H1 => tyV K T x H1 ∧ t σ H1 fun xs H2 => r x xs H2 Q) : tBM K T r to t σ H Q := h
theorem new_strs {ys : List Str} (q : ∀ p H', H p = none → Same H H' → H' p = some (.lst (ys.map V.str)) → Q (.ref p) H') : rNewStrs ys H Q := fun p hp => q p _ hp (Same.new hp) upd_same
theorem r_split1 (hb : (b.length == 0) = false) (ha : a.length ≤ 90000) (q : ∀ p H', H p = none → Same H H' → H' p = some (.lst ((Txt.split a b).map V.str)) → Q (.ref p) H') : rSplit1 (.str a) [.str b] H Q := ⟨a, b, rfl, rfl, hb, sz_of (n := a.length + 2) (by omega), new_strs q⟩
theorem r_split2 {k : Int} (hb : (b.length == 0) = false) (h0 : 0 ≤ k) (h1 : k < 100) (ha : a.length ≤ 90000) (q : ∀ p H', H p = none → Same H H' → H' p = some (.lst ((Txt.splitMax a b k).map V.str)) → Q (.ref p) H') : rSplit2 (.str a) [.str b, .int k] H Q :=
  ⟨a, b, k, rfl, rfl, hb, by omega, by omega, sz_of (n := a.length + 2) (by omega), new_strs q⟩
theorem r_part3 (hb : (b.length == 0) = false) (ha : a.length ≤ 100000) (q : ∀ p H', H p = none → Same H H' → H' p = some (.tup [.str (Txt.partition a b).1, .str (Txt.partition a b).2.1, .str (Txt.partition a b).2.2]) → Q (.ref p) H') : rPart3 (.str a) [.str b] H Q :=
  ⟨a, b, rfl, rfl, hb, sz_of ha, fun p hp => q p _ hp (Same.new hp) upd_same⟩
theorem r_told {g : Str → Bool} (q : Q (.bl (g a)) H) : rTold g (.str a) [] H Q := ⟨a, rfl, rfl, trivial, q⟩
theorem r_isS {B : Prop} (q : B) : (∃ u, V.str a = .str u) ∧ B := ⟨⟨a, rfl⟩, q⟩
theorem r_gLst {n : Nat} {t : TGs} {p : Addr} {xs : List V} {R : L2.St → Hp → Prop} (h : H p = some (.lst xs)) (hl : xs.length = n) (q : t xs σ H R) : gLst K n t (.ref p) σ H R := ⟨p, xs, rfl, SqL.of h, hl, q⟩
theorem k_glst {X : Cx} {es : List Expr} {k : Nat} {pos : Pos} {t : TGs} {n : Nat} (hc : X.calm = true) (h : PGs X es t) (e : X.K = K := by rfl) (hn : (assignEach es X.env).length = n := by rfl) (hst : (assignEach es X.env).findIdx? (·.1) = none := by rfl) : PG X (.Tuple es k pos) (gLst K n t) := by subst e; exact pg_lst hc h hn hst
theorem r_lenL {p : Addr} {xs : List V} (h : H p = some (.lst xs)) (q : Q (.int (xs.length : Nat)) H) : rLen K [.ref p] H Q := r_lenQ (SqL.of h) q
/-! f-strings -/
theorem r_fmtS (h : te σ H fun x H1 => ∃ y : Str, x = .str y ∧ y.length ≤ 100000 ∧ Q (.str y) H1) (mono : ∀ R R' : VK, (∀ v H', R v H' → R' v H') → te σ H R → te σ H R') : tFmt te σ H Q :=
  mono _ _ (fun v H' ⟨y, e, hl, q⟩ => .inl ⟨y, e, sz_of hl, q⟩) h
theorem r_fmtVar {i : Nat} {x : Str} (hv : σ[i]? = some (some (.str x))) (hl : x.length ≤ 100000) (q : Q (.str x) H) : tFmt (tVar i) σ H Q := ⟨_, hv, .inl ⟨x, rfl, sz_of hl, q⟩⟩
theorem r_fmtInt {i : Nat} {n : Int} (hv : σ[i]? = some (some (.int n))) (hl : n.natAbs.log2 < 1920) (q : Q (.str (toString n)) H) : tFmt (tVar i) σ H Q := ⟨_, hv, .inr ⟨n, rfl, hl, q⟩⟩
theorem r_js {ts : List TE} {acc : Str} {t : TE} {R : Str → Hp → Prop} (h : t σ H fun x H1 => ∃ y : Str, x = .str y ∧ (acc ++ y).length ≤ sizeLine ∧ tJs ts (acc ++ y) σ H1 R) : tJs (t :: ts) acc σ H R := h
theorem r_jsNil {acc : Str} {R : Str → Hp → Prop} (h : R acc H) : tJs [] acc σ H R := h
theorem r_jsIs {acc y : Str} {P : Str → Prop} (hl : (acc ++ y).length ≤ 100000) (q : P y) : ∃ z : Str, V.str y = .str z ∧ (acc ++ z).length ≤ sizeLine ∧ P z := ⟨y, rfl, sz_of hl, q⟩
/-! replace -/
theorem r_repl {y z : Str} (h : to σ H fun v H1 => ∃ x, v = .str x ∧ x.length + (x.length + 1) * z.length ≤ 16777216 ∧ Q (.str (Txt.replace x y z)) H1) : tReplC to y z σ H Q := h
theorem r_replIs {x y z : Str} (hl : x.length + (x.length + 1) * z.length ≤ 16777216) (q : Q (.str (Txt.replace x y z)) H) : ∃ u, V.str x = .str u ∧ u.length + (u.length + 1) * z.length ≤ 16777216 ∧ Q (.str (Txt.replace u y z)) H := ⟨x, rfl, hl, q⟩
theorem r_replU {B : Prop} {x z : Str} (hx : x.length ≤ 100000) (hz : z.length ≤ 100) (q : B) : x.length + (x.length + 1) * z.length ≤ 16777216 ∧ B :=
  ⟨by have := Nat.mul_le_mul (show x.length + 1 ≤ 100001 by omega) hz; omega, q⟩
theorem cat_len (x y : Str) : (x ++ y).length = x.length + y.length := by rw [TL.len_tl, TL.tl_append, List.length_append, ← TL.len_tl, ← TL.len_tl]
theorem r_fits {B : Prop} {x : Str} (hx : x.length ≤ 100000) (q : B) : x.length ≤ sizeLine ∧ B := ⟨sz_of hx, q⟩
theorem repl_le {x y z : Str} {n : Nat} (hx : x.length ≤ n) {m : Nat} (hz : z.length ≤ m) : (Txt.replace x y z).length ≤ n + (n + 1) * m := by
  have h1 := TK.replace_len x y z
  have h2 := Nat.mul_le_mul (show x.length + 1 ≤ n + 1 by omega) hz
  omega
end
/-! parts are no longer than the whole -/
theorem sub_le (x : Str) (i j : Nat) : (Builtin.Str.strSub x i j).length ≤ x.length := by
  rw [TL.len_tl, TL.tl_strSub, TL.len_tl x, List.length_take, List.length_drop]
  omega
theorem from_le (x : Str) (n : Nat) : ∀ (cs : List Nat) (a : Nat), ∀ p ∈ StrLaws.partsFrom x n a cs, p.length ≤ x.length
  | [], a, p, h => by
    rw [List.mem_singleton.mp h]
    exact sub_le _ _ _
  | c :: cs, a, p, h => by
    rcases List.mem_cons.mp h with rfl | h
    · exact sub_le _ _ _
    · exact from_le x n cs _ p h
theorem splitMax_le (x y : Str) (k : Int) : ∀ p ∈ Txt.splitMax x y k, p.length ≤ x.length := by
  intro p h
  unfold Txt.splitMax at h
  split at h
  · rw [List.mem_singleton.mp h]; exact Nat.le_refl _
  · split at h
    · rw [List.mem_singleton.mp h]; exact Nat.le_refl _
    · rw [StrLaws.partsBetween_eq] at h
      exact from_le _ _ _ _ p h
theorem split_le (x y : Str) : ∀ p ∈ Txt.split x y, p.length ≤ x.length := by
  intro p h
  unfold Txt.split at h
  split at h
  · rw [List.mem_singleton.mp h]; exact Nat.le_refl _
  · split at h
    · rw [List.mem_singleton.mp h]; exact Nat.le_refl _
    · rw [StrLaws.partsBetween_eq] at h
      exact from_le _ _ _ _ p h
theorem part3_le (x y : Str) : (Txt.partition x y).1.length ≤ x.length ∧ (Txt.partition x y).2.2.length ≤ x.length := by
  have h := congrArg Str.length (StrLaws.partition_sum x y)
  rw [cat_len, cat_len] at h
  omega
end Tk

set_option Elab.async false
set_option linter.all false
set_option maxRecDepth 100000
set_option maxHeartbeats 4000000
/-! == of data without dicts, membership among written texts, int of a bool, text at a place, while -/
namespace Tk
open PySem PySem.Spec PyProof.Rows L2 SX
def rEqP (K : PySem.W.Frag) : R2 := fun x y H Q => ∃ d e, Dd K H x d ∧ Dd K H y e ∧ d.plain = true ∧ e.plain = true ∧ d.depth ≤ 60 ∧ Q (.bl (PyData.eqv d e)) H
def rNeP (K : PySem.W.Frag) : R2 := fun x y H Q => ∃ d e, Dd K H x d ∧ Dd K H y e ∧ d.plain = true ∧ e.plain = true ∧ d.depth ≤ 60 ∧ Q (.bl (!PyData.eqv d e)) H
section
variable {X : Cx} {K : PySem.W.Frag}
theorem k_eqP (hu : X.A.units + 64 < cLine) (e : X.K = K := by rfl) : OpR X (compareOp .Eq) (rEqP K) := by
  subst e
  intro pn s σ H x y v u Q I rx ry h
  obtain ⟨d, e, hd, he, pd, pe, dp, q⟩ := h
  obtain ⟨as, r1⟩ := Dd.reads I d x v hd rx
  obtain ⟨bs, r2⟩ := Dd.reads I e y u he ry
  exact PySem.SeqAt.eq_plain r1 r2 pd pe (by have := Nat.min_le_left d.depth e.depth; omega) ⟨.bl _, H, I, rfl, q⟩
theorem k_neP (hu : X.A.units + 64 < cLine) (e : X.K = K := by rfl) : OpR X (compareOp .NotEq) (rNeP K) := by
  subst e
  intro pn s σ H x y v u Q I rx ry h
  obtain ⟨d, e, hd, he, pd, pe, dp, q⟩ := h
  obtain ⟨as, r1⟩ := Dd.reads I d x v hd rx
  obtain ⟨bs, r2⟩ := Dd.reads I e y u he ry
  exact PySem.SeqAt.ne_plain r1 r2 pd pe (by have := Nat.min_le_left d.depth e.depth; omega) ⟨.bl _, H, I, rfl, q⟩
theorem k_in (e : X.K = K := by rfl) : OpR X (compareOp .In) (rIn K false) := by subst e; exact op_in_seq
theorem k_notin (e : X.K = K := by rfl) : OpR X (compareOp .NotIn) (rIn K true) := by subst e; exact op_notIn_seq
end
section
variable {K : PySem.W.Frag} {H : Hp} {Q : VK} {v w : V} {d : PyData}
theorem r_neSame (h1 : Dd K H v d) (h2 : Dd K H w d) (pl : d.plain = true) (dp : d.depth ≤ 60) (q : Q (.bl false) H) : rNeP K v w H Q := ⟨d, d, h1, h2, pl, pl, dp, by rw [PySem.SeqAt.eqv_refl_plain d pl]; exact q⟩
theorem r_inL {p : Addr} {xs : List V} {x : V} (h : H p = some (.lst xs)) (fx : flatV x = true) (fs : xs.all flatV = true) (q : Q (.bl (inV x xs)) H) : rIn K false x (.ref p) H Q := ⟨p, xs, rfl, .inl (SqL.of h), fx, fs, q⟩
theorem r_notinL {p : Addr} {xs : List V} {x : V} (h : H p = some (.lst xs)) (fx : flatV x = true) (fs : xs.all flatV = true) (q : Q (.bl (!inV x xs)) H) : rIn K true x (.ref p) H Q := ⟨p, xs, rfl, .inl (SqL.of h), fx, fs, q⟩
theorem in_two (c a b : Nat) : inV (signV c) [.str (S [a]), .str (S [b])] = decide (c = a ∨ c = b) := by
  have e : ∀ x y : Nat, (S [x] == S [y]) = decide (x = y) := fun x y => by
    rw [S_beq_eq]
    by_cases h : x = y
    · subst h; simp
    · simp [h]
  show ((S [a] == S [c]) || ((S [b] == S [c]) || false)) = _
  rw [e, e, Bool.or_false]
  by_cases h1 : c = a
  · subst h1; simp
  · by_cases h2 : c = b
    · subst h2; simp
    · simp [h1, h2, Ne.symm h1, Ne.symm h2, eq_comm]
theorem in_two_none (a b : Nat) : inV (.str (S [])) [.str (S [a]), .str (S [b])] = false := by
  show ((S [a] == S []) || ((S [b] == S []) || false)) = _
  rw [S_beq, S_beq]
  rfl
def rInt1 : List V → Hp → VK → Prop := fun xs H Q => (∃ i, xs = [.int i] ∧ Q (.int i) H) ∨ ∃ k, xs = [.bl k] ∧ Q (.int (if k then 1 else 0)) H
theorem k_int1 {X : Cx} : CallR X (.type "int") rInt1 := call_int1
theorem r_int1 {k : Bool} (q : Q (.int (if k then 1 else 0)) H) : rInt1 [.bl k] H Q := .inr ⟨k, rfl, q⟩
def rStr1 : List V → Hp → VK → Prop := fun xs H Q => ∃ i, xs = [.int i] ∧ i.natAbs.log2 < 1920 ∧ Q (.str (toString i)) H
theorem k_str1 {X : Cx} : CallR X (.type "str") rStr1 := call_str_int
theorem r_str1 {i : Int} (hi : i.natAbs.log2 < 1920) (q : Q (.str (toString i)) H) : rStr1 [.int i] H Q := ⟨i, rfl, hi, q⟩
/-! a text at a place -/
theorem r_ixS {x : Str} {i : Int} {c : Nat} (hx : x.length ≤ 100000) (e : atI x.cps.toList i = some c) (q : Q (signV c) H) : rIx K (.str x) (.int i) H Q := .inr (.inr ⟨x, i, c, rfl, rfl, sz_of hx, e, q⟩)
theorem r_par {i j : Nat} {ta : TA} {D : Ends} {σ : L2.St} (h : ta σ H fun vs H1 => ∃ v w, vs = [v, w] ∧ D.nx ((σ.set i (some v)).set j (some w)) H1) : tPar i j ta D σ H := h
theorem r_pair {P : V → V → Prop} (q : P v w) : ∃ v' w', [v, w] = [v', w'] ∧ P v' w' := ⟨v, w, rfl, q⟩
theorem sg {c d : Nat} : ((⟨#[c]⟩ : Str) = (⟨#[d]⟩ : Str)) ↔ c = d := by
  constructor
  · intro h
    have : ([c] : List Nat) = [d] := congrArg (fun x : Str => x.cps.toList) h
    exact (List.cons.inj this).1
  · intro h
    rw [h]
end
section
variable {K : PySem.W.Frag} {H : Hp} {Q : VK}
def rSgn : R2 := fun x y H Q => ∃ (c : Nat) (z : Str), x = .str ⟨#[c]⟩ ∧ y = .str z ∧ Q (.bl (!decide (c ∈ z.cps.toList))) H
theorem k_notSign {X : Cx} : OpR X (compareOp .NotIn) rSgn := op_notIn_sign
theorem r_notSign {c : Nat} {z : Str} (q : Q (.bl (!decide (c ∈ z.cps.toList))) H) : rSgn (signV c) (.str z) H Q := ⟨c, z, rfl, rfl, q⟩
theorem g_slL {a : Addr} {xs : List V} {lo hi : Option Int} (h : H a = some (.lst xs)) (q : ∀ p H2, H p = none → Same H H2 → H2 p = some (.lst (cutV xs lo hi)) → Q (.ref p) H2) : GSlice K (.ref a) lo hi H Q := .inl ⟨a, xs, rfl, SqL.of h, fun p hp => q p _ (by exact hp) (Same.new hp) upd_same⟩
end
theorem cutV2 (a b : V) (xs : List V) : cutV (a :: b :: xs) (some 2) none = xs := by
  unfold cutV
  have i1 : HT.sIx (a :: b :: xs).length 0 (some 2) = 2 := by
    unfold HT.sIx
    simp
  rw [i1, HT.sIx_none]
  show xs.take ((a :: b :: xs).length - 2) = xs
  rw [List.take_of_length_le (by simp)]
theorem signs_data {K : PySem.W.Frag} {H : Hp} {p : Addr} : ∀ {cs : List Nat}, H p = some (.lst (cs.map signV)) → Dd K H (.ref p) (.list (cs.map fun c => .str (S [c]))) := fun {cs} h => .lst h (by
  clear h
  induction cs with
  | nil => exact .nil
  | cons c cs ih => exact .cons (.str _) ih)
theorem signs_plain (cs : List Nat) : (PyData.list (cs.map fun c => .str (S [c]))).plain = true := by
  show PyData.plainAll _ = true
  induction cs with
  | nil => rfl
  | cons c cs ih =>
    rw [List.map_cons, PyData.plainAll, ih]
    rfl
theorem signs_deep (cs : List Nat) : (PyData.list (cs.map fun c => .str (S [c]))).depth ≤ 60 := by
  have : PyData.depthAll (cs.map fun c => PyData.str (S [c])) = 0 := by
    induction cs with
    | nil => rfl
    | cons c cs ih =>
      rw [List.map_cons, PyData.depthAll, ih]
      rfl
  rw [PyData.depth, this]
  decide
theorem signs_eqv (cs : List Nat) : PyData.eqv (.list (cs.map fun c => .str (S [c]))) (.list []) = cs.isEmpty := by
  cases cs <;> rfl
/-! isinstance of what was caught, its class and dict by their letters -/
def rIsE2 (K : PySem.W.Frag) (cls : Value) (d : Option Addr) (a : Addr) : List V → Hp → VK → Prop := fun xs H Q => ∃ D dd, cls = .ref D ∧ d = some dd ∧ rIsE1 K D a dd xs H Q
theorem call_isE2 {X : Cx} {K : PySem.W.Frag} {a : Addr} {cls : Value} {d : Option Addr} {oe : Obj} {pn : List (Addr × Obj)} (hz : Zc cls d oe) (hf : ∃ vs, oe.data = .fields vs) (eK : X.K = K := by rfl) : CallR (X.suite a ((a, oe) :: pn)) (.builtin "isinstance") (rIsE2 K cls d a) := by
  intro pins s σ H xs us Q I r h
  obtain ⟨D, dd, rfl, rfl, h⟩ := h
  exact call_isE1 hz hf eK pins s σ H xs us Q I r h
theorem r_isE2 {K : PySem.W.Frag} {a D dd : Addr} {c : V} {cv : Value} {fs : List (Str × V)} {H : Hp} {Q : VK} (hd : H dd = some (.xd fs)) (hc : ∀ u, RelV c u → u = cv) (ht : PySem.W.typeIn K cv = some (.type "type") ∨ typeOf cv = pure (.type "type")) (hk : (∃ n, cv = .type n) ∨ ∃ C, cv = .ref C ∧ PySem.W.hasDictIn K C = true)
    (hs : PySem.W.subIn K (.ref D) cv = some true) (q : Q (.bl true) H) : rIsE2 K (.ref D) (some dd) a [.ref a, c] H Q := ⟨D, dd, rfl, rfl, c, cv, fs, rfl, hd, hc, ht, hk, hs, q⟩
theorem r_xf {K : PySem.W.Frag} {a C dd : Addr} {v : V} {te : TE} {σ : L2.St} {H : Hp} {Q : VK} (h : te σ H fun x H1 => x = .ref a ∧ H1 dd = some (.xd (valF v)) ∧ Q v H1) (mono : ∀ R R' : VK, (∀ v H', R v H' → R' v H') → te σ H R → te σ H R') : tXf a (.ref C) (some dd) C "value" te σ H Q :=
  mono _ _ (fun x H' ⟨e, h1, q⟩ => ⟨e, rfl, dd, _, v, rfl, h1, rfl, q⟩) h
theorem r_xfVar {a C dd : Addr} {v : V} {i : Nat} {σ : L2.St} {H : Hp} {Q : VK} (hv : σ[i]? = some (some (.ref a))) (hd : H dd = some (.xd (valF v))) (q : Q v H) : tXf a (.ref C) (some dd) C "value" (tVar i) σ H Q := ⟨_, hv, rfl, rfl, dd, _, v, rfl, hd, rfl, q⟩
/-! cuts of a text by its list -/
theorem cut1 (c : Nat) (r : List Nat) : cutS (S (c :: r)) (some 1) none = S r := by
  refine TL.ext_tl ?_
  have l : (S (c :: r)).length = r.length + 1 := by rw [S_len]; rfl
  have i1 : HT.sIx (S (c :: r)).length 0 (some 1) = 1 := by
    rw [l]
    unfold HT.sIx
    simp
  have i2 : HT.sIx (S (c :: r)).length (S (c :: r)).length none = r.length + 1 := by rw [HT.sIx_none, l]
  unfold cutS
  rw [i1, i2]
  show ((c :: r).drop 1).take (r.length + 1 - 1) = r
  rw [Nat.add_sub_cancel]
  exact List.take_length
theorem cut12 (c : Nat) (r : List Nat) : cutS (S (c :: r)) (some 1) (some 2) = S (r.take 1) := by
  refine TL.ext_tl ?_
  have l : (S (c :: r)).length = r.length + 1 := by rw [S_len]; rfl
  have i1 : HT.sIx (S (c :: r)).length 0 (some 1) = 1 := by
    rw [l]
    unfold HT.sIx
    simp
  have i2 : HT.sIx (S (c :: r)).length (S (c :: r)).length (some 2) = min 2 (r.length + 1) := by
    rw [l]
    rfl
  unfold cutS
  rw [i1, i2]
  show ((c :: r).drop 1).take (min 2 (r.length + 1) - 1) = r.take 1
  show r.take _ = _
  cases r with
  | nil => rfl
  | cons d r =>
    have : min 2 ((d :: r).length + 1) - 1 = 1 := by simp
    rw [this]
theorem cut1m {l : List Nat} (h : 2 ≤ l.length) : cutS (S l) (some 1) (some (-1)) = S ((l.drop 1).take (l.length - 2)) := by
  refine TL.ext_tl ?_
  have i1 : HT.sIx (S l).length 0 (some 1) = 1 := by
    rw [S_len]
    unfold HT.sIx
    simp
    omega
  have i2 : HT.sIx (S l).length (S l).length (some (-1)) = l.length - 1 := by
    rw [S_len]
    unfold HT.sIx
    simp
    omega
  unfold cutS
  rw [i1, i2]
  show (l.drop 1).take (l.length - 1 - 1) = _
  rw [show l.length - 1 - 1 = l.length - 2 by omega]
end Tk

set_option Elab.async false
set_option linter.all false
set_option maxRecDepth 100000
set_option maxHeartbeats 4000000
/-! in, not in, len, [] over instances of own classes -/
namespace Tk
open PySem PySem.Spec PyProof.Rows L2
section
variable {X : Cx} {CX : CXT} {n : Nat} {C g : Addr} {sp : Sp} {E : XK}
theorem ins_at {pn : List (Addr × Obj)} {σ : L2.St} {H : Hp} {s : Shared} {a dx : Addr} {fs : List (Str × V)} (I : Inv X pn σ H s) (e : H a = some (.ins C dx fs)) : ∃ od, PySem.W.InstAt s.heap a (PySem.W.instObj C dx) C od := by
  obtain ⟨mA, O, _, _, _, _⟩ := ins_get I.hok e
  obtain ⟨od, ho, _⟩ := lookIn_ns O.ns
  exact ⟨some od, O.obj, rfl, rfl, ho⟩
/-- what the class at C writes under a name: a plain def at g -/
structure Own (K : PySem.W.Frag) (C : Addr) (m : Str) (g : Addr) : Prop where
  at_ : PySem.W.findIn K (.ref C) m = some (some (.ref g))
  fn : PySem.W.isFn K (.ref g) = true
def rInOwn (f : Bool → Bool) (C : Addr) (sp : Sp) (E : XK) : R2 := fun x y H Q => ∃ (a dx : Addr) (fs : List (Str × V)), y = .ref a ∧ H a = some (.ins C dx fs) ∧ sp [.ref a, x] H (fun r H' => ∃ b, r = .bl b ∧ Q (.bl (f b)) H') E
theorem k_inOwn (o : Own X.K C "__contains__" g) (F : FnR X.prog X.w X.K X.mg X.base CX n g sp) (hr : Room n X.A) (hx : Passes CX X E) : OpR X (compareOp .In) (rInOwn (fun b => b) C sp E) := by
  intro pn s σ H x y v u Q I rx ry h
  obtain ⟨a, dx, fs, rfl, ha, q⟩ := h
  obtain rfl : u = Value.ref a := ry
  obtain ⟨od, J⟩ := ins_at I ha
  obtain ⟨m, fr⟩ := I.fr
  refine PySem.W.in_K fr I.ok.mod.kin J o.at_ o.fn (wpAny_mono (wpAny_call (run_fnR (us := [.ref a, v]) (vs := [.ref a, x]) F hr hx I (.cons rfl (.cons rx .nil)) q)) (fun w s' z => ?_) fun _ _ z => z)
  obtain ⟨z', H', I', rz, b, rfl, qb⟩ := z
  obtain rfl : w = Value.bool b := rz
  exact wpAny_pure ⟨.bl b, H', I', rfl, qb⟩
theorem k_notinOwn (o : Own X.K C "__contains__" g) (F : FnR X.prog X.w X.K X.mg X.base CX n g sp) (hr : Room n X.A) (hx : Passes CX X E) : OpR X (compareOp .NotIn) (rInOwn (fun b => !b) C sp E) := by
  intro pn s σ H x y v u Q I rx ry h
  obtain ⟨a, dx, fs, rfl, ha, q⟩ := h
  obtain rfl : u = Value.ref a := ry
  obtain ⟨od, J⟩ := ins_at I ha
  obtain ⟨m, fr⟩ := I.fr
  refine PySem.W.notIn_K fr I.ok.mod.kin J o.at_ o.fn (wpAny_mono (wpAny_call (run_fnR (us := [.ref a, v]) (vs := [.ref a, x]) F hr hx I (.cons rfl (.cons rx .nil)) q)) (fun w s' z => ?_) fun _ _ z => z)
  obtain ⟨z', H', I', rz, b, rfl, qb⟩ := z
  obtain rfl : w = Value.bool b := rz
  exact wpAny_pure ⟨.bl (!b), H', I', rfl, qb⟩
/-- a op b, both of the class at C that writes op -/
def rBinOwn (C : Addr) (sp : Sp) (E : XK) : R2 := fun x y H Q => ∃ (a b dx dy : Addr) (fs gs : List (Str × V)), x = .ref a ∧ y = .ref b ∧ H a = some (.ins C dx fs) ∧ H b = some (.ins C dy gs) ∧ sp [.ref a, .ref b] H Q E
theorem k_binOwn {op : Operator} (o : Own X.K C (PySem.dunder op.info.2) g) (hc : PySem.W.selfFirst X.K C = true) (F : FnR X.prog X.w X.K X.mg X.base CX n g sp) (hr : Room n X.A) (hx : Passes CX X E) : OpR X (binaryOp op) (rBinOwn C sp E) := by
  intro pn s σ H x y v u Q I rx ry h
  obtain ⟨a, b, dx, dy, fs, gs, rfl, rfl, ha, hb, q⟩ := h
  obtain rfl : v = Value.ref a := rx
  obtain rfl : u = Value.ref b := ry
  obtain ⟨od, J⟩ := ins_at I ha
  obtain ⟨oe, J'⟩ := ins_at I hb
  obtain ⟨m, fr⟩ := I.fr
  refine PySem.W.binop_K fr I.ok.mod.kin J J'.type hc o.at_ o.fn (wpAny_mono (wpAny_call (run_fnR (us := [.ref a, .ref b]) (vs := [.ref a, .ref b]) F hr hx I (.cons rfl (.cons rfl .nil)) q)) (fun w s' z => ?_) fun _ _ z => z)
  obtain ⟨z', H', I', rz, qz⟩ := z
  exact SlX.cmpback rz ⟨z', H', I', rz, qz⟩
/-- a == b (or another comparison that the class at C writes), both of that class -/
theorem k_cmpOwn {op : CmpOp} (hop : ∀ a b, compareOp op a b = richCompare op a b) (o : Own X.K C (cmpInfo op).2.1 g) (F : FnR X.prog X.w X.K X.mg X.base CX n g sp) (hr : Room n X.A) (hx : Passes CX X E) : OpR X (compareOp op) (rBinOwn C sp E) := by
  intro pn s σ H x y v u Q I rx ry h
  obtain ⟨a, b, dx, dy, fs, gs, rfl, rfl, ha, hb, q⟩ := h
  obtain rfl : v = Value.ref a := rx
  obtain rfl : u = Value.ref b := ry
  obtain ⟨od, J⟩ := ins_at I ha
  obtain ⟨oe, J'⟩ := ins_at I hb
  obtain ⟨m, fr⟩ := I.fr
  rw [hop]
  refine PySem.W.cmp_K (op := op) (tb := .ref C) hr.units0 fr I.ok.mod.kin J J'.type (by simp [PySem.W.notFirst]) o.at_ o.fn (wpAny_mono (wpAny_call (run_fnR (us := [.ref a, .ref b]) (vs := [.ref a, .ref b]) F hr hx I (.cons rfl (.cons rfl .nil)) q)) (fun w s' z => ?_) fun _ _ z => z)
  obtain ⟨z', H', I', rz, qz⟩ := z
  exact SlX.cmpback rz ⟨z', H', I', rz, qz⟩
/-- len(a) -/
def rLenOwn (C : Addr) (sp : Sp) (E : XK) : List V → Hp → VK → Prop := fun xs H Q => ∃ (a dx : Addr) (fs : List (Str × V)), xs = [.ref a] ∧ H a = some (.ins C dx fs) ∧ sp [.ref a] H (fun r H' => ∃ k : Nat, r = .int k ∧ k ≤ 100000 ∧ Q (.int k) H') E
theorem k_lenOwn (o : Own X.K C "__len__" g) (F : FnR X.prog X.w X.K X.mg X.base CX n g sp) (hr : Room (n + 1) X.A) (hx : Passes CX X E) : CallR X (.builtin "len") (rLenOwn C sp E) := by
  intro pn s σ H xs us Q I r h
  obtain ⟨a, dx, fs, rfl, ha, q⟩ := h
  obtain ⟨u, rfl, ru⟩ := vals1 r
  obtain rfl : u = Value.ref a := ru
  obtain ⟨od, J⟩ := ins_at I ha
  obtain ⟨m, fr⟩ := I.fr
  refine PySem.W.len_K fr I.ok.mod.kin J o.at_ o.fn (wpAny_mono (wpAny_call (SlX.run_at (us := [.ref a]) (ws := [.ref a]) F (Room.in1 hr) I.env0.in1 hx I (.cons rfl .nil) q)) (fun w s' z => ?_) fun _ _ z => z)
  obtain ⟨z', H', I', rz, k, rfl, hk, qz⟩ := z
  obtain ⟨t, rfl⟩ := (show ∃ t, w = Value.int k t from rz)
  exact ⟨⟨by omega, by omega⟩, .int k, H', I'.tok _, ⟨_, rfl⟩, qz⟩
/-- a[k], a of the class at C that writes __getitem__ -/
def rSubOwn (C : Addr) (sp : Sp) (E : XK) : R2 := fun x y H Q => ∃ (a dx : Addr) (fs : List (Str × V)), x = .ref a ∧ H a = some (.ins C dx fs) ∧ sp [.ref a, y] H Q E
theorem pe_subOwn {e1 e2 : Expr} {t1 t2 : TE} {pos : Pos} (o : Own X.K C "__getitem__" g) (hg : PySem.W.fnIn X.K g = true) (F : FnR X.prog X.w X.K X.mg X.base CX n g sp) (hr : Room (n + 1) X.A) (hx : Passes CX X E) (h1 : PE X e1 t1) (h2 : PE X e2 t2)
    (hs : ∀ v u, subscripted e2 true v u = runValue (.builtin "lifetime.subscript" ⟨[v, u], []⟩) := by intro _ _; rfl) : PE X (.Subscript e1 e2 pos) (tOp (rSubOwn C sp E) t1 t2) := by
  refine ⟨fun pn s σ H Q I h => ?_⟩
  refine Subscript_ (binT h1 h2 I h fun v u s2 x y H2 I2 rx ry q => ?_)
  obtain ⟨a, dx, fs, rfl, ha, q⟩ := q
  obtain rfl : v = Value.ref a := rx
  obtain ⟨od, J⟩ := ins_at I2 ha
  obtain ⟨m, fr⟩ := I2.fr
  refine PySem.W.sub_K fr I2.ok.mod.kin J o.at_ hg o.fn (wpAny_mono (wpAny_call (SlX.run_at (us := [.ref a, u]) (ws := [.ref a, y]) F (Room.in1 hr) I2.env0.in1 hx I2 (.cons rfl (.cons ry .nil)) q)) (fun w s' z => z) fun _ _ z => z) (hs _ _)
end
end Tk

set_option Elab.async false
set_option linter.all false
set_option maxRecDepth 100000
set_option maxHeartbeats 4000000
/-! sets of texts: set(xs), len, sorted; the members as a list, none twice, in some order -/
namespace Ts
open PySem PySem.Spec PyProof.Rows L2
section
variable {P : Program} {w : World} {h h' : Heap} {a : Addr} {S : List Str}
abbrev sk (P : Program) (w : World) := PySem.strKind P w
/-- the text of a row of the table -/
def txOf (e : Int × Value) : Str := match e.2 with | .str x _ => x | _ => Str.empty
def IsTx (P : Program) (w : World) (e : Int × Value) : Prop := ∃ (x : Str) (u : Tok), e.2 = Value.str x u ∧ e.1 = (sk P w).hash x
/-- one more text -/
def addT (S : List Str) (x : Str) : List Str := if x ∈ S then S else x :: S
structure Raw (P : Program) (w : World) (h : Heap) (a : Addr) (S : List Str) (ob : Obj) (rows : Array (Int × Value)) (ep : Nat) (tb : SetTable) : Prop where
  at_ : h.get? a = some ob
  ex : ob.ExactSet
  dat : ob.data = .set rows ep tb
  txt : ∀ e ∈ rows.toList, IsTx P w e
  mem : (rows.toList.map txOf).Perm S
  nd : S.Nodup
  few : rows.size < scanBound
  fits : tb.fits rows.size = true
  ris : Ris tb.place.toList
  led : w.params.followText "set-order" = true ∨ tb.led = true
/-- the set of texts at a -/
def TSet (P : Program) (w : World) (h : Heap) (a : Addr) (S : List Str) : Prop := ∃ ob rows ep tb, Raw P w h a S ob rows ep tb
theorem TSet.keep (R : TSet P w h a S) (k : ∀ o, h.get? a = some o → h'.get? a = some o) : TSet P w h' a S := by
  obtain ⟨ob, rows, ep, tb, r⟩ := R
  exact ⟨ob, rows, ep, tb, { r with at_ := k ob r.at_ }⟩
theorem Raw.size {ob : Obj} {rows : Array (Int × Value)} {ep : Nat} {tb : SetTable} (r : Raw P w h a S ob rows ep tb) : rows.size = S.length := by
  have q := r.mem.length_eq
  rw [List.length_map, Array.length_toList] at q
  exact q
theorem tx_elems {l : List (Int × Value)} (g : ∀ e ∈ l, IsTx P w e) : ElemsOf (sk P w) l := by
  intro e he
  obtain ⟨x, u, h1, h2⟩ := g e he
  refine ⟨⟨x, ?_, h2⟩, ?_⟩ <;> rw [h1]
  · exact strKind_is P w x u
  · rfl
theorem tx_is {e : Int × Value} (g : IsTx P w e) (x : Str) : (sk P w).is x e.2 = true ↔ txOf e = x := by
  obtain ⟨y, u, h1, _⟩ := g
  unfold txOf
  rw [h1]
  constructor
  · intro z
    obtain ⟨u', z'⟩ := Value.isStrOf_shape (show Value.isStrOf x (.str y u) = true from z)
    injection z'
  · intro z
    rw [← z]
    exact strKind_is P w y u
end
section
variable {P : Program} {w : World} {A : Around} {E : Value → Shared → Prop} {s : Shared} {a : Addr} {S : List Str}
/-- the end of an adding: the rows are stored, and laid anew where they are too many -/
theorem add_end {gv : Bool → Sem Unit} (hgv : ∀ (b : Bool) (t : Shared) (Q' : Unit → Shared → Prop), Q' () t → wpAny (model P w) A (gv b) Q' E t) {ob : Obj} {rows rows1 : Array (Int × Value)} {ep : Nat} {tb tb1 : SetTable}
    (e1 : s.heap.get? a = some ob) (e2 : ob.ExactSet) (e3 : ob.data = .set rows ep tb) (g1 : ∀ e ∈ rows1.toList, IsTx P w e) (m1 : (rows1.toList.map txOf).Perm S) (n1 : S.Nodup) (f1 : rows1.size < scanBound)
    (t1 : tb1.fits rows1.size = true) (r1 : Ris tb1.place.toList) (l1 : w.params.followText "set-order" = true ∨ tb1.led = true) {dm : Bool} {R : Option Bool → Shared → Prop}
    (hR : ∀ h', Heap.SameBut a s.heap h' → TSet P w h' a S → R (some true) { s with heap := h' }) :
    wpAny (model P w) A (do storeSet a rows1 tb1; if (!dm && tb1.tooFull) = true then do { gv (relayAll tb1 rows1 (SetTable.grown rows1.size)).2.2; storeSet a (relayAll tb1 rows1 (SetTable.grown rows1.size)).1 (relayAll tb1 rows1 (SetTable.grown rows1.size)).2.1; pure (some true) } else pure (some true)) R E s := by
  have k1 := store_at (es' := rows1) (t' := tb1) e1 e3
  have b1 := Heap.SameBut.update s.heap a (Obj.putSet rows1 tb1)
  refine wpAny_bind (wpAny_storeSet_of e1 e3 ?_ (fits_of_scanBound f1))
  split
  case isFalse => exact wpAny_pure (hR _ b1 ⟨_, rows1, _, tb1, k1, e2, rfl, g1, m1, n1, f1, t1, r1, l1⟩)
  case isTrue =>
    have p2 := relayAll_perm tb1 rows1 (SetTable.grown rows1.size)
    have t2 := relayAll_fits tb1 rows1 (SetTable.grown rows1.size)
    have r2 := relayAll_ris tb1 rows1 (SetTable.grown rows1.size)
    have l2 := relayAll_led tb1 rows1 (SetTable.grown rows1.size)
    generalize relayAll tb1 rows1 (SetTable.grown rows1.size) = Z at p2 t2 r2 l2 ⊢
    obtain ⟨rows2, tb2, gw⟩ := Z
    dsimp only at p2 t2 r2 l2 ⊢
    have sz : rows2.size = rows1.size := by rw [← Array.length_toList, p2.length_eq, Array.length_toList]
    have f2 : rows2.size < scanBound := by rw [sz]; exact f1
    refine wpAny_bind (hgv _ _ _ (wpAny_bind (wpAny_storeSet_of k1 rfl ?_ (fits_of_scanBound f2))))
    have k2 := store_at (es' := rows2) (t' := tb2) k1 rfl
    exact wpAny_pure (hR _ (b1.trans (Heap.SameBut.update _ a _)) ⟨_, rows2, _, tb2, k2, e2, rfl, fun e he => g1 e (p2.mem_iff.mp he), (p2.map txOf).trans m1, n1, f2, t2, r2, l1.imp id fun z => by rw [l2]; exact z⟩)
theorem add_txt {x : Str} {u : Tok} {Q : Bool → Shared → Prop} (R : TSet P w s.heap a S) (room : S.length + 1 < scanBound)
    (hQ : ∀ h' b, Heap.SameBut a s.heap h' → TSet P w h' a (addT S x) → Q b { s with heap := h' }) : wpAny (model P w) A (setAddHashed a (.str x u) ((sk P w).hash x)) Q E s := by
  obtain ⟨ob, rows, ep, tb, r⟩ := R
  have isx : (sk P w).is x (.str x u) = true := strKind_is P w x u
  have sc : (Value.str x u).scannable = true := rfl
  have el : ElemsOf (sk P w) rows.toList := tx_elems r.txt
  unfold setAddHashed setAddHashedIn
  refine wpAny_holding (wpAny_bind (wpAny_setState_of r.at_ r.dat r.fits ?_))
  dsimp only
  rw [byScan_of sc r.few el]
  simp only [↓reduceIte]
  unfold setAddByScan
  refine wpAny_bind (wpAny_bind (wpAny_rule (wpAny_bind (wpAny_setScan_of isx r.at_ r.dat r.fits el ?_))))
  cases fi : List.findIdx? (fun e => (sk P w).is x e.2) rows.toList with
  | some j =>
    dsimp only
    obtain ⟨hj, pj, _⟩ := List.findIdx?_eq_some_iff_getElem.mp fi
    have hm : x ∈ S := r.mem.mem_iff.mp (List.mem_map.mpr ⟨rows.toList[j], List.getElem_mem hj, (tx_is (r.txt _ (List.getElem_mem hj)) x).mp pj⟩)
    refine wpAny_pure (wpAny_pure (hQ s.heap _ (Heap.SameBut.refl a s.heap) ?_))
    unfold addT
    rw [if_pos hm]
    exact ⟨ob, rows, ep, tb, r⟩
  | none =>
    dsimp only
    have nm : x ∉ S := fun z => by
      obtain ⟨e, he, q⟩ := List.mem_map.mp (r.mem.mem_iff.mpr z)
      have c := List.findIdx?_eq_none_iff.mp fi e he
      rw [(tx_is (r.txt e he) x).mpr q] at c
      cases c
    have gw : ∀ (b : Bool) {t : Shared} {Q' : Unit → Shared → Prop}, Q' () t → wpAny (model P w) A (match b with | true => rule "set.scan.the-table-gave-way" | false => pure ()) Q' E t := fun b t Q' q => by
      cases b
      · exact wpAny_pure q
      · exact wpAny_rule q
    have p1 := layNew_perm tb rows ((sk P w).hash x) (.str x u)
    have t1 := layNew_fits tb rows ((sk P w).hash x) (.str x u)
    have r1 := layNew_ris tb rows ((sk P w).hash x) (.str x u) r.ris
    have l1 := layNew_led tb rows ((sk P w).hash x) (.str x u)
    generalize layNew tb rows ((sk P w).hash x) (.str x u) = Z at p1 t1 r1 l1 ⊢
    obtain ⟨rows1, tb1, dm, gv⟩ := Z
    dsimp only at p1 t1 r1 l1 ⊢
    rw [Array.toList_push] at p1
    have pc : rows1.toList.Perm (((sk P w).hash x, Value.str x u) :: rows.toList) := p1.trans (List.perm_append_singleton _ _)
    have g1 : ∀ e ∈ rows1.toList, IsTx P w e := fun e he => by
      rcases List.mem_cons.mp (pc.mem_iff.mp he) with z | z
      · exact ⟨x, u, by rw [z], by rw [z]⟩
      · exact r.txt e z
    have es : addT S x = x :: S := if_neg nm
    have m1 : (rows1.toList.map txOf).Perm (addT S x) := by
      rw [es]
      exact (pc.map txOf).trans (List.Perm.cons x r.mem)
    have n1 : (addT S x).Nodup := by
      rw [es]
      exact List.nodup_cons.mpr ⟨nm, r.nd⟩
    have sz : rows1.size = S.length + 1 := by
      have q := m1.length_eq
      rw [es, List.length_map, Array.length_toList] at q
      exact q
    have f1 : rows1.size < scanBound := by rw [sz]; exact room
    have ld : w.params.followText "set-order" = true ∨ tb1.led = true := r.led.imp id fun z => by rw [l1]; exact z
    refine wpAny_bind (gw _ ?_)
    split
    · refine wpAny_bind ?_
      rw [hashByValue_scannable 8 sc]
      refine wpAny_pure ?_
      refine add_end ?_ r.at_ r.ex r.dat g1 m1 n1 f1 ?_ ?_ ?_ ?_
      · intro b t Q' q
        cases b <;> first | exact wpAny_pure q | exact wpAny_rule q
      · first | (split <;> first | exact t1 | exact SetTable.fits_plain_off t1) | exact t1
      · first | (split <;> exact r1) | exact r1
      · first | (split <;> exact ld) | exact ld
      · intro h' sb y; dsimp only; exact wpAny_pure (hQ h' _ sb y)
    · refine wpAny_bind (wpAny_pure ?_)
      simp only [↓reduceIte]
      refine add_end ?_ r.at_ r.ex r.dat g1 m1 n1 f1 t1 r1 ld ?_
      · intro b t Q' q
        cases b <;> first | exact wpAny_pure q | exact wpAny_rule q
      · intro h' sb y; dsimp only; exact wpAny_pure (hQ h' _ sb y)
end
/-- the texts of a row, the last one added last -/
def gather : List Str → List Str
  | [] => []
  | x :: xs => addT (gather xs) x
theorem addT_mem {S : List Str} {x y : Str} : y ∈ addT S x ↔ y = x ∨ y ∈ S := by
  unfold addT
  split
  · rename_i h
    exact ⟨.inr, fun z => z.elim (fun e => e ▸ h) id⟩
  · exact List.mem_cons
theorem gather_mem {xs : List Str} {y : Str} : y ∈ gather xs ↔ y ∈ xs := by
  induction xs with
  | nil => exact Iff.rfl
  | cons x xs ih => rw [gather, addT_mem, ih, List.mem_cons]
theorem addT_len (S : List Str) (x : Str) : (addT S x).length ≤ S.length + 1 := by
  unfold addT
  split
  · omega
  · exact Nat.le_refl _
theorem gather_len (xs : List Str) : (gather xs).length ≤ xs.length := by
  induction xs with
  | nil => exact Nat.le_refl _
  | cons x xs ih =>
    rw [gather, List.length_cons]
    exact Nat.le_trans (addT_len _ _) (by omega)

section
variable {P : Program} {w : World} {A : Around} {E : Value → Shared → Prop} {s : Shared}
theorem tset_new {h : Heap} {a : Addr} (e : h.get? a = some { cls := .type "set", dict := none, data := .set #[] 0 (.fresh 0 0 (!w.params.followText "set-order")) }) : TSet P w h a [] := by
  refine ⟨_, #[], 0, _, e, ⟨rfl, rfl, rfl⟩, rfl, ?_, .nil, .nil, by decide, rfl, .nil, ?_⟩
  · intro e he
    exact absurd he (by simp)
  · cases q : w.params.followText "set-order" with
    | true => exact .inl rfl
    | false => exact .inr rfl
/-- set.update's own loop, over anything that walks texts -/
theorem upd_loop {It : Addr} {fp wr : List Addr} {G : Array GenState → Array GenState → Prop} {n : Nat} {Pv : Nat → Value → Prop} {St : Nat → Shared → Prop} {R : Result → Shared → Prop} (W : WalksS P w A.in1 It fp wr G n Pv St) (D : Addr) (nf : D ∉ fp) (xs : List Str)
    (en : n = xs.length) (room : xs.length + 1 < scanBound) (hv : ∀ i v, Pv i v → ∃ x u, xs[i]? = some x ∧ v = Value.str x u) : ∀ (m i : Nat) (s : Shared), n - i = m → i ≤ n → St i s → TSet P w s.heap D (gather (xs.take i).reverse) →
      (∀ s', Moved (D :: wr) G s s' → TSet P w s'.heap D (gather xs.reverse) → R (.ok (.ret .none)) s') → codeAny (model P w) A (.builtin "set.update.loop" ⟨[.ref D, .ref It], []⟩) R s := by
  have nw : D ∉ wr := fun z => nf (W.sub _ z)
  have up : ∀ b ∈ wr, b ∈ D :: wr := fun b z => List.mem_cons_of_mem _ z
  intro m
  induction m with
  | zero =>
    intro i s e1 e2 st hS hR
    obtain rfl : i = n := by omega
    refine codeAny_builtin F.entry_set_update_loop (?_ : _)
    rw [Around.under_plainId F.plain_set_update_loop (_ : _)]
    show wpAny (model P w) A.in1 (pyNext (.ref It) >>= _) _ _ s
    refine wpAny_bind (W.done s _ _ st fun t mv => ?_)
    show wpAny (model P w) A.in1 (ret Value.none) _ _ t
    rw [List.take_of_length_le (show xs.length ≤ i by omega)] at hS
    exact wpAny_pure (hR t (mv.mono up) (hS.keep fun o e => mv.heap D o nw e))
  | succ m ih =>
    intro i s e1 e2 st hS hR
    have lt : i < n := by omega
    refine codeAny_builtin F.entry_set_update_loop (?_ : _)
    rw [Around.under_plainId F.plain_set_update_loop (_ : _)]
    show wpAny (model P w) A.in1 (pyNext (.ref It) >>= _) _ _ s
    refine wpAny_bind (W.item i s _ _ lt st fun v t pv st' mv => ?_)
    obtain ⟨x, u, hx, rfl⟩ := hv i v pv
    have hS1 : TSet P w t.heap D (gather (xs.take i).reverse) := hS.keep fun o e => mv.heap D o nw e
    show wpAny (model P w) A.in1 (holding [Value.str x u] (setAdd D (.str x u)) >>= _) _ _ t
    refine wpAny_bind (wpAny_holding (?_ : _))
    unfold setAdd
    refine wpAny_holding (wpAny_bind ((sk P w).pyHash (k := x) (strKind_is _ _ _ _) ?_))
    have ln : (gather (xs.take i).reverse).length + 1 < scanBound := by
      have q := gather_len (xs.take i).reverse
      rw [List.length_reverse, List.length_take] at q
      omega
    refine add_txt (s := { t with toks := t.toks + 1 }) hS1 ln fun h' b sb hS2 => ?_
    have hS3 : TSet P w h' D (gather (xs.take (i + 1)).reverse) := by
      rw [List.take_add_one, hx, List.reverse_append]
      exact hS2
    refine wpAny_pure ⟨plainId_quiet F.plain_set_update_loop _, ih (i + 1) _ (by omega) lt (W.frame _ t _ _ st' (Nat.le_succ _) fun c hc o e => ?_) hS3 fun t2 mv2 hS4 => ?_⟩
    · rw [sb.2 c fun z : c = D => nf (z ▸ hc)]
      exact e
    · refine hR t2 (Moved.trans W.gtrans ((mv.mono up).then_heap (Nat.le_succ _) fun c o hc e => ?_) mv2) hS4
      rw [sb.2 c fun z : c = D => hc (z ▸ List.mem_cons_self)]
      exact e
end
section
variable {P : Program} {w : World} {A : Around} {E : Value → Shared → Prop} {s : Shared}
/-- a new set -/
abbrev newS (w : World) : Obj := { cls := .type "set", dict := none, data := .set #[] 0 (.fresh 0 0 (!w.params.followText "set-order")) }

set_option maxHeartbeats 8000000 in
/-- set(xs), xs a list of texts -/
theorem set_list {l : Addr} {its : Array Value} {xs : List Str} {Q : Value → Shared → Prop} (hn : A.handled = none) (hl : s.heap.IsList l its) (hx : StrsAre its.toList xs) (room : xs.length + 1 < scanBound)
    (hQ : ∀ (h' : Heap) (tk : Nat), TSet P w h' s.heap.objs.size (gather xs.reverse) → (∀ b o, s.heap.get? b = some o → h'.get? b = some o) → Q (.ref s.heap.objs.size) { s with heap := h', toks := tk }) : wpAny (model P w) A (call (.type "set") [.ref l]) Q E s := by
  obtain ⟨mc, ml, mro⟩ := F.called_set.mro
  have mk := F.called_set.made
  have sb := F.called_set.sub
  refine wpAny_call (codeAny_of_tree (show wpAny (model P w) _ (callAny (.type "set") _) _ _ s from ?_))
  refine wpAny_pure ⟨Code.quiet_builtin _ (by decide +kernel), codeAny_builtin F.entry_type_call (?_ : _)⟩
  rw [Around.under_plain (weight_type_call_type "set" [.ref l] []) (by rfl)]
  have q1 := F.called_set.notType
  have q2 := F.called_set.canCreate
  have q3 := F.typeCall_set_1 (.ref l)
  repeat any_goals first | assumption | wp_step
  refine codeAny_mono (code_set_led1 (.ref l) (E := E) (Q₁ := fun v t => v = .ref s.heap.objs.size ∧ t = { s with heap := s.heap.push (newS w) }) ⟨rfl, rfl⟩) fun r t hr => ?_
  match r, hr with
  | .error e, hr => exact hr
  | .ok (.ret v), hr =>
    obtain ⟨rfl, rfl⟩ := hr
    have gS : (s.heap.push (newS w)).get? s.heap.objs.size = some (newS w) := Heap.get?_push_size _ rfl
    have tS : Shared.TypeIs { s with heap := s.heap.push (newS w) } (.ref s.heap.objs.size) "set" := ⟨_, gS, rfl⟩
    have i1 := F.called_set.init.lookup
    have i2 := F.called_set.init.bind (.ref s.heap.objs.size)
    repeat any_goals first | assumption | wp_step
    refine codeAny_mono (codeAny_call_builtin (R := wants (fun r t2 => r = .none ∧ ∃ h' tk, t2 = { s with heap := h', toks := tk } ∧ TSet P w h' s.heap.objs.size (gather xs.reverse) ∧ (∀ b o, s.heap.get? b = some o → h'.get? b = some o)) E) F.called_set.init.plain F.entry_set_init (check_set_init_1 tS ?_)) fun r2 t2 hr2 => ?_
    · obtain ⟨⟨c0, d0, dat0, sl0⟩, o1, o2, n0, o3⟩ := hl
      simp only at o2 o3
      subst o2
      subst o3
      have o1' : (s.heap.push (newS w)).get? l = some { cls := .type "list", dict := d0, data := .seq its n0, slots := sl0 } := Heap.get?_push_of_some _ o1
      have s1 := F.sub_list_set
      have s2 := F.sub_list_frozenset
      have ne : (Value.type "list" == Value.type "dict") = false := by decide
      have l1 : (s.heap.push (newS w)).IsList l its := ⟨_, o1', rfl, n0, rfl⟩
      unfold Builtin.«set.__init__» noKeywords Builtin.Frozenset.updateFrom
      generalize ePI : pyIter = PI
      wp_walk
      subst ePI
      refine wpAny_pyIter_list l1 (wpAny_bind (wpAny_runValue ?_))
      have lt := Heap.lt_size o1
      have hn3 : A.in1.in1.in1.handled = none := by simp [hn]
      have zz : (s.heap.push (newS w)).objs.size = s.heap.objs.size + 1 := Heap.size_push ..
      have nI : l ≠ (s.heap.push (newS w)).objs.size := by
        rw [zz]
        exact Nat.ne_of_lt (Nat.lt_succ_of_lt lt)
      have nf : s.heap.objs.size ∉ [(s.heap.push (newS w)).objs.size, l] := by
        rw [zz]
        simp only [List.mem_cons, List.not_mem_nil, or_false, not_or]
        exact ⟨Nat.ne_of_lt (Nat.lt_succ_self _), Nat.ne_of_gt lt⟩
      have sz : its.size = xs.length := by rw [← Array.length_toList]; exact StrsAre.length hx
      refine upd_loop ((Walks.list hn3 _ l nI its).toS) s.heap.objs.size nf xs sz room (fun i v z => ?_) (its.size - 0) 0 _ (by omega) (Nat.zero_le _) ⟨⟨_, Heap.get?_push_size _ rfl, rfl, rfl⟩, l1.push _⟩ (tset_new (Heap.get?_push_of_some _ gS)) ?_
      · obtain ⟨y, u, e1, e2⟩ := StrsAre.item hx i v (by rw [Array.getElem?_toList]; exact z)
        exact ⟨y, u, e2, e1⟩
      · rintro ⟨h', g', d', tk', os'⟩ mv hS
        obtain rfl : g' = s.gens := mv.gens
        obtain rfl : d' = s.drawn := mv.drawn
        obtain rfl : os' = s.os := mv.os
        show wpAny _ _ _ _ _ _
        refine wpAny_pure (show wpAny _ _ (ret Value.none) _ _ _ from wpAny_pure ⟨rfl, h', tk', rfl, hS, fun b o e => ?_⟩)
        have lb := Heap.lt_size e
        refine mv.heap b o ?_ (Heap.get?_push_of_some _ (Heap.get?_push_of_some _ e))
        rw [zz]
        simp only [List.mem_cons, List.not_mem_nil, or_false, not_or]
        exact ⟨Nat.ne_of_lt lb, Nat.ne_of_lt (Nat.lt_succ_of_lt lb)⟩
    · match r2, hr2 with
      | .error e, hr2 => exact hr2
      | .ok (.ret v2), hr2 =>
        obtain ⟨rfl, h', tk, rfl, hS, k⟩ := hr2
        repeat any_goals first | assumption | wp_step
        exact hQ _ _ hS k

set_option maxHeartbeats 8000000 in
/-- set(xs), xs a tuple of texts -/
theorem set_tuple {l : Addr} {its : Array Value} {xs : List Str} {Q : Value → Shared → Prop} (hn : A.handled = none) (hl : s.heap.IsTuple l its) (hx : StrsAre its.toList xs) (room : xs.length + 1 < scanBound)
    (hQ : ∀ (h' : Heap) (tk : Nat), TSet P w h' s.heap.objs.size (gather xs.reverse) → (∀ b o, s.heap.get? b = some o → h'.get? b = some o) → Q (.ref s.heap.objs.size) { s with heap := h', toks := tk }) : wpAny (model P w) A (call (.type "set") [.ref l]) Q E s := by
  obtain ⟨mc, ml, mro⟩ := F.called_set.mro
  have mk := F.called_set.made
  have sb := F.called_set.sub
  refine wpAny_call (codeAny_of_tree (show wpAny (model P w) _ (callAny (.type "set") _) _ _ s from ?_))
  refine wpAny_pure ⟨Code.quiet_builtin _ (by decide +kernel), codeAny_builtin F.entry_type_call (?_ : _)⟩
  rw [Around.under_plain (weight_type_call_type "set" [.ref l] []) (by rfl)]
  have q1 := F.called_set.notType
  have q2 := F.called_set.canCreate
  have q3 := F.typeCall_set_1 (.ref l)
  repeat any_goals first | assumption | wp_step
  refine codeAny_mono (code_set_led1 (.ref l) (E := E) (Q₁ := fun v t => v = .ref s.heap.objs.size ∧ t = { s with heap := s.heap.push (newS w) }) ⟨rfl, rfl⟩) fun r t hr => ?_
  match r, hr with
  | .error e, hr => exact hr
  | .ok (.ret v), hr =>
    obtain ⟨rfl, rfl⟩ := hr
    have gS : (s.heap.push (newS w)).get? s.heap.objs.size = some (newS w) := Heap.get?_push_size _ rfl
    have tS : Shared.TypeIs { s with heap := s.heap.push (newS w) } (.ref s.heap.objs.size) "set" := ⟨_, gS, rfl⟩
    have i1 := F.called_set.init.lookup
    have i2 := F.called_set.init.bind (.ref s.heap.objs.size)
    repeat any_goals first | assumption | wp_step
    refine codeAny_mono (codeAny_call_builtin (R := wants (fun r t2 => r = .none ∧ ∃ h' tk, t2 = { s with heap := h', toks := tk } ∧ TSet P w h' s.heap.objs.size (gather xs.reverse) ∧ (∀ b o, s.heap.get? b = some o → h'.get? b = some o)) E) F.called_set.init.plain F.entry_set_init (check_set_init_1 tS ?_)) fun r2 t2 hr2 => ?_
    · obtain ⟨⟨c0, d0, dat0, sl0⟩, o1, o2, n0, o3⟩ := hl
      simp only at o2 o3
      subst o2
      subst o3
      have o1' : (s.heap.push (newS w)).get? l = some { cls := .type "tuple", dict := d0, data := .seq its n0, slots := sl0 } := Heap.get?_push_of_some _ o1
      have s1 := F.sub_tuple_set
      have s2 := F.sub_tuple_frozenset
      have ne : (Value.type "tuple" == Value.type "dict") = false := by decide
      have l1 : (s.heap.push (newS w)).IsTuple l its := ⟨_, o1', rfl, n0, rfl⟩
      unfold Builtin.«set.__init__» noKeywords Builtin.Frozenset.updateFrom
      generalize ePI : pyIter = PI
      wp_walk
      subst ePI
      refine wpAny_pyIter_tuple l1 (wpAny_bind (wpAny_runValue ?_))
      have lt := Heap.lt_size o1
      have hn3 : A.in1.in1.in1.handled = none := by simp [hn]
      have zz : (s.heap.push (newS w)).objs.size = s.heap.objs.size + 1 := Heap.size_push ..
      have nI : l ≠ (s.heap.push (newS w)).objs.size := by
        rw [zz]
        exact Nat.ne_of_lt (Nat.lt_succ_of_lt lt)
      have nf : s.heap.objs.size ∉ [(s.heap.push (newS w)).objs.size, l] := by
        rw [zz]
        simp only [List.mem_cons, List.not_mem_nil, or_false, not_or]
        exact ⟨Nat.ne_of_lt (Nat.lt_succ_self _), Nat.ne_of_gt lt⟩
      have sz : its.size = xs.length := by rw [← Array.length_toList]; exact StrsAre.length hx
      refine upd_loop ((Walks.tuple hn3 _ l nI its).toS) s.heap.objs.size nf xs sz room (fun i v z => ?_) (its.size - 0) 0 _ (by omega) (Nat.zero_le _) ⟨⟨_, Heap.get?_push_size _ rfl, rfl, rfl⟩, l1.push _⟩ (tset_new (Heap.get?_push_of_some _ gS)) ?_
      · obtain ⟨y, u, e1, e2⟩ := StrsAre.item hx i v (by rw [Array.getElem?_toList]; exact z)
        exact ⟨y, u, e2, e1⟩
      · rintro ⟨h', g', d', tk', os'⟩ mv hS
        obtain rfl : g' = s.gens := mv.gens
        obtain rfl : d' = s.drawn := mv.drawn
        obtain rfl : os' = s.os := mv.os
        show wpAny _ _ _ _ _ _
        refine wpAny_pure (show wpAny _ _ (ret Value.none) _ _ _ from wpAny_pure ⟨rfl, h', tk', rfl, hS, fun b o e => ?_⟩)
        have lb := Heap.lt_size e
        refine mv.heap b o ?_ (Heap.get?_push_of_some _ (Heap.get?_push_of_some _ e))
        rw [zz]
        simp only [List.mem_cons, List.not_mem_nil, or_false, not_or]
        exact ⟨Nat.ne_of_lt lb, Nat.ne_of_lt (Nat.lt_succ_of_lt lb)⟩
    · match r2, hr2 with
      | .error e, hr2 => exact hr2
      | .ok (.ret v2), hr2 =>
        obtain ⟨rfl, h', tk, rfl, hS, k⟩ := hr2
        repeat any_goals first | assumption | wp_step
        exact hQ _ _ hS k
end
/-! sorted(a set of texts) -/
section
variable {P : Program} {w : World} {A : Around} {E : Value → Shared → Prop} {s : Shared}
theorem strs_from : ∀ {vs : List Value} {l : List (Int × Value)}, vs.Perm (l.map (·.2)) → (∀ e ∈ l, IsTx P w e) → ∃ ys : List Str, StrsAre vs ys ∧ ys.Perm (l.map txOf) := by
  intro vs l pm g
  have all : ∀ v ∈ vs, ∃ x u, v = Value.str x u := fun v hv => by
    obtain ⟨e, he, q⟩ := List.mem_map.mp (pm.mem_iff.mp hv)
    obtain ⟨x, u, h1, _⟩ := g e he
    exact ⟨x, u, by rw [← q, h1]⟩
  let f : Value → Str := fun v => match v with | .str x _ => x | _ => Str.empty
  refine ⟨vs.map f, ?_, ?_⟩
  · clear pm
    induction vs with
    | nil => exact .nil
    | cons v vs ih =>
      obtain ⟨x, u, rfl⟩ := all v List.mem_cons_self
      exact .cons x u (ih fun y hy => all y (List.mem_cons_of_mem _ hy))
  · have q := pm.map f
    rw [List.map_map] at q
    exact q
theorem sorted_txt {a : Addr} {S : List Str} {Q : Value → Shared → Prop} (R : TSet P w s.heap a S) (hn : A.handled = none) (few : S.length < 64)
    (hQ : ∀ t p (out : Array Value) (c : Nat) (ys : List Str), (∀ b o, s.heap.get? b = some o → t.heap.get? b = some o) → t.gens = s.gens → t.os = s.os → s.heap.objs.size ≤ p → t.heap.get? p = some (seqObj "list" out c) → StrsAre out.toList ys → ys.Perm S → sortedS ys = true → Q (.ref p) t) :
    wpAny (model P w) A (call (.builtin "sorted") [.ref a]) Q E s := by
  obtain ⟨ob, rows, ep, tb, r⟩ := R
  refine Calls.call_function_entry kind_sorted plain_sorted entry_sorted (args_sorted1 _) (?_ : _)
  unfold Builtin.«sorted»
  refine wpAny_bind (m := checkCount "sorted" 1 1 _) (wpAny_pure (wpAny_bind (collect_set (A := A.in1) hn ⟨ob, r.at_, r.ex.1, r.dat⟩ r.fits r.few r.ris r.led fun t vs k1 hz g1 o1 pm => ?_)))
  obtain ⟨zs, hS, pz⟩ := strs_from pm r.txt
  have pS : zs.Perm S := pz.trans r.mem
  have vl : vs.length < 64 := by rw [StrsAre.length hS, pS.length_eq]; exact few
  refine wpAny_bind (wpAny_newList (?_ : _) (by rw [sizeLine_eq]; omega))
  have oL : (t.heap.push (seqObj "list" vs.toArray 0)).get? t.heap.objs.size = some (seqObj "list" vs.toArray 0) := Heap.get?_push_size _ rfl
  refine wpAny_bind (wpAny_holding (wpAny_call_entry slot_list_sort ⟨_, oL, rfl⟩ entry_list_sort (list_sort_treeK (κ := PyProof.Rows.strKind) strKind_oneLt oL hS.keysOf (fun v₁ v₂ rest e => keyKind_strs (by rw [← e]; exact hS)) vl fun st hp hs => ⟨_, rfl, ?_⟩) (args_list_sort _)))
  obtain ⟨ys, e1, e2, e3⟩ := sorted_out_str hS hp hs
  obtain ⟨c, hc⟩ := sortedHeap_at (vs := vs) (out := (arrOf st).map (·.2)) oL
  refine wpAny_pure ⟨_, rfl, hQ _ t.heap.objs.size _ c ys (fun b u e => ?_) g1 o1 hz hc e1 (e2.trans pS) e3⟩
  have q := k1 b u e
  have lt := Heap.lt_size q
  show (sortedHeap (t.heap.push (seqObj "list" vs.toArray 0)) t.heap.objs.size vs _).get? b = some u
  rw [sortedHeap_old (Nat.ne_of_lt lt) (by rw [size_push']; exact Nat.lt_succ_of_lt lt)]
  exact Heap.get?_push_of_some _ q
end
end Ts

set_option Elab.async false
set_option linter.all false
set_option maxRecDepth 100000
set_option maxHeartbeats 4000000
/-! set(xs), sorted(set), len(set) of texts as rules; tables of the module; zip of tuples -/
namespace Tk
open PySem PySem.Spec PyProof.Rows L2 Ts
def TSetO (P : Program) (w : World) (a : Addr) (S : List Str) : HO := .ext fun h => TSet P w h a S
theorem tset_ok {P : Program} {w : World} {H : Hp} {h : Heap} {a : Addr} {S : List Str} (R : TSet P w h a S) : ObjOk P w H h a (TSetO P w a S) :=
  ⟨R, by obtain ⟨o, _, _, _, r⟩ := R; exact ⟨o, r.at_⟩, fun _ _ p k => TSet.keep p k⟩
section
variable {X : Cx} {K : PySem.W.Frag}
theorem tset_get {pn : List (Addr × Obj)} {σ : L2.St} {H : Hp} {s : Shared} {a : Addr} {S : List Str} (I : Inv X pn σ H s) (e : H a = some (TSetO X.prog X.w a S)) : TSet X.prog X.w s.heap a S := (I.hok a _ e).1
def rSetX (K : PySem.W.Frag) (P : Program) (w : World) : List V → Hp → VK → Prop := fun vs H Q => ∃ (l : Addr) (xs : List Str), vs = [.ref l] ∧ (SqL K H l (xs.map V.str) ∨ SqT K H l (xs.map V.str)) ∧ xs.length ≤ 4000 ∧ ∀ p, H p = none → Q (.ref p) (upd H p (TSetO P w p (gather xs.reverse)))
theorem k_setX (hc : X.calm = true) (e : X.K = K := by rfl) : CallR X (.type "set") (rSetX K X.prog X.w) := by
  subst e
  intro pn s σ H vs us Q I r h
  obtain ⟨l, xs, rfl, hq, hl, q⟩ := h
  rw [Vals.ref1 r]
  have sb : xs.length + 1 < scanBound := by unfold scanBound; omega
  have go : ∀ (h' : Heap) (tk : Nat), TSet X.prog X.w h' s.heap.objs.size (gather xs.reverse) → (∀ b o, s.heap.get? b = some o → h'.get? b = some o) → (fun v s' => EP X pn σ Q v s') (.ref s.heap.objs.size) { s with heap := h', toks := tk } := fun h' tk R k =>
    ⟨.ref _, upd H s.heap.objs.size (TSetO X.prog X.w s.heap.objs.size (gather xs.reverse)), I.laid (t' := tk) k (Nat.le_refl _) (tset_ok R), rfl, q _ (I.hok.fresh (Nat.le_refl _))⟩
  rcases hq with hq | hq
  · obtain ⟨its, rv, pl, _⟩ := I.list hq
    exact set_list (I.ok.hd hc) pl.isList (by simpa using strsAre_of rv) sb go
  · obtain ⟨its, rv, pl, _⟩ := I.tuple hq
    exact set_tuple (I.ok.hd hc) pl (by simpa using strsAre_of rv) sb go
def rSortX (P : Program) (w : World) : List V → Hp → VK → Prop := fun vs H Q => ∃ (a : Addr) (S : List Str), vs = [.ref a] ∧ H a = some (TSetO P w a S) ∧ S.length < 64 ∧ ∀ ys p, ys.Perm S → sortedS ys = true → H p = none → Q (.ref p) (upd H p (.lst (ys.map V.str)))
theorem k_sortX (hc : X.calm = true) : CallR X (.builtin "sorted") (rSortX X.prog X.w) := by
  intro pn s σ H vs us Q I r h
  obtain ⟨a, S, rfl, ha, few, q⟩ := h
  rw [Vals.ref1 r]
  refine sorted_txt (tset_get I ha) (I.ok.hd hc) few fun t p out c ys k g o hp at_ hs pm srt => ?_
  have hn : H p = none := I.hok.fresh hp
  have hlen : (ys.map V.str).length ≤ sizeLine := by
    rw [List.length_map, pm.length_eq, sizeLine_eq]
    omega
  have J : Inv X pn σ (upd H p (.lst (ys.map V.str))) { s with heap := t.heap, gens := t.gens, drawn := t.drawn, toks := t.toks } :=
    I.call (ch := []) (Un.laid k hp hn) (I.hok.laid k hp ⟨hlen, out.toList, c, vals_of_strs hs, at_⟩) (by rw [g]; exact I.bare) (fun _ z => nomatch z)
  have e : t = { s with heap := t.heap, gens := t.gens, drawn := t.drawn, toks := t.toks } := by
    obtain ⟨a1, a2, a3, a4, a5⟩ := t
    obtain rfl : a5 = s.os := o
    rfl
  rw [e]
  exact ⟨.ref p, _, J, rfl, q ys p pm srt hn⟩
def rLenX (P : Program) (w : World) : List V → Hp → VK → Prop := fun vs H Q => ∃ (a : Addr) (S : List Str), vs = [.ref a] ∧ H a = some (TSetO P w a S) ∧ Q (.int (S.length : Nat)) H
theorem k_lenX : CallR X (.builtin "len") (rLenX X.prog X.w) := by
  intro pn s σ H vs us Q I r h
  obtain ⟨a, S, rfl, ha, q⟩ := h
  rw [Vals.ref1 r]
  obtain ⟨ob, rows, ep, tb, R⟩ := tset_get I ha
  have sz := R.size
  have fw := R.few
  refine call_len_set R.at_ R.ex R.dat R.fits (by unfold scanBound at fw; omega) ⟨.int (S.length : Nat), H, I.tok _, ⟨_, by rw [sz]⟩, q⟩
end
section
variable {K : PySem.W.Frag} {P : Program} {w : World} {H : Hp} {Q : VK} {l : Addr} {xs S : List Str}
theorem r_setXL (h : H l = some (.lst (xs.map V.str))) (hl : xs.length ≤ 4000) (q : ∀ p H2, H p = none → Same H H2 → H2 p = some (TSetO P w p (gather xs.reverse)) → Q (.ref p) H2) : rSetX K P w [.ref l] H Q := ⟨l, xs, rfl, .inl (SqL.of h), hl, fun p hp => q p _ hp (Same.new hp) upd_same⟩
theorem r_setXT (h : H l = some (.tup (xs.map V.str))) (hl : xs.length ≤ 4000) (q : ∀ p H2, H p = none → Same H H2 → H2 p = some (TSetO P w p (gather xs.reverse)) → Q (.ref p) H2) : rSetX K P w [.ref l] H Q := ⟨l, xs, rfl, .inr (SqT.of h), hl, fun p hp => q p _ hp (Same.new hp) upd_same⟩
theorem r_sortX {a : Addr} (h : H a = some (TSetO P w a S)) (hl : S.length < 64) (q : ∀ ys p H2, ys.Perm S → sortedS ys = true → H p = none → Same H H2 → H2 p = some (.lst (ys.map V.str)) → Q (.ref p) H2) : rSortX P w [.ref a] H Q := ⟨a, S, rfl, h, hl, fun ys p pm st hp => q ys p _ pm st hp (Same.new hp) upd_same⟩
end
/-! ### ascending texts -/
def ltS (x y : Str) : Prop := x.cps.toList < y.cps.toList
instance (x y : Str) : Decidable (ltS x y) := inferInstanceAs (Decidable (x.cps.toList < y.cps.toList))
theorem ltS_irr (x : Str) : ¬ ltS x x := fun h => absurd h (by simp [ltS])
theorem ltS_tr {x y z : Str} (a : ltS x y) (b : ltS y z) : ltS x z := List.lt_trans a b
theorem ltS_tot {x y : Str} (a : ¬ ltS x y) (b : ¬ ltS y x) : x = y := TL.ext_tl (List.le_antisymm (List.not_lt.mp b) (List.not_lt.mp a))
/-- each one less than the next one -/
def ascB : List Str → Bool
  | [] => true
  | [_] => true
  | x :: y :: r => decide (ltS x y) && ascB (y :: r)
theorem asc_pair : ∀ {l : List Str}, ascB l = true ↔ l.Pairwise ltS
  | [] => by simp [ascB]
  | [x] => by simp [ascB]
  | x :: y :: r => by
    rw [ascB, Bool.and_eq_true, decide_eq_true_eq, asc_pair (l := y :: r)]
    constructor
    · rintro ⟨h1, h2⟩
      refine List.pairwise_cons.mpr ⟨fun z hz => ?_, h2⟩
      rcases List.mem_cons.mp hz with rfl | hz
      · exact h1
      · exact ltS_tr h1 ((List.pairwise_cons.mp h2).1 z hz)
    · intro h
      obtain ⟨h1, h2⟩ := List.pairwise_cons.mp h
      exact ⟨h1 y List.mem_cons_self, h2⟩
theorem sorted_pair : ∀ {l : List Str}, sortedS l = true → l.Pairwise fun x y => ¬ ltS y x
  | [], _ => .nil
  | [x], _ => List.pairwise_singleton _ x
  | x :: y :: r, h => by
    have h : (!ltCps y.cps.toList x.cps.toList && risingS y r) = true := h
    rw [Bool.and_eq_true, Bool.not_eq_true', ltCps_eq, decide_eq_false_iff_not] at h
    have t := sorted_pair (l := y :: r) h.2
    refine List.pairwise_cons.mpr ⟨fun z hz => ?_, t⟩
    rcases List.mem_cons.mp hz with rfl | hz
    · exact h.1
    · intro c
      have n := (List.pairwise_cons.mp t).1 z hz
      by_cases yz : ltS y z
      · exact h.1 (ltS_tr yz c)
      · have e : y = z := ltS_tot yz n
        rw [← e] at c
        exact h.1 c
theorem nodup_gather : ∀ (l : List Str), (gather l).Nodup
  | [] => .nil
  | x :: l => by
    rw [gather]
    unfold addT
    split
    · exact nodup_gather l
    · rename_i h
      exact List.nodup_cons.mpr ⟨h, nodup_gather l⟩
theorem sorted_nodup {l : List Str} (h : sortedS l = true) (n : l.Nodup) : l.Pairwise ltS := by
  have p := sorted_pair h
  have q : l.Pairwise fun x y => ¬ ltS y x ∧ x ≠ y := List.Pairwise.and p n
  exact q.imp fun {x y} ⟨a, b⟩ => Classical.byContradiction fun c => b (ltS_tot c a)
/-- sorted(set(xs)) == xs where xs ascends -/
theorem asc_sorted {xs ys : List Str} (pm : ys.Perm (gather xs.reverse)) (st : sortedS ys = true) : decide (xs = ys) = ascB xs := by
  have ny : ys.Nodup := pm.nodup_iff.mpr (nodup_gather _)
  have ay := sorted_nodup st ny
  by_cases h : ascB xs = true
  · rw [h, decide_eq_true_eq]
    have ax := asc_pair.mp h
    have nx : xs.Nodup := List.Pairwise.imp (S := fun x y => x ≠ y) (fun {x y} (l : ltS x y) (e : x = y) => ltS_irr x (by rw [← e] at l; exact l)) ax
    have p2 : xs.Perm ys := (List.perm_ext_iff_of_nodup nx ny).mpr fun z => by rw [pm.mem_iff, gather_mem, List.mem_reverse]
    exact List.Perm.eq_of_pairwise (le := ltS) (fun x y _ _ a b => absurd (ltS_tr a b) (ltS_irr x)) ax ay p2
  · rw [Bool.not_eq_true] at h
    rw [h, decide_eq_false_iff_not]
    intro e
    rw [← e] at ay
    rw [asc_pair.mpr ay] at h
    cases h
theorem strs_data {K : PySem.W.Frag} {H : Hp} : ∀ (xs : List Str), DdAll K H (xs.map V.str) (xs.map PyData.str)
  | [] => .nil
  | x :: xs => .cons (.str x) (strs_data xs)
theorem strs_plain (xs : List Str) : PyData.plainAll (xs.map PyData.str) = true := by
  induction xs with
  | nil => rfl
  | cons x xs ih =>
    rw [List.map_cons, PyData.plainAll, ih]
    rfl
theorem strs_depth (xs : List Str) : PyData.depthAll (xs.map PyData.str) = 0 := by
  induction xs with
  | nil => rfl
  | cons x xs ih =>
    rw [List.map_cons, PyData.depthAll, ih]
    rfl
theorem strs_eqv : ∀ (xs ys : List Str), PyData.eqvAll (xs.map PyData.str) (ys.map PyData.str) = decide (xs = ys)
  | [], [] => rfl
  | [], y :: ys => by simp [PyData.eqvAll]
  | x :: xs, [] => by simp [PyData.eqvAll]
  | x :: xs, y :: ys => by
    rw [List.map_cons, List.map_cons, PyData.eqvAll, strs_eqv xs ys, PyData.eqv]
    by_cases h : x = y
    · subst h
      simp
    · have b : (x == y) = false := beq_eq_false_iff_ne.mpr h
      simp [h, b]
/-! ### written tables: a dict from texts to tuples of texts -/
def RowAt (K : PySem.W.Frag) (P : Params) (e : DictEntry) (r : Str × List Str) : Prop := (∃ t, e.key = .str r.1 t ∧ e.hash = PyData.keyHash P r.1) ∧ ∃ (b : Addr), e.val = .ref b ∧ ∃ (o : Obj) (its : Array Value) (n : Nat), K.lookup b = some o ∧ o.cls = .type "tuple" ∧ o.data = .seq its n ∧ its.size ≤ sizeLine ∧ StrsAre its.toList r.2
inductive RowsAt (K : PySem.W.Frag) (P : Params) : List DictEntry → List (Str × List Str) → Prop
  | nil : RowsAt K P [] []
  | cons {e : DictEntry} {es : List DictEntry} {r : Str × List Str} {rs : List (Str × List Str)} : RowAt K P e r → RowsAt K P es rs → RowsAt K P (e :: es) (r :: rs)
def TabK (K : PySem.W.Frag) (P : Params) (D : Addr) (rows : List (Str × List Str)) : Prop := ∃ es n, K.lookup D = some ⟨.type "dict", none, .dict es n, #[]⟩ ∧ (D == sysModules) = false ∧ RowsAt K P es.toList rows
theorem rows_lit {K : PySem.W.Frag} {P : Params} : ∀ {es : List DictEntry} {rows : List (Str × List Str)}, RowsAt K P es rows → PySem.W.KeysLit P es
  | _, _, .nil => trivial
  | _, _, .cons h t => ⟨⟨_, h.1⟩, rows_lit t⟩
theorem vals_strs : ∀ {us : List Value} {xs : List Str}, StrsAre us xs → Vals (xs.map V.str) us
  | _, _, .nil => .nil
  | _, _, .cons x t h => .cons ⟨t, rfl⟩ (vals_strs h)
theorem rows_find {K : PySem.W.Frag} {P : Params} {x : Str} : ∀ {es : List DictEntry} {rows : List (Str × List Str)}, RowsAt K P es rows →
    (∃ f e b, rows.lookup x = some f ∧ es.find? (fun d => Value.isStrOf x d.key) = some e ∧ e.val = .ref b ∧ ∀ H, SqT K H b (f.map V.str)) ∨ (rows.lookup x = none ∧ es.find? (fun d => Value.isStrOf x d.key) = none)
  | _, _, .nil => .inr ⟨rfl, rfl⟩
  | _, _, .cons (e := e) (r := r) (es := es) (rs := rs) h t => by
    obtain ⟨⟨tk, k1, _⟩, b, k2, o, its, n, l1, l2, l3, l4, l5⟩ := h
    obtain ⟨y, f⟩ := r
    have ky : Value.isStrOf x e.key = decide (x = y) := by
      rw [k1]
      show (y == x) = _
      by_cases z : x = y
      · rw [decide_eq_true z, z]; exact beq_self_eq_true y
      · rw [decide_eq_false z]; exact beq_eq_false_iff_ne.mpr fun q => z q.symm
    by_cases z : x = y
    · subst z
      refine .inl ⟨f, e, b, by simp [List.lookup], by rw [List.find?_cons, ky]; simp, k2, fun H => .inr ⟨o, its, n, l1, l2, l3, l4, vals_strs l5⟩⟩
    · have n1 : ((y, f) :: rs).lookup x = rs.lookup x := by
        have : (x == y) = false := beq_eq_false_iff_ne.mpr z
        simp [List.lookup, this]
      have n2 : (e :: es).find? (fun d => Value.isStrOf x d.key) = es.find? (fun d => Value.isStrOf x d.key) := by
        rw [List.find?_cons, ky, decide_eq_false z]
      rw [n1, n2]
      exact rows_find t
theorem tab_find {K : PySem.W.Frag} {P : Params} {D : Addr} {rows : List (Str × List Str)} {es : Array DictEntry} (R : RowsAt K P es.toList rows) (x : Str) : (∃ f b, rows.lookup x = some f ∧ findBy Value.isStrOf es x = some (.ref b) ∧ ∀ H, SqT K H b (f.map V.str)) ∨ (rows.lookup x = none ∧ findBy Value.isStrOf es x = none) := by
  obtain ⟨l⟩ := es
  unfold findBy
  rw [List.find?_toArray]
  rcases rows_find (x := x) R with ⟨f, e, b, h1, h2, h3, h4⟩ | ⟨h1, h2⟩
  · exact .inl ⟨f, b, h1, by rw [h2, ← h3]; rfl, h4⟩
  · exact .inr ⟨h1, by rw [h2]; rfl⟩
def rTabNot (K : PySem.W.Frag) (P : Params) : R2 := fun x y H Q => ∃ D rows z, x = .str z ∧ y = .ref D ∧ TabK K P D rows ∧ Q (.bl (rows.lookup z).isNone) H
def rTabIx (K : PySem.W.Frag) (P : Params) : R2 := fun x y H Q => ∃ D rows z f, x = .ref D ∧ y = .str z ∧ TabK K P D rows ∧ rows.lookup z = some f ∧ ∀ b, (∀ H', SqT K H' b (f.map V.str)) → Q (.ref b) H
section
variable {X : Cx} {K : PySem.W.Frag} {P : Params}
theorem k_tabNot (e : X.K = K := by rfl) (e2 : X.w.params = P := by rfl) : OpR X (compareOp .NotIn) (rTabNot K P) := by
  subst e e2
  intro pn s σ H x y v u Q I rx ry h
  obtain ⟨D, rows, z, rfl, rfl, ⟨es, n, hl, lo, R⟩, q⟩ := h
  obtain ⟨t, rfl⟩ := (show ∃ t, v = Value.str z t from rx)
  obtain rfl : u = Value.ref D := ry
  have hm := PySem.W.mapOf_K (prog := X.prog) (w := X.w) I.kIn hl (rows_lit R)
  refine wpAny_notIn_of (strKind_is X.prog X.w z t) lo hm ?_
  rcases tab_find (D := D) R z with ⟨f, b, h1, h2, _⟩ | ⟨h1, h2⟩
  · rw [h1] at q
    rw [h2]
    exact ⟨.bl false, H, I.tok _, rfl, q⟩
  · rw [h1] at q
    rw [h2]
    exact ⟨.bl true, H, I.tok _, rfl, q⟩
theorem k_tabIx (e : X.K = K := by rfl) (e2 : X.w.params = P := by rfl) : IxR X (rTabIx K P) := by
  subst e e2
  intro value slice pn s σ H x y v u Q I rx ry h hs
  obtain ⟨D, rows, z, f, rfl, rfl, ⟨es, n, hl, lo, R⟩, hf, q⟩ := h
  obtain ⟨t, rfl⟩ := (show ∃ t, u = Value.str z t from ry)
  obtain rfl : v = Value.ref D := rx
  have hm := PySem.W.mapOf_K (prog := X.prog) (w := X.w) I.kIn hl (rows_lit R)
  rcases tab_find (D := D) R z with ⟨f', b, h1, h2, h3⟩ | ⟨h1, h2⟩
  · rw [hf] at h1
    cases h1
    exact tail_any hm.typeIs slot_dict_getitem.lookup (wpAny_getItem_of (strKind_is X.prog X.w z t) hm h2 ⟨.ref b, H, I.tok _, rfl, q b h3⟩) hs
  · rw [hf] at h1
    cases h1
end
/-! ### zip of two tuples -/
theorem walk_zipT {K : PySem.W.Frag} {a b : Addr} {xs ys : List V} {n : Nat} (hn : n = min xs.length ys.length) : Walk (RZ.ItzT K a b) n (fun H => SqT K H a xs ∧ SqT K H b ys) (YPair (fun i => xs[i]?) (fun i => ys[i]?)) := by
  subst hn
  constructor
  · intro i H hi q
    exact ⟨xs, ys, xs[i]'(by omega), ys[i]'(by omega), q.1, q.2, List.getElem?_eq_getElem _, List.getElem?_eq_getElem _⟩
  · exact fun H q => ⟨xs, ys, q.1, q.2, by omega⟩
  · rintro i H v H' _ q ⟨T, x, z, h1, h2, h3, h4, h5⟩
    exact ⟨T, x, z, h1, h2, h3, h4 xs q.1, h5 ys q.2⟩
theorem k_zipA {X : Cx} {K : PySem.W.Frag} {e1 e2 : Expr} {ta : TA} {p pos tpos : Pos} {elts : List Expr} {kk : Nat} (hg : Gl X "zip") (hm : X.mg "zip" = none) (ha : PA X [e1, e2] ta) (e : X.K = K := by rfl)
    (hs : starEach [e1, e2] X.env = (false, eval e1 X.env) :: starEach [e2] X.env := by rfl) (hpl : (backTo pos (starEach [e2] X.env)).any (·.1) = false := by rfl) : PI X (.Tuple elts kk tpos) (.Call (.Name "zip" p) [e1, e2] [] pos) (RZ.iZipA K ta) := by
  subst e
  exact RZ.pi_zipA hg hm ha hs hpl
end Tk

set_option Elab.async false
set_option linter.all false
set_option maxRecDepth 100000
set_option maxHeartbeats 4000000
/-! data whose text is short and plain -/
namespace Tk
open PySem PySem.Spec PyProof.Rows L2
def shownS (x : Str) : Bool := x.cps.toList.all shownB
mutual
/-- no dicts, texts of signs from space to tilde, numbers that are not great -/
def tame : PyData → Bool
  | .none => true
  | .bool _ => true
  | .int i => decide (i = -1) || (decide (0 ≤ i) && decide (i < 10000000000000000))
  | .str x => shownS x
  | .list xs => tameAll xs
  | .tuple xs => tameAll xs
  | .dict _ => false
def tameAll : List PyData → Bool
  | [] => true
  | x :: xs => tame x && tameAll xs
end
mutual
/-- at least the length of its text -/
def wt : PyData → Nat
  | .none => 4
  | .bool _ => 5
  | .int _ => 17
  | .str x => 2 * x.length + 2
  | .list xs => wtAll xs + 2
  | .tuple xs => wtAll xs + 3
  | .dict _ => 2
def wtAll : List PyData → Nat
  | [] => 0
  | x :: xs => (wt x + 2) + wtAll xs
end
theorem shownS_cat {x y : Str} : shownS (x ++ y) = (shownS x && shownS y) := by
  unfold shownS
  rw [show (x ++ y).cps.toList = x.cps.toList ++ y.cps.toList from TL.tl_append x y, List.all_append]
theorem chars_ok : ((List.range 127).filter fun c => decide (32 ≤ c)).all (fun c => [34, 39].all fun q => ((Builtin.Str.reprChar q c).all shownB && decide ((Builtin.Str.reprChar q c).length ≤ 2))) = true := by decide +kernel
theorem char_ok {q c : Nat} (hq : q = 34 ∨ q = 39) (hc : shownB c = true) : (∀ x ∈ Builtin.Str.reprChar q c, shownB x = true) ∧ (Builtin.Str.reprChar q c).length ≤ 2 := by
  unfold shownB at hc
  rw [Bool.and_eq_true, decide_eq_true_eq, decide_eq_true_eq] at hc
  have m : c ∈ (List.range 127).filter fun c => decide (32 ≤ c) := List.mem_filter.mpr ⟨List.mem_range.mpr (by omega), decide_eq_true hc.1⟩
  have h := List.all_eq_true.mp chars_ok c m
  have h2 := List.all_eq_true.mp h q (by rcases hq with rfl | rfl <;> simp)
  rw [Bool.and_eq_true, decide_eq_true_eq] at h2
  exact ⟨fun x hx => List.all_eq_true.mp h2.1 x hx, h2.2⟩
theorem quote_ok (x : Str) : reprQuote x = 34 ∨ reprQuote x = 39 := by
  unfold reprQuote
  split
  · exact .inl rfl
  · exact .inr rfl
theorem fold_ok {q : Nat} (hq : q = 34 ∨ q = 39) : ∀ (l : List Nat) (acc : Array Nat), l.all shownB = true → acc.toList.all shownB = true →
    ((l.foldl (fun out c => out ++ (Builtin.Str.reprChar q c).toArray) acc).toList.all shownB = true ∧ (l.foldl (fun out c => out ++ (Builtin.Str.reprChar q c).toArray) acc).size ≤ acc.size + 2 * l.length)
  | [], acc, _, h => ⟨h, by simp⟩
  | c :: l, acc, hl, h => by
    rw [List.all_cons, Bool.and_eq_true] at hl
    obtain ⟨k1, k2⟩ := char_ok hq hl.1
    have ih := fold_ok hq l (acc ++ (Builtin.Str.reprChar q c).toArray) hl.2 (by rw [Array.toList_append, List.all_append, h]; exact List.all_eq_true.mpr (by simpa using k1))
    refine ⟨ih.1, Nat.le_trans ih.2 ?_⟩
    simp only [Array.size_append, List.size_toArray, List.length_cons]
    have k3 : (Builtin.Str.reprChar q c).length ≤ 2 := k2
    omega
theorem repr_ok {x : Str} (h : shownS x = true) : shownS (reprText x) = true ∧ (reprText x).length ≤ 2 * x.length + 2 := by
  have q1 : shownB (reprQuote x) = true := by rcases quote_ok x with e | e <;> rw [e] <;> rfl
  have f := fold_ok (quote_ok x) x.cps.toList #[reprQuote x] h (by simp [q1])
  unfold reprText shownS
  rw [← Array.foldl_toList]
  refine ⟨?_, ?_⟩
  · show (Array.push _ _).toList.all shownB = true
    rw [Array.toList_push, List.all_append, f.1]
    simp [q1]
  · show (Array.push _ _).size ≤ _
    rw [Array.size_push]
    have e : x.cps.toList.length = x.length := Array.length_toList
    have f2 := f.2
    rw [e] at f2
    have e1 : (#[reprQuote x] : Array Nat).size = 1 := rfl
    omega
theorem from_ok : ∀ (ts : List Str) (k : Nat) (acc : Str), shownS acc = true → (∀ t ∈ ts, shownS t = true) → shownS (textFrom k acc ts) = true ∧ (textFrom k acc ts).length ≤ acc.length + piled ts
  | [], k, acc, h, _ => ⟨h, Nat.le_add_right _ _⟩
  | t :: ts, k, acc, h, ht => by
    have h1 : shownS (acc ++ (if k > 0 then ", " else "" : String) ++ t) = true := by
      rw [shownS_cat, shownS_cat, h, ht t List.mem_cons_self]
      split <;> rfl
    have l1 : (acc ++ (if k > 0 then ", " else "" : String) ++ t).length ≤ acc.length + 2 + t.length := by
      rw [strLen_append, strLen_append]
      split
      · exact Nat.le_refl _
      · show acc.length + 0 + t.length ≤ _
        omega
    have ih := from_ok ts (k + 1) _ h1 fun y hy => ht y (List.mem_cons_of_mem _ hy)
    refine ⟨ih.1, Nat.le_trans ih.2 ?_⟩
    rw [piled_cons]
    omega
theorem join_ok : ∀ (ts : List Str), (∀ t ∈ ts, shownS t = true) → shownS (Str.join ", " ts) = true ∧ (Str.join ", " ts).length ≤ piled ts
  | [], _ => ⟨rfl, Nat.le_refl _⟩
  | [x], h => ⟨h x List.mem_cons_self, by show x.length ≤ _; rw [piled_cons]; omega⟩
  | x :: y :: r, h => by
    have ih := join_ok (y :: r) fun t ht => h t (List.mem_cons_of_mem _ ht)
    refine ⟨?_, ?_⟩
    · show shownS (x ++ ", " ++ Str.join ", " (y :: r)) = true
      rw [shownS_cat, shownS_cat, h x List.mem_cons_self, ih.1]
      rfl
    · show (x ++ ", " ++ Str.join ", " (y :: r)).length ≤ _
      rw [strLen_append, strLen_append, piled_cons]
      have e : ((", " : String) : Str).length = 2 := rfl
      have := ih.2
      omega
theorem int_ok {i : Int} (h : (decide (i = -1) || (decide (0 ≤ i) && decide (i < 10000000000000000))) = true) : shownS (toString i : String) = true ∧ (Str.ofString (toString i)).length ≤ 17 ∧ i.natAbs.log2 < 1920 := by
  rw [Bool.or_eq_true, decide_eq_true_eq, Bool.and_eq_true, decide_eq_true_eq, decide_eq_true_eq] at h
  rcases h with rfl | ⟨h0, h1⟩
  · exact ⟨by decide +kernel, by decide +kernel, by decide⟩
  · obtain ⟨n, rfl⟩ := Int.eq_ofNat_of_zero_le h0
    have e : (Str.ofString (toString ((n : Nat) : Int))).cps.toList = TL.numL n := TL.tl_num n
    refine ⟨?_, ?_, Nat.lt_of_lt_of_le (PySem.Flt.log2_lt_of (k := 60) (by decide) (by show ((n : Nat) : Int).natAbs < 2 ^ 60; omega)) (by decide)⟩
    · unfold shownS
      rw [e]
      refine List.all_eq_true.mpr fun c hc => ?_
      have := TL.numL_digits n c hc
      unfold shownB
      rw [Bool.and_eq_true, decide_eq_true_eq, decide_eq_true_eq]
      omega
    · have l := TL.numL_len (n := n) (k := 16) (by decide) (by omega)
      rw [← e, Array.length_toList] at l
      exact Nat.le_trans l (by decide)
theorem piled_wt : ∀ {ds : List PyData}, (∀ d ∈ ds, d.shown.length ≤ wt d) → piled (PyData.shownAll ds) ≤ wtAll ds
  | [], _ => Nat.le_refl _
  | d :: ds, h => by
    have ih := piled_wt (ds := ds) fun x hx => h x (List.mem_cons_of_mem _ hx)
    have := h d List.mem_cons_self
    rw [PyData.shownAll, piled_cons, wtAll]
    omega
theorem list_ok {ts : List Str} (h : ∀ t ∈ ts, shownS t = true) : shownS (listText ts) = true ∧ (listText ts).length ≤ piled ts + 2 := by
  have f := from_ok ts 0 "[" rfl h
  refine ⟨?_, ?_⟩
  · show shownS (textFrom 0 "[" ts ++ "]") = true
    rw [shownS_cat, f.1]
    rfl
  · show (textFrom 0 "[" ts ++ "]").length ≤ _
    rw [strLen_append]
    have e1 : (("[" : String) : Str).length = 1 := rfl
    have e2 : (("]" : String) : Str).length = 1 := rfl
    have := f.2
    omega
theorem tuple_ok {ts : List Str} (h : ∀ t ∈ ts, shownS t = true) : shownS (tupleText ts) = true ∧ (tupleText ts).length ≤ piled ts + 3 := by
  have f := join_ok ts h
  unfold tupleText
  have e1 : (("(" : String) : Str).length = 1 := rfl
  refine ⟨?_, ?_⟩
  · rw [shownS_cat, shownS_cat, f.1]
    split <;> rfl
  · rw [strLen_append, strLen_append]
    have := f.2
    have e2 : ((if ts.length == 1 then ",)" else ")" : String) : Str).length ≤ 2 := by split <;> decide
    omega
mutual
theorem shown_ok : ∀ (d : PyData), tame d = true → shownS d.shown = true ∧ d.shown.length ≤ wt d ∧ d.showable = true ∧ d.hasDict = false ∧ d.plain = true
  | .none, _ => ⟨by decide +kernel, by decide, rfl, rfl, rfl⟩
  | .bool b, _ => by cases b <;> exact ⟨by decide +kernel, by decide, rfl, rfl, rfl⟩
  | .int i, h => by
    obtain ⟨h1, h2, h3⟩ := int_ok h
    exact ⟨h1, h2, decide_eq_true h3, rfl, rfl⟩
  | .str x, h => by
    obtain ⟨h1, h2⟩ := repr_ok h
    exact ⟨h1, h2, rfl, rfl, rfl⟩
  | .list xs, h => by
    obtain ⟨h1, h2, h3, h4, h5⟩ := shown_all xs h
    obtain ⟨k1, k2⟩ := list_ok h1
    exact ⟨k1, by show (listText (PyData.shownAll xs)).length ≤ wtAll xs + 2; omega, h3, h4, h5⟩
  | .tuple xs, h => by
    obtain ⟨h1, h2, h3, h4, h5⟩ := shown_all xs h
    obtain ⟨k1, k2⟩ := tuple_ok h1
    exact ⟨k1, by show (tupleText (PyData.shownAll xs)).length ≤ wtAll xs + 3; omega, h3, h4, h5⟩
  | .dict _, h => nomatch h
theorem shown_all : ∀ (ds : List PyData), tameAll ds = true → (∀ t ∈ PyData.shownAll ds, shownS t = true) ∧ piled (PyData.shownAll ds) ≤ wtAll ds ∧ PyData.showableAll ds = true ∧ PyData.hasDictAll ds = false ∧ PyData.plainAll ds = true
  | [], _ => ⟨(fun t h => by cases h), Nat.le_refl _, rfl, rfl, rfl⟩
  | d :: ds, h => by
    have h : (tame d && tameAll ds) = true := h
    rw [Bool.and_eq_true] at h
    obtain ⟨a1, a2, a3, a4, a5⟩ := shown_ok d h.1
    obtain ⟨b1, b2, b3, b4, b5⟩ := shown_all ds h.2
    refine ⟨fun t ht => ?_, ?_, ?_, ?_, ?_⟩
    · rcases List.mem_cons.mp ht with rfl | ht
      · exact a1
      · exact b1 t ht
    · rw [PyData.shownAll, piled_cons, wtAll]
      omega
    · rw [PyData.showableAll, a3, b3]; rfl
    · rw [PyData.hasDictAll, a4, b4]; rfl
    · rw [PyData.plainAll, a5, b5]; rfl
end
theorem len_wt : ∀ (ds : List PyData), 2 * ds.length ≤ wtAll ds
  | [] => Nat.le_refl _
  | d :: ds => by
    have := len_wt ds
    rw [List.length_cons, wtAll]
    omega
mutual
theorem okD_wt : ∀ (d : PyData), wt d ≤ 100000 → okD d
  | .none, _ => trivial
  | .bool _, _ => trivial
  | .int _, _ => trivial
  | .str x, h => by
    have h : 2 * x.length + 2 ≤ 100000 := h
    show x.length ≤ 100000
    omega
  | .list xs, h => by
    have h : wtAll xs + 2 ≤ 100000 := h
    have := len_wt xs
    exact ⟨by omega, okAll_wt xs (by omega)⟩
  | .tuple xs, h => by
    have h : wtAll xs + 3 ≤ 100000 := h
    have := len_wt xs
    exact ⟨by omega, okAll_wt xs (by omega)⟩
  | .dict _, _ => trivial
theorem okAll_wt : ∀ (ds : List PyData), wtAll ds ≤ 100000 → okAll ds
  | [], _ => trivial
  | d :: ds, h => by
    rw [wtAll] at h
    exact ⟨okD_wt d (by omega), okAll_wt ds (by omega)⟩
end
/-- short and plain -/
structure Good (d : PyData) : Prop where
  tame : tame d = true
  wt : wt d ≤ 20000
  deep : d.depth ≤ 50
theorem Good.ok {d : PyData} (g : Good d) : okD d := okD_wt d (Nat.le_trans g.wt (by decide))
theorem Good.shows {d : PyData} (g : Good d) : Shows d := by
  obtain ⟨h1, h2, h3, h4, h5⟩ := shown_ok d g.tame
  exact ⟨.inl h4, h3, Nat.le_trans h2 (Nat.le_trans g.wt (by decide)), Nat.le_trans g.deep (by decide)⟩
theorem Good.plain {d : PyData} (g : Good d) : d.plain = true := (shown_ok d g.tame).2.2.2.2
/-- its text, within a list -/
theorem Good.told {d : PyData} (g : Good d) : Shows (.list [.str d.shown, .bool true]) := by
  obtain ⟨h1, h2, _⟩ := shown_ok d g.tame
  have t : Tk.tame (.list [.str d.shown, .bool true]) = true := by
    show (shownS d.shown && (true && true)) = true
    rw [h1]
    rfl
  obtain ⟨_, k2, k3, k4, _⟩ := shown_ok _ t
  have w : Tk.wt (.list [.str d.shown, .bool true]) = ((2 * d.shown.length + 2) + 2 + ((5 + 2) + 0)) + 2 := rfl
  have := g.wt
  exact ⟨.inl k4, k3, by omega, by show max 0 (max 0 0) + 1 ≤ 60; decide⟩
theorem tameAll_iff : ∀ {ds : List PyData}, tameAll ds = true ↔ ∀ d ∈ ds, tame d = true
  | [] => by simp [tameAll]
  | d :: ds => by
    rw [tameAll, Bool.and_eq_true, tameAll_iff (ds := ds)]
    simp
theorem wtAll_le {n : Nat} : ∀ {ds : List PyData}, (∀ d ∈ ds, wt d ≤ n) → wtAll ds ≤ ds.length * (n + 2)
  | [], _ => by simp [wtAll]
  | d :: ds, h => by
    have ih := wtAll_le (ds := ds) fun x hx => h x (List.mem_cons_of_mem _ hx)
    have := h d List.mem_cons_self
    rw [wtAll, List.length_cons, Nat.succ_mul]
    omega
theorem depthAll_le {n : Nat} : ∀ {ds : List PyData}, (∀ d ∈ ds, d.depth ≤ n) → PyData.depthAll ds ≤ n
  | [], _ => Nat.zero_le _
  | d :: ds, h => by
    have ih := depthAll_le (ds := ds) fun x hx => h x (List.mem_cons_of_mem _ hx)
    have := h d List.mem_cons_self
    rw [PyData.depthAll]
    omega
/-- an item: short -/
structure Itm (d : PyData) : Prop where
  tame : tame d = true
  wt : wt d ≤ 120
  deep : d.depth ≤ 3
theorem good_tuple {ds : List PyData} (h : ∀ d ∈ ds, Itm d) (hl : ds.length ≤ 60) : Good (.tuple ds) := by
  have a := wtAll_le fun d hd => (h d hd).wt
  have b := depthAll_le fun d hd => (h d hd).deep
  have m := Nat.mul_le_mul_right (120 + 2) hl
  exact ⟨tameAll_iff.mpr fun d hd => (h d hd).tame, by show wtAll ds + 3 ≤ _; omega, by show PyData.depthAll ds + 1 ≤ _; omega⟩
theorem good_list {ds : List PyData} (h : ∀ d ∈ ds, Itm d) (hl : ds.length ≤ 60) : Good (.list ds) := by
  have a := wtAll_le fun d hd => (h d hd).wt
  have b := depthAll_le fun d hd => (h d hd).deep
  have m := Nat.mul_le_mul_right (120 + 2) hl
  exact ⟨tameAll_iff.mpr fun d hd => (h d hd).tame, by show wtAll ds + 2 ≤ _; omega, by show PyData.depthAll ds + 1 ≤ _; omega⟩
theorem Itm.good {d : PyData} (i : Itm d) : Good d := ⟨i.tame, Nat.le_trans i.wt (by decide), Nat.le_trans i.deep (by decide)⟩
/-- by counting -/
def itmB (d : PyData) : Bool := tame d && (decide (wt d ≤ 120) && decide (d.depth ≤ 3))
theorem itm_of {d : PyData} (h : itmB d = true) : Itm d := by
  unfold itmB at h
  rw [Bool.and_eq_true, Bool.and_eq_true, decide_eq_true_eq, decide_eq_true_eq] at h
  exact ⟨h.1, h.2.1, h.2.2⟩
theorem itm_all {ds : List PyData} (h : ds.all itmB = true) {d : PyData} (m : d ∈ ds) : Itm d := itm_of (List.all_eq_true.mp h d m)
end Tk

set_option Elab.async false
set_option linter.all false
set_option maxRecDepth 100000
set_option maxHeartbeats 4000000
/-! events as data -/
namespace Tk
open PySem PySem.Spec PyProof.Rows L2
def indexD : PyData → Bool
  | .int i => decide (0 ≤ i) && decide (i ≤ 1000000000000000)
  | _ => false
def txtD : PyData → Str
  | .str x => x
  | _ => Str.empty
def ascD : PyData → Bool
  | .tuple ds => ds.all wordD && ascB (ds.map txtD)
  | _ => false
def kindD (k : Str) (d : PyData) : Bool :=
  if k = "word" then wordD d else if k = "value" then valueD d else if k = "number" then numD d else if k = "index" then indexD d else noneD d || ascD d
def formsT : List (Str × List Str) := [("write", ["word", "word", "value"]), ("delete", ["word", "word"]), ("pass", ["word", "number"]), ("send", ["word", "word", "keys"]), ("take", ["word", "word", "index"]), ("save", ["word"]), ("crash", ["word"]),
  ("keep", ["word", "word"]), ("restore", ["word", "word"]), ("discard", ["word", "word"]), ("forget", ["word", "word"]), ("leave", ["word"]), ("come", ["word"]), ("mute", ["word", "word"]), ("shut", ["word", "word"]), ("open", ["word", "word"]), ("drop", ["word", "word"])]
def partsD : List Str → List PyData → Bool
  | [], [] => true
  | k :: ks, d :: ds => kindD k d && partsD ks ds
  | _, _ => false
def eventD : PyData → Bool
  | .tuple (.str x :: rest) => wordS x && (match formsT.lookup x with | some f => partsD f rest | none => false)
  | _ => false
def guardD : PyData → Bool
  | .tuple (.str x :: _) => x == "open" || x == "drop"
  | _ => false
/-- no tuple of more than sixty -/
def fewD : PyData → Prop
  | .tuple es => es.length ≤ 60
  | _ => True
def fewI : PyData → Prop
  | .tuple ds => ∀ x ∈ ds, fewD x
  | _ => True
theorem few_wt {d : PyData} (h : wt d ≤ 120) : fewD d := by
  cases d with
  | tuple es =>
    have h : wtAll es + 3 ≤ 120 := h
    have := len_wt es
    show es.length ≤ 60
    omega
  | _ => trivial
theorem few_items {ds : List PyData} (h : ∀ d ∈ ds, Itm d) : fewI (.tuple ds) := fun x hx => few_wt (h x hx).wt
theorem partsD_len : ∀ {f : List Str} {ds : List PyData}, partsD f ds = true → ds.length = f.length
  | [], [], _ => rfl
  | k :: ks, d :: ds, h => by
    rw [partsD, Bool.and_eq_true] at h
    rw [List.length_cons, List.length_cons, partsD_len h.2]
  | [], _ :: _, h => nomatch h
  | _ :: _, [], h => nomatch h
theorem eventD_no {d : PyData} (h : ∀ ds, d ≠ .tuple ds) : eventD d = false := by
  cases d with
  | tuple x => exact absurd rfl (h x)
  | _ => rfl
/-- of a value: is it a word -/
def wordV : V → Bool
  | .str x => wordS x
  | _ => false
theorem wordV_is {K : PySem.W.Frag} {H : Hp} {v : V} {d : PyData} (h : Dd K H v d) : wordV v = wordD d := by
  cases h <;> rfl
theorem words_strs {K : PySem.W.Frag} {H : Hp} : ∀ {xs : List V} {ds : List PyData}, DdAll K H xs ds → ds.all wordD = true → ∃ ys : List Str, xs = ys.map V.str ∧ ds = ys.map PyData.str
  | _, _, .nil, _ => ⟨[], rfl, rfl⟩
  | _, _, .cons (v := v) (d := d) h t, a => by
    rw [List.all_cons, Bool.and_eq_true] at a
    obtain ⟨ys, e1, e2⟩ := words_strs t a.2
    cases h with
    | str x => exact ⟨x :: ys, by rw [e1]; rfl, by rw [e2]; rfl⟩
    | _ => exact absurd a.1 (by simp [wordD])
theorem words_all {K : PySem.W.Frag} {H : Hp} : ∀ {xs : List V} {ds : List PyData}, DdAll K H xs ds → xs.map wordV = ds.map wordD
  | _, _, .nil => rfl
  | _, _, .cons h t => by rw [List.map_cons, List.map_cons, words_all t, wordV_is h]
theorem txt_strs (ys : List Str) : (ys.map PyData.str).map txtD = ys := by
  rw [List.map_map]
  exact (List.map_congr_left fun _ _ => rfl).trans (List.map_id _)
/-- a comprehension over a tuple that only makes new things -/
theorem lc_tupP {K : PySem.W.Frag} {T : Addr} {xs : List V} {s : Nat} {te : TE} {σ : L2.St} {H1 : Hp} {Qd : VK} (e : H1 T = some (.tup xs)) (hn : xs.length ≤ 100000) (f : V → V)
    (he : ∀ x ∈ xs, ∀ (H2 : Hp) (R : VK), Same H1 H2 → (∀ H3, Same H2 H3 → R (f x) H3) → te (σ.set s (some x)) H2 R) (hd : ∀ (D : Addr) (H' : Hp), H1 D = none → Same H1 H' → H' D = some (.lst (xs.map f)) → Qd (.ref D) H') :
    LcG (Itt K T) (gName s) tYes te [s] σ H1 Qd := by
  refine lc_pure walk_tup (fun H' s' => SqT.of (s' _ _ e)) hn (fun _ => true) f (fun x _ H2 R s2 q => q H2 (Same.refl H2)) (fun x hx _ => he x hx) (fun D H' h0 s' e' => hd D H' h0 s' ?_)
  rw [e', filt_true]
theorem r_zipA {K : PySem.W.Frag} {ta : TA} {σ : L2.St} {H : Hp} {R : It → Hp → Prop} (h : ta σ H fun vs H1 => ∃ a b xs ys, vs = [.ref a, .ref b] ∧ ((SqL K H1 a xs ∧ SqL K H1 b ys ∧ R (Itz K a b) H1) ∨ (SqT K H1 a xs ∧ SqT K H1 b ys ∧ R (RZ.ItzT K a b) H1))) : RZ.iZipA K ta σ H R := h
/-- a comprehension over zip of two tuples of one length -/
theorem lc_zip {K : PySem.W.Frag} {a b : Addr} {xs ys : List V} {s1 s2 : Nat} (hne : s1 ≠ s2) {te : TE} {σ : L2.St} {H1 : Hp} {Qd : VK} (rs : List V) (hl : xs.length = rs.length) (hl2 : ys.length = rs.length) (hn : rs.length ≤ 100000) (ha : ∀ H', Same H1 H' → SqT K H' a xs) (hb : ∀ H', Same H1 H' → SqT K H' b ys)
    (he : ∀ (i : Nat) (x y r : V), xs[i]? = some x → ys[i]? = some y → rs[i]? = some r → ∀ (H2 : Hp) (R : VK), Same H1 H2 → (∀ H3, Same H2 H3 → R r H3) → te ((σ.set s1 (some x)).set s2 (some y)) H2 R)
    (hd : ∀ (D : Addr) (H' : Hp), H1 D = none → Same H1 H' → H' D = some (.lst rs) → Qd (.ref D) H') :
    LcG (RZ.ItzT K a b) (gTup K 2 (gCons (gName s1) (gCons (gName s2) gNil))) tYes te [s1, s2] σ H1 Qd := by
  intro D hD
  refine lc_it (Qd := fun H' => Qd (.ref D) H') (walk_zipT (n := rs.length) (by omega)) (fun i H' => Same H1 H' ∧ H' D = some (.lst (rs.take i))) ⟨Same.new hD, upd_same⟩ (fun i H' _ p => ⟨ha H' p.1, hb H' p.1⟩) ?_ (fun H' p => hd D H' hD p.1 (by rw [p.2, List.take_length]))
  rintro i v H2 H2' hi ⟨p1, p2⟩ ⟨T, x, y, rfl, hT, rfl, hx, hy⟩
  have hr : rs[i]? = some rs[i] := List.getElem?_eq_getElem hi
  refine ⟨T, [x, y], rfl, SqT.of upd_same, rfl, x, [y], rfl, y, [], rfl, rfl, ?_, ?_⟩
  · show wipe (((wipe σ [s1, s2]).set s1 (some x)).set s2 (some y)) [s1, s2] = wipe σ [s1, s2]
    simp only [wipe]
    apply List.ext_getElem?
    intro j
    simp only [List.getElem?_set, List.length_set]
    by_cases h1 : s1 = j <;> by_cases h2 : s2 = j <;> simp [h1, h2]
  · have e1 : ((wipe σ [s1, s2]).set s1 (some x)).set s2 (some y) = (σ.set s1 (some x)).set s2 (some y) := by
      simp only [wipe]
      apply List.ext_getElem?
      intro j
      simp only [List.getElem?_set, List.length_set]
      by_cases h1 : s1 = j <;> by_cases h2 : s2 = j <;> simp [h1, h2]
    simp only [tYes, reduceIte]
    rw [e1]
    refine he i x y _ hx hy hr _ _ (p1.trans (Same.new hT)) fun H3 s3 => ?_
    have e4 := s3 _ _ (Same.new (o := .tup [x, y]) hT _ _ p2)
    refine ⟨_, e4, sz_lt (by rw [List.length_take]; omega), Same.mut ((p1.trans (Same.new hT)).trans s3) hD, ?_⟩
    rw [upd_same, List.take_add_one, hr]
    rfl
end Tk

set_option Elab.async false
set_option linter.all false
set_option maxRecDepth 100000
set_option maxHeartbeats 4000000
/-! t[::-1] of tuples; comprehensions over ranges; filters of data -/
namespace Tk
open PySem PySem.Spec PyProof.Rows L2
section
variable {P : Program} {w : World} {A : Around} {E : Value → Shared → Prop} {s : Shared}
theorem places_back (n : Nat) : Builtin.Slice.slicePlaces ((n : Int) - 1) (-1) (-1) = n := by
  unfold Builtin.Slice.slicePlaces
  have h1 : ¬ ((-1 : Int) > 0) := by decide
  simp only [h1, if_false]
  split
  · have e : ((n : Int) - 1 - -1 - 1) / (- -1) = (n : Int) - 1 := by
      rw [show (- -1 : Int) = 1 by decide, Int.ediv_one]
      omega
    omega
  · omega
theorem applied_back {sl : Addr} {vl vu vs : Value} {n : Nat} {Q : Int × Int × Nat → Shared → Prop} (hs : s.heap.IsSliceOf sl vl vu vs) (pl : IsPart vl none) (pu : IsPart vu none) (ps : IsPart vs (some (-1))) (h : Q ((n : Int) - 1, -1, n) s) :
    wpAny (model P w) A (Builtin.Slice.sliceApplied (.ref sl) (pure (n : Int))) Q E s := by
  obtain ⟨os, ho, hc, hd⟩ := id hs
  unfold Builtin.Slice.sliceApplied Builtin.Slice.sliceFields
  refine wpAny_bind (wpAny_bind (wpAny_field ho hd (x := vl) rfl (wpAny_bind (wpAny_field ho hd (x := vu) rfl (wpAny_bind (wpAny_field ho hd (x := vs) rfl (wpAny_pure ?_)))))))
  refine wpAny_bind (HT.slicePart_ ps ?_)
  show wpAny _ _ (if ((-1 : Int) == 0) = true then _ else _) _ _ s
  rw [if_neg (by decide)]
  refine wpAny_bind (HT.slicePart_ pl (wpAny_bind (HT.slicePart_ pu (wpAny_bind (wpAny_pure ?_)))))
  show wpAny _ _ (match Builtin.Slice.sliceAdjust none none (-1) (n : Int) with | (lo, hi) => pure (lo, (-1 : Int), Builtin.Slice.slicePlaces lo hi (-1))) _ _ s
  have e : Builtin.Slice.sliceAdjust none none (-1) (n : Int) = ((n : Int) - 1, -1) := by
    unfold Builtin.Slice.sliceAdjust
    rfl
  rw [e]
  show wpAny _ _ (pure ((n : Int) - 1, (-1 : Int), Builtin.Slice.slicePlaces ((n : Int) - 1) (-1) (-1))) _ _ s
  rw [places_back]
  exact wpAny_pure h
theorem filterMap_some {α β : Type} {f : α → Option β} {g : α → β} : ∀ {l : List α}, (∀ m ∈ l, f m = some (g m)) → l.filterMap f = l.map g
  | [], _ => rfl
  | a :: l, h => by
    rw [List.filterMap_cons, h a List.mem_cons_self, List.map_cons, filterMap_some fun m hm => h m (List.mem_cons_of_mem _ hm)]
theorem pick_back (l : List Value) : ((List.range l.length).filterMap fun (m : Nat) => l.toArray[(((l.length : Int) - 1) + (m : Int) * (-1)).toNat]?) = l.reverse := by
  apply List.ext_getElem?
  intro i
  have e : ∀ m, m ∈ List.range l.length → l.toArray[(((l.length : Int) - 1) + (m : Int) * (-1)).toNat]? = some (l.reverse.getD m .none) := fun m hm => by
    have lt := List.mem_range.mp hm
    have q : (((l.length : Int) - 1) + (m : Int) * (-1)).toNat = l.length - 1 - m := by omega
    rw [q, List.getElem?_toArray, List.getD_eq_getElem?_getD, List.getElem?_reverse lt]
    rw [List.getElem?_eq_getElem (by omega)]
    rfl
  have e2 : (List.range l.length).filterMap (fun (m : Nat) => l.toArray[(((l.length : Int) - 1) + (m : Int) * (-1)).toNat]?) = (List.range l.length).map fun m => l.reverse.getD m .none := filterMap_some e
  rw [e2, List.getElem?_map]
  by_cases h : i < l.length
  · rw [List.getElem?_range h]
    show some (l.reverse.getD i .none) = _
    rw [List.getD_eq_getElem?_getD, List.getElem?_eq_getElem (by simpa using h)]
    rfl
  · rw [List.getElem?_eq_none (by simpa using h), List.getElem?_eq_none (by simpa using h)]
    rfl
theorem getItem_back {t sl : Addr} {items : Array Value} {vl vu vs : Value} {Q : Value → Shared → Prop} (ht : IsTup s.heap t items) (hs : s.heap.IsSliceOf sl vl vu vs) (pl : IsPart vl none) (pu : IsPart vu none) (ps : IsPart vs (some (-1)))
    (h : Q (.ref s.heap.objs.size) { s with heap := s.heap.push { cls := .type "tuple", data := .seq items.toList.reverse.toArray } }) (hsz : items.size ≤ sizeLine) : wpAny (model P w) A (getItem (.ref t) (.ref sl)) Q E s := by
  have hz : sizeOk (.seq items.toList.reverse.toArray) := by
    show items.toList.reverse.toArray.size ≤ sizeLine
    simpa using hsz
  obtain ⟨os, ho, hc, hd⟩ := id hs
  have hT : s.TypeIs (.ref sl) "slice" := ⟨os, ho, hc⟩
  unfold getItem
  try with_reducible refine wpAny_holding ?_
  first | refine wpAny_bind (wpAny_pure ?_) | skip
  refine wpAny_bind (wpAny_sequenceKey ht.typeIs (by decide) ?_)
  refine wpAny_bind (wpAny_callSpecial?_slot (name := Str.ofString "__getitem__") ht.typeIs PyProof.Rows.slot_tuple_getitem (wpAny_call_entry PyProof.Rows.slot_tuple_getitem ht.typeIs entry_tuple_getitem ?_ (args_tuple_getitem _ _)))
  show wpAny _ _ (Builtin.Tuple.tupleItemsOf (.ref t) >>= _) _ _ s
  refine wpAny_bind (tupleItemsOf_ ht (wpAny_bind (wpAny_typeOf hT ?_)))
  rw [if_pos (by decide)]
  refine wpAny_bind (applied_back hs pl pu ps ?_)
  show wpAny _ _ (if (((items.size : Int) - 1 == 0) && (-1 : Int) == 1 && items.size == items.size) = true then _ else _) _ _ s
  rw [if_neg (by simp)]
  obtain ⟨l⟩ := items
  have e := pick_back l
  have e' : ((List.range (List.toArray l).size).filterMap fun (m : Nat) => (List.toArray l)[((((List.toArray l).size : Int) - 1) + (m : Int) * (-1)).toNat]?) = l.reverse := by
    rw [List.size_toArray]
    exact e
  rw [e']
  first
    | exact wpAny_bind (m := Builtin.Tuple.tupleExact _) (wpAny_newObj_type (wpAny_pure ⟨_, rfl, wpAny_pure h⟩) hz)
    | exact wpAny_bind (m := Builtin.Tuple.tupleExact _) (wpAny_newObj_type (wpAny_bind (wpAny_pure (wpAny_pure ⟨_, rfl, wpAny_pure h⟩))) hz)
    | exact wpAny_bind (wpAny_bind (m := Builtin.Tuple.tupleExact _) (wpAny_newObj_type (wpAny_pure (wpAny_pure ⟨_, rfl, wpAny_pure h⟩)) hz))
    | exact wpAny_bind (wpAny_bind (m := Builtin.Tuple.tupleExact _) (wpAny_newObj_type (wpAny_pure ⟨_, rfl, wpAny_pure h⟩) hz))
end
/-- t[::-1] -/
def tRevT (K : PySem.W.Frag) (te : TE) : TE := fun σ H Q => te σ H fun x H1 => ∃ a xs, x = .ref a ∧ SqT K H1 a xs ∧ ∀ p, H1 p = none → Q (.ref p) (upd H1 p (.tup xs.reverse))
theorem pe_revT {X : Cx} {e : Expr} {te : TE} {k : Nat} {p1 p2 p3 pos : Pos} (he : PE X e te) : PE X (.Subscript e (.Slice none none (some (.UnaryOp .USub (.Constant (.int 1) k p1) p2)) p3) pos) (tRevT X.K te) := by
  refine ⟨fun pn s σ H Q I h => ?_⟩
  refine Subscript_ (thn (he.run pn s σ H _ I h) fun v s1 ⟨x, H1, I1, r1, q1⟩ => ?_)
  obtain ⟨a, xs, rfl, hx, q⟩ := q1
  cases r1
  have hst : PO X (some (.UnaryOp .USub (.Constant (.int 1) k p1) p2)) (tPart (tUn (rU fun i => .int (-i)) (tC (.int 1)))) := po_some (pe_un un_neg pe_int)
  refine wpAny_Slice (thn (po_none.run pn s1 σ H1 (fun o H2 => o = none ∧ H2 = H1) I1 ⟨rfl, rfl⟩) fun vl s2 ⟨l, H2, I2, pl, el, e2⟩ => ?_)
  subst el
  subst e2
  refine thn (po_none.run pn s2 σ H2 (fun o H3 => o = none ∧ H3 = H2) I2 ⟨rfl, rfl⟩) fun vu s3 ⟨u, H3, I3, pu, eu, e3⟩ => ?_
  subst eu
  subst e3
  refine thn (hst.run pn s3 σ H3 (fun o H4 => o = some (-1) ∧ H4 = H3) I3 ⟨1, rfl, -1, rfl, rfl, rfl⟩) fun vs s4 ⟨o, H4, I4, ps, eo, e4⟩ => ?_
  subst eo
  subst e4
  have I5 : Inv X pn σ H4 { s4 with heap := s4.heap.push { cls := .type "slice", data := .fields #[vl, vu, vs] } } := I4.kept (t' := s4.toks) fun b ob q => Heap.get?_push_of_some _ q
  obtain ⟨its, r, ht, hz⟩ := I5.tuple hx
  have hlen := r.length
  show wpAny (model X.prog X.w) X.A (subscriptTail e (.Slice none none (some (.UnaryOp .USub (.Constant (.int 1) k p1) p2)) p3) (.ref a) (.ref s4.heap.objs.size)) (EP X pn σ Q) X.xe _
  refine tail_any (ops := [.ref a, .ref s4.heap.objs.size]) ht.typeIs (PyProof.Rows.slot_tuple_getitem.lookup) ?_ (by with_unfolding_all rfl)
  refine getItem_back ht (Heap.IsSliceOf.new _ vl vu vs) pl pu ps ?_ (by rw [List.size_toArray]; omega)
  refine ⟨.ref _, _, I5.laid (t' := s4.toks) (o := .tup xs.reverse) (fun b ob q => Heap.get?_push_of_some _ q) (Nat.le_refl _) ?_, rfl, q _ (I5.hok.fresh (Nat.le_refl _))⟩
  exact ⟨by rw [List.length_reverse]; exact hz, _, r.reverse, IsTup.new _ _⟩
theorem r_revT {K : PySem.W.Frag} {te : TE} {σ : L2.St} {H : Hp} {Q : VK} (h : te σ H fun x H1 => ∃ a xs, x = .ref a ∧ SqT K H1 a xs ∧ ∀ p, H1 p = none → Q (.ref p) (upd H1 p (.tup xs.reverse))) : tRevT K te σ H Q := h
/-! ### a comprehension over a range that only makes new things -/
def rngV (lo : Int) (n : Nat) : List V := (List.range n).map fun (i : Nat) => V.int (lo + (i : Int))
theorem walk_rng {lo : Int} {n : Nat} : Walk (Itr lo n) (rngV lo n).length (fun _ => True) (YAt (rngV lo n)) := by
  have e : (rngV lo n).length = n := by unfold rngV; simp
  rw [e]
  refine Walk.mono walk_range (fun _ h => h) fun i H x H' hi _ y => ⟨y.1, ?_⟩
  unfold rngV
  rw [List.getElem?_map, List.getElem?_range hi, y.2]
  rfl
theorem r_rng2 {ta : TA} {σ : L2.St} {H : Hp} {R : It → Hp → Prop} (h : ta σ H fun vs H1 => ∃ i j : Int, vs = [.int i, .int j] ∧ (-(2 ^ 62) ≤ i ∧ i < 2 ^ 62 ∧ -(2 ^ 62) ≤ j ∧ j < 2 ^ 62) ∧ R (Itr i (j - i).toNat) H1) : iRng2 ta σ H R := h
theorem r_ij {i j : Int} {P : Int → Int → Prop} (h1 : -(2 ^ 62) ≤ i ∧ i < 2 ^ 62 ∧ -(2 ^ 62) ≤ j ∧ j < 2 ^ 62) (q : P i j) : ∃ i' j', [V.int i, V.int j] = [V.int i', V.int j'] ∧ (-(2 ^ 62) ≤ i' ∧ i' < 2 ^ 62 ∧ -(2 ^ 62) ≤ j' ∧ j' < 2 ^ 62) ∧ P i' j' := ⟨i, j, rfl, h1, q⟩
/-! ### filters of data -/
theorem DdAll.filter {K : PySem.W.Frag} {H : Hp} {gv : V → Bool} {gd : PyData → Bool} (hg : ∀ v d, Dd K H v d → gv v = gd d) : ∀ {vs : List V} {ds : List PyData}, DdAll K H vs ds → DdAll K H (vs.filter gv) (ds.filter gd)
  | _, _, .nil => .nil
  | _, _, .cons (v := v) (d := d) h t => by
    rw [List.filter_cons, List.filter_cons, hg v d h]
    split
    · exact .cons h (DdAll.filter hg t)
    · exact DdAll.filter hg t
theorem plainAll_mem : ∀ {ds : List PyData}, PyData.plainAll ds = true ↔ ∀ d ∈ ds, d.plain = true
  | [] => by simp [PyData.plainAll]
  | d :: ds => by
    rw [PyData.plainAll, Bool.and_eq_true, plainAll_mem (ds := ds)]
    simp
theorem eqv_nilL (ds : List PyData) : PyData.eqv (.list ds) (.list []) = ds.isEmpty := by cases ds <;> rfl
theorem eqv_nilT (ds : List PyData) : PyData.eqv (.tuple ds) (.tuple []) = ds.isEmpty := by cases ds <;> rfl
/-- no place at which a text is not less than the next one -/
theorem asc_range : ∀ (ys : List Str), ((List.range (ys.length - 1)).filter fun i => !decide (ltS (ys.getD i Str.empty) (ys.getD (i + 1) Str.empty))).isEmpty = ascB ys
  | [] => rfl
  | [_] => rfl
  | x :: y :: r => by
    have ih := asc_range (y :: r)
    rw [ascB, ← ih]
    show ((List.range ((y :: r).length)).filter _).isEmpty = _
    rw [List.length_cons, List.range_succ_eq_map, List.filter_cons, List.filter_map]
    show List.isEmpty (if (!decide (ltS x y)) = true then _ else _) = _
    by_cases h : ltS x y
    · rw [decide_eq_true h]
      simp only [Bool.not_true, Bool.false_eq_true, if_false, Bool.true_and, List.isEmpty_map]
      congr 1
    · rw [decide_eq_false h]
      rfl
end Tk

set_option Elab.async false
set_option linter.all false
set_option maxRecDepth 100000
set_option maxHeartbeats 4000000
/-! data that stand while one list changes; cuts and sums of tuples as data -/
namespace Tk
open PySem PySem.Spec PyProof.Rows L2
mutual
/-- all lists in it are good -/
def lsD (g : List PyData → Bool) : PyData → Bool
  | .list xs => g xs && lsAll g xs
  | .tuple xs => lsAll g xs
  | .dict _ => false
  | .none => true
  | .bool _ => true
  | .int _ => true
  | .str _ => true
def lsAll (g : List PyData → Bool) : List PyData → Bool
  | [] => true
  | x :: xs => lsD g x && lsAll g xs
end
/-- only what stands at L changes -/
def But (L : Addr) (H H' : Hp) : Prop := ∀ b o, H b = some o → b ≠ L → H' b = some o
section
variable {K : PySem.W.Frag} {H H' : Hp} {L : Addr} {g : List PyData → Bool}
mutual
theorem Dd.chg (hb : But L H H') (hL : ∃ xs, H L = some (.lst xs)) (hg : ∀ xs ds, H L = some (.lst xs) → DdAll K H xs ds → g ds = false) : ∀ (d : PyData) (v : V), lsD g d = true → Dd K H v d → Dd K H' v d
  | .none, _, _, h => by cases h; exact .non
  | .bool b, _, _, h => by cases h; exact .bl b
  | .int i, _, _, h => by cases h; exact .int i
  | .str x, _, _, h => by cases h; exact .str x
  | .list ds, _, n, h => by
    have n : (g ds && lsAll g ds) = true := n
    rw [Bool.and_eq_true] at n
    cases h with
    | lst e a => exact .lst (hb _ _ e (fun z => by subst z; rw [hg _ _ e a] at n; exact nomatch n.1)) (DdAll.chg hb hL hg ds _ n.2 a)
  | .tuple ds, _, n, h => by
    cases h with
    | tup e a => exact .tup (hb _ _ e (fun z => by subst z; obtain ⟨xs, q⟩ := hL; rw [q] at e; cases e)) (DdAll.chg hb hL hg ds _ n a)
  | .dict _, _, n, _ => nomatch n
theorem DdAll.chg (hb : But L H H') (hL : ∃ xs, H L = some (.lst xs)) (hg : ∀ xs ds, H L = some (.lst xs) → DdAll K H xs ds → g ds = false) : ∀ (ds : List PyData) (vs : List V), lsAll g ds = true → DdAll K H vs ds → DdAll K H' vs ds
  | [], _, _, h => by cases h; exact .nil
  | d :: ds, _, n, h => by
    have n : (lsD g d && lsAll g ds) = true := n
    rw [Bool.and_eq_true] at n
    cases h with
    | cons h1 h2 => exact .cons (Dd.chg hb hL hg d _ n.1 h1) (DdAll.chg hb hL hg ds _ n.2 h2)
end
/-- no lists at all -/
def flatD (d : PyData) : Bool := lsD (fun _ => false) d
/-- no list of two ints -/
def npL : List PyData → Bool
  | [.int _, .int _] => false
  | _ => true
def npD (d : PyData) : Bool := lsD npL d
theorem Dd.but {v : V} {d : PyData} (h : Dd K H v d) (f : flatD d = true) (hb : But L H H') (hL : ∃ xs, H L = some (.lst xs)) : Dd K H' v d := Dd.chg hb hL (fun _ _ _ _ => rfl) d v f h
theorem Dd.drawn {p : Addr} {v : V} {d : PyData} (h : Dd K H v d) (f : npD d = true) (D : Drawn p H H') (hp : PoolAt H p) : Dd K H' v d := by
  obtain ⟨a, b, e, _⟩ := hp
  refine Dd.chg (fun b o h n => D.kept b o h n) ⟨_, e⟩ (fun xs ds e2 al => ?_) d v f h
  rw [e] at e2
  cases e2
  cases al with
  | cons h1 al =>
    cases al with
    | cons h2 al =>
      cases al
      cases h1
      cases h2
      rfl
mutual
theorem np_flat : ∀ d : PyData, flatD d = true → npD d = true
  | .none, _ => rfl
  | .bool _, _ => rfl
  | .int _, _ => rfl
  | .str _, _ => rfl
  | .list xs, h => nomatch (show false = true from h)
  | .tuple xs, h => np_flatAll xs h
  | .dict _, h => nomatch h
theorem np_flatAll : ∀ ds : List PyData, lsAll (fun _ => false) ds = true → lsAll npL ds = true
  | [], _ => rfl
  | d :: ds, h => by
    have h : (flatD d && lsAll (fun _ => false) ds) = true := h
    rw [Bool.and_eq_true] at h
    show (npD d && lsAll npL ds) = true
    rw [np_flat d h.1, np_flatAll ds h.2]
    rfl
end
theorem lsAll_iff : ∀ {ds : List PyData}, lsAll g ds = true ↔ ∀ d ∈ ds, lsD g d = true
  | [] => by simp [lsAll]
  | d :: ds => by
    rw [lsAll, Bool.and_eq_true, lsAll_iff (ds := ds)]
    simp
theorem DdAll.drop {vs : List V} {ds : List PyData} (h : DdAll K H vs ds) : ∀ n, DdAll K H (vs.drop n) (ds.drop n) := by
  intro n
  induction n generalizing vs ds with
  | zero => exact h
  | succ n ih =>
    cases h with
    | nil => exact .nil
    | cons _ t => exact ih t
theorem DdAll.take {vs : List V} {ds : List PyData} (h : DdAll K H vs ds) : ∀ n, DdAll K H (vs.take n) (ds.take n) := by
  intro n
  induction n generalizing vs ds with
  | zero => exact .nil
  | succ n ih =>
    cases h with
    | nil => exact .nil
    | cons h0 t => exact .cons h0 (ih t)
theorem DdAll.rev {vs : List V} {ds : List PyData} (h : DdAll K H vs ds) : DdAll K H vs.reverse ds.reverse := by
  induction vs generalizing ds with
  | nil => cases h; exact .nil
  | cons v vs ih =>
    cases h with
    | cons h0 t =>
      rw [List.reverse_cons, List.reverse_cons]
      exact (ih t).append (.cons h0 .nil)
def cutD (ds : List PyData) (lo hi : Option Int) : List PyData := (ds.drop (HT.sIx ds.length 0 lo)).take (HT.sIx ds.length ds.length hi - HT.sIx ds.length 0 lo)
theorem cutD_mem {ds : List PyData} {lo hi : Option Int} {d : PyData} (h : d ∈ cutD ds lo hi) : d ∈ ds := List.mem_of_mem_drop (List.mem_of_mem_take h)
theorem cutD_len (ds : List PyData) (lo hi : Option Int) : (cutD ds lo hi).length ≤ ds.length := by
  unfold cutD
  rw [List.length_take, List.length_drop]
  omega
theorem g_slD {v : V} {ds : List PyData} {lo hi : Option Int} {Q : VK} (h : Dd K H v (.tuple ds)) (q : ∀ v' H2, Same H H2 → Dd K H2 v' (.tuple (cutD ds lo hi)) → Q v' H2) : GSlice K v lo hi H Q := by
  cases h with
  | tup e al =>
    rename_i a xs
    have ll := al.length
    refine .inr (.inr ⟨a, xs, rfl, SqT.of e, fun w => ?_, fun w p hp => ?_⟩)
    · refine q _ H (Same.refl H) ?_
      have z : cutD ds lo hi = ds := by
        unfold cutD
        rw [← ll, w.1, w.2]
        simp [ll]
      rw [z]
      exact .tup e al
    · refine q _ _ (Same.new hp) (.tup upd_same (DdAll.same (Same.new hp) _ _ ?_))
      unfold cutV cutD
      rw [ll]
      exact (al.drop _).take _
theorem g_catD {v w : V} {ds es : List PyData} {Q : VK} (h1 : Dd K H v (.tuple ds)) (h2 : Dd K H w (.tuple es)) (hl : ds.length + es.length ≤ 100000) (q : ∀ v' H2, Same H H2 → Dd K H2 v' (.tuple (ds ++ es)) → Q v' H2) : GAdd K v w H Q := by
  have h1' := h1
  have h2' := h2
  cases h1 with
  | tup e1 a1 =>
    cases h2 with
    | tup e2 a2 =>
      have l1 := a1.length
      have l2 := a2.length
      refine .inr (.inr (.inr ⟨_, _, _, _, rfl, rfl, SqT.of e1, SqT.of e2, sz_of (by rw [l1, l2]; exact hl), fun z => ?_, fun z1 z2 => ?_, fun _ _ p hp => ?_⟩))
      · refine q _ H (Same.refl H) ?_
        subst z
        cases a1
        exact h2'
      · refine q _ H (Same.refl H) ?_
        subst z2
        cases a2
        rw [List.append_nil]
        exact h1'
      · exact q _ _ (Same.new hp) (.tup upd_same (DdAll.same (Same.new hp) _ _ (a1.append a2)))
theorem g_catN {v w : V} {ds es : List PyData} {Q : VK} (h1 : Dd K H v (.list ds)) (h2 : Dd K H w (.list es)) (hl : ds.length + es.length ≤ 100000) (q : ∀ p xs H2, H p = none → Same H H2 → H2 p = some (.lst xs) → DdAll K H2 xs (ds ++ es) → Q (.ref p) H2) : GAdd K v w H Q := by
  cases h1 with
  | lst e1 a1 =>
    cases h2 with
    | lst e2 a2 =>
      exact .inr (.inr (.inl ⟨_, _, _, _, rfl, rfl, e1, e2, sz_of (by rw [a1.length, a2.length]; exact hl), fun p hp => q p _ _ hp (Same.new hp) upd_same (DdAll.same (Same.new hp) _ _ (a1.append a2))⟩))
theorem DdAll.at_ {vs : List V} {ds : List PyData} (h : DdAll K H vs ds) {r : Int} (h0 : 0 ≤ r) (h1 : r < (ds.length : Nat)) : ∃ v d, atI vs r = some v ∧ d ∈ ds ∧ Dd K H v d := by
  obtain ⟨n, rfl⟩ := Int.eq_ofNat_of_zero_le h0
  have hn : n < vs.length := by rw [h.length]; omega
  have hm : n < ds.length := by omega
  have e : vs[n]? = some vs[n] := List.getElem?_eq_getElem hn
  refine ⟨vs[n], ds[n], atI_nat e, List.getElem_mem hm, ?_⟩
  have go : ∀ {vs : List V} {ds : List PyData} (n : Nat) (a : n < vs.length) (b : n < ds.length), DdAll K H vs ds → Dd K H vs[n] ds[n] := by
    intro vs ds n a b h
    induction n generalizing vs ds with
    | zero =>
      cases h with
      | nil => exact absurd a (Nat.not_lt_zero _)
      | cons h0 t => exact h0
    | succ n ih =>
      cases h with
      | nil => exact absurd a (Nat.not_lt_zero _)
      | cons h0 t => exact ih (by simpa using a) (by simpa using b) t
  exact go n hn hm h
/-- an item of a list of data at a drawn place, the list made ahead of the draw -/
theorem list_at {v : V} {ds : List PyData} {p : Addr} {Q : VK} (h : Dd K H v (.list ds)) (np : npD (.list ds) = true) (D : Drawn p H H') (hp : PoolAt H p) {r : Int} (h0 : 0 ≤ r) (h1 : r < (ds.length : Nat)) (q : ∀ v' d, d ∈ ds → Dd K H' v' d → Q v' H') : rIx K v (.int r) H' Q := by
  have h' := Dd.drawn h np D hp
  cases h' with
  | lst e al =>
    obtain ⟨v', d, a1, a2, a3⟩ := al.at_ h0 h1
    exact r_ixL e a1 (q v' d a2 a3)
end
end Tk

set_option Elab.async false
set_option linter.all false
set_option maxRecDepth 100000
set_option maxHeartbeats 4000000
-- TOKS t1 t2 t3 t4 t5 t6
namespace K75
open PySem PySem.Spec PyProof.Rows L2 Tk
local macro_rules | `(tactic| walk_at "rd1") => `(tactic| first
  | with_reducible refine r_seq ?_
  | ((with_reducible refine r_var (v := ?vv) ?hrv ?_); (case hrv => rfl))
  | with_reducible refine r_c ?_
  | with_reducible refine r_op ?_
  | ((with_reducible refine r_ixL (xs := ?xx) (v := ?vv) ?hh ?he ?_); (case hh => first | assumption | exact upd_same); (case he => rfl))
  | with_reducible refine r_asg ?_
  | with_reducible refine r_sub ?_
  | ((with_reducible refine r_gTup (xs := ?xx) ?hh ?he ?_); (case hh => assumption); (case he => rfl))
  | with_reducible refine r_gCons ?_
  | with_reducible refine r_gNil ?_
  | ((with_reducible refine r_setL (xs := ?xx) (j := ?vv) ?hh ?he ?_); (case hh => first | assumption | exact upd_same); (case he => rfl))
  | with_reducible refine r_pow15 ?_
  | with_reducible refine r_pow18 ?_
  | with_reducible refine r_repr ?_
  | with_reducible refine iteT ?_
  | with_reducible refine iteF ?_
  | with_reducible refine r_cons ?_
  | with_reducible refine r_nil ?_
  | with_reducible refine r_call ?_
  | with_reducible refine r_cb ?_
  | with_reducible refine r_ret ?_
  | with_reducible refine r_gName ?_
  | with_reducible refine r_next ?_
  | with_reducible refine r_ifS ?_
  | with_reducible refine r_un ?_
  | with_reducible refine r_U ?_
  | with_reducible refine r_max2 ?_
  | with_reducible refine r_min2 ?_
  | with_reducible refine r_sl ?_
  | with_reducible refine r_noPart ?_
  | with_reducible refine r_part ?_
  | with_reducible refine r_inti ?_
  | with_reducible refine r_lc ?_
  | with_reducible refine r_for ?_
  | with_reducible refine r_rng1 ?_
  | with_reducible refine r_iList ?_
  | with_reducible refine r_iTup ?_
  | with_reducible refine r_iStr ?_
  | with_reducible refine r_strx ?_
  | ((with_reducible refine r_j ?hh ?hi ?_); (case hh => omega); (case hi => omega))
  | with_reducible refine r_m1 ?_
  | with_reducible refine r_test ?_
  | with_reducible refine r_B ?_
  | with_reducible refine r_not ?_
  | with_reducible refine r_and ?_
  | with_reducible refine r_or ?_
  | with_reducible refine r_andV ?_
  | with_reducible refine r_orV ?_
  | with_reducible refine r_notV ?_
  | with_reducible refine r_if ?_
  | with_reducible refine r_chain ?_
  | with_reducible refine r_lst ?_
  | with_reducible refine r_tup ?_
  | with_reducible refine r_k ?_
  | ((with_reducible refine r_isiS (d := ?dd) ?hh ?_); (case hh => assumption))
  | ((with_reducible refine r_isiT (d := ?dd) ?hh ?_); (case hh => assumption))
  | ((with_reducible refine r_isiI (d := ?dd) ?hh ?_); (case hh => assumption))
  | ((with_reducible refine r_isiB (d := ?dd) ?hh ?_); (case hh => assumption))
  | ((with_reducible refine r_lenS ?hh ?_); (case hh => assumption))
  | ((with_reducible refine r_lenT (xs := ?dd) ?hh ?_); (case hh => assumption))
  | ((with_reducible refine r_ixT (xs := ?xx) (v := ?vv) ?hh ?he ?_); (case hh => assumption); (case he => rfl))
  | with_reducible refine r_isN ?_
  | with_reducible refine r_I0 ?_
  | with_reducible refine g_addI ?_
  | ((with_reducible refine r_mod ?hh ?_); (case hh => first | decide | omega))
  | ((with_reducible refine r_div ?hh ?hi ?_); (case hh => first | decide | omega); (case hi => first | decide | omega))
  | ((with_reducible refine g_mulB ?hh ?hi ?_); (case hh => omega); (case hi => omega))
  | with_reducible refine g_ltI ?_
  | with_reducible refine g_leI ?_
  | with_reducible refine g_gtI ?_
  | with_reducible refine g_geI ?_
  | with_reducible refine g_eqI ?_
  | with_reducible refine g_neI ?_
  | with_reducible refine g_eqS ?_
  | with_reducible refine g_neS ?_
  | with_reducible refine g_leS ?_
  | with_reducible refine g_ltS ?_)
local macro_rules | `(tactic| walk_at "rd") => `(tactic| repeat (walk_at "rd1"))
local macro_rules | `(tactic| walk_at "ed") => `(tactic| repeat first
  | exact ed_int
  | exact ed_str
  | exact ed_bl
  | exact ed_non
  | exact ed_nil
  | exact ed_dct
  | exact ed_neg
  | with_reducible apply ed_cons
  | with_reducible apply ed_tup
  | with_reducible apply ed_lst
  | exact Nat.le_of_ble_eq_true rfl)
local macro_rules | `(tactic| walk_at "tx1") => `(tactic| first
  | walk_at "rd1"
  | with_reducible refine r_callS ?_
  | with_reducible refine r_zipA ?_
  | with_reducible refine r_par ?_
  | with_reducible refine r_pair ?_
  | with_reducible refine r_pow6 ?_
  | with_reducible refine r_m0 ?_
  | with_reducible refine r_bm ?_
  | with_reducible refine r_isS ?_
  | with_reducible refine r_told ?_
  | with_reducible refine r_js ?_
  | with_reducible refine r_jsNil ?_
  | with_reducible refine r_repl ?_
  | ((with_reducible refine r_gLst (xs := ?xx) ?hh ?he ?_); (case hh => assumption); (case he => rfl))
  | ((with_reducible refine r_lenL (xs := ?xx) ?hh ?_); (case hh => assumption)))
local macro_rules | `(tactic| walk_at "tx") => `(tactic| repeat (walk_at "tx1"))
def top (i : Nat) : Stmt := PySem.Challenge.pw_tombkeeper_k75_plans_judged.main.body.getD i (.Pass ⟨0, 0, 0, 0⟩)
structure Txt (mg : Str → Option Value) (t1 t2 t3 t4 t5 t6 : Tok) : Prop where
  z_len : mg "len" = none
  z_all : mg "all" = none
  z_isinstance : mg "isinstance" = none
  z_str : mg "str" = none
  z_tuple : mg "tuple" = none
  z_int : mg "int" = none
  z_bool : mg "bool" = none
  z_list : mg "list" = none
  z_set : mg "set" = none
  z_sorted : mg "sorted" = none
  z_zip : mg "zip" = none
  z_range : mg "range" = none
  z_max : mg "max" = none
  z_min : mg "min" = none
  g_LONGEST_WORD : mg "LONGEST_WORD" = some (.int 8 t1)
  g_LONGEST_VALUE : mg "LONGEST_VALUE" = some (.int 40 t2)
  g_GREATEST_NUMBER : mg "GREATEST_NUMBER" = some (.int 1000000000000000 t3)
  g_DEEPEST : mg "DEEPEST" = some (.int 6 t4)
  g_MOST_STEPS : mg "MOST_STEPS" = some (.int 200 t5)
  g_MOST_TIMES : mg "MOST_TIMES" = some (.int 20 t6)
section
variable {t1 t2 t3 t4 t5 t6 : Tok} {P : Program} {w : World} {K : PySem.W.Frag} {mg : Str → Option Value} {base : Heap}
abbrev s_L_take : Stmt := top 24
abbrev n_L_take : List Str := ["_law_pool_here", "_law_many", "_law_found"]
abbrev p_L_take : List Str := ["_law_pool_here", "_law_many"]
theorem sc_L_take : FnScope n_L_take p_L_take (defScope s_L_take) := ⟨rfl, rfl, rfl, by decide +kernel, rfl, by decide +kernel, by decide +kernel⟩
theorem ok_L_take (T : Txt mg t1 t2 t3 t4 t5 t6) {f : Addr} {fd : FuncData} (F : Fun K "_law_take" "_law_take" s_L_take f fd) : FnOk P w K mg base CX0 1 f fd p_L_take spTake := by
  refine F.ok sc_L_take (fun vs H Q E h => spTake_len h) (fun cdv A outer s H vs Q E hr h => ?_)
  obtain ⟨p, m, rfl, ⟨a, b, hp, ha, hb, hb2⟩, hm, hm2, k⟩ := h
  have hu := hr.units
  have dr : ∀ {o : HO}, PoolAt (upd H p o) p → Drawn p H (upd H p o) := fun h => ⟨fun c u e n => by rw [upd_ne n]; exact e, h⟩
  refine ⟨_, (pss_cons (ps_if (pt_cmpR o_gt (pe_ix k_ix (pv 0) pe_int (fun _ _ => rfl)) pe_int (nomark _)) (pss_cons (ps_set (i := 2) sc_L_take.nd rfl (by first | exact Or.inl rfl | exact Or.inr rfl) (pe_op op_mod (pe_callTy call_int1 (by rfl) T.z_int (by decide +kernel) (pa_cons (pe_ix k_ix (pv 0) pe_int (fun _ _ => rfl)) pa_nil)) (pv 1)))
      (pss_cons (ps_asg (pe_op o_fdiv (pe_ix k_ix (pv 0) pe_int (fun _ _ => rfl)) (pv 1)) (pg_sub (pv 0) pe_int set_list))
      (pss_one (ps_ret (pv 2))))) pss_nil)
      (pss_cons (ps_asg (pe_op op_mod (pe_callTy call_int1 (by rfl) T.z_int (by decide +kernel) (pa_cons (pe_op k_add (pe_op o_mul (pe_ix k_ix (pv 0) pe_int (fun _ _ => rfl)) pe_int) pe_int) pa_nil)) pe_int) (pg_sub (pv 0) pe_int set_list))
      (pss_one (ps_ret (pe_op op_mod (pe_op o_fdiv (pe_op op_mod (pe_callTy call_int1 (by rfl) T.z_int (by decide +kernel) (pa_cons (pe_op o_mul (pe_ix k_ix (pv 0) pe_int (fun _ _ => rfl)) (pe_ix k_ix (pv 0) pe_int (fun _ _ => rfl))) pa_nil)) pe_int) pe_int) (pv 1)))))), ?_⟩
  walk_at "rd"
  refine r_dec (fun c => ?_) (fun c => ?_)
  · walk_at "rd"
    refine .inl ⟨_, rfl, ?_⟩
    walk_at "rd"
    exact k _ _ (Int.emod_nonneg _ (by omega)) (Int.emod_lt_of_pos _ hm) (dr (pool_mk1 (Int.ediv_nonneg ha (Int.le_of_lt hm)) hb hb2))
  · walk_at "rd"
    refine .inl ⟨_, rfl, ?_⟩
    walk_at "rd"
    refine .inl ⟨_, rfl, ?_⟩
    walk_at "rd"
    exact k _ _ (Int.emod_nonneg _ (by omega)) (Int.emod_lt_of_pos _ hm) (dr (pool_mk ha (Int.emod_nonneg _ (by decide)) (Int.emod_lt_of_pos _ (by decide))))
abbrev s_L_pool : Stmt := top 23
abbrev n_L_pool : List Str := ["_law_script", "_law_k", "_law_cell", "_law_seed"]
abbrev p_L_pool : List Str := ["_law_script", "_law_k"]
theorem sc_L_pool : FnScope n_L_pool p_L_pool (defScope s_L_pool) := ⟨rfl, rfl, rfl, by decide +kernel, rfl, by decide +kernel, by decide +kernel⟩
theorem ok_L_pool (T : Txt mg t1 t2 t3 t4 t5 t6) {f : Addr} {fd : FuncData} (F : Fun K "_law_pool" "_law_pool" s_L_pool f fd) : FnOk P w K mg base CX0 1 f fd p_L_pool (spPool K) := by
  refine F.ok sc_L_pool (fun vs H Q E h => spPool_len h) (fun cdv A outer s H vs Q E hr h => ?_)
  obtain ⟨sc, ns, i, rfl, hS, hl, h0, h1, k⟩ := h
  have hu := hr.units
  refine ⟨_, (pss_cons (ps_set (i := 2) sc_L_pool.nd rfl (by first | exact Or.inl rfl | exact Or.inr rfl) (pe_ifExp (pt_cmpR o_lt (pv 1) (pe_callB k_len (by rfl) T.z_len (by decide +kernel) (pa_cons (pv 0) pa_nil)) (nomark _)) (pe_ix k_ix (pv 0) (pv 1) (fun _ _ => rfl)) pe_int))
      (pss_cons (ps_set (i := 3) sc_L_pool.nd rfl (by first | exact Or.inl rfl | exact Or.inr rfl) (pe_op o_mul (pe_callTy call_int1 (by rfl) T.z_int (by decide +kernel) (pa_cons (pe_op k_add (pe_op k_add (pe_op op_mod (pe_callTy call_int1 (by rfl) T.z_int (by decide +kernel) (pa_cons (pv 2) pa_nil)) pe_int) (pe_op o_mul (pe_op o_mul pe_int (pv 1)) (pv 1))) pe_int) pa_nil)) pe_int))
      (pss_one (ps_ret (pe_lst (pa_cons (pe_ifExp (pt_cmpR o_ge (pv 2) (pe_op op_pow pe_int pe_int) (nomark _)) (pv 2) pe_int) (pa_cons (pe_op k_add (pe_op op_mod (pe_callTy call_int1 (by rfl) T.z_int (by decide +kernel) (pa_cons (pv 3) pa_nil)) pe_int) pe_int) pa_nil))))))), ?_⟩
  walk_at "rd"
  refine r_lenQ hS ?_
  walk_at "rd"
  refine r_dec (fun c1 => ?_) (fun c1 => ?_)
  · rw [List.length_map] at c1
    walk_at "rd"
    obtain ⟨j, rfl⟩ := Int.eq_ofNat_of_zero_le h0
    have hj : j < ns.length := by omega
    refine r_ixQ (v := .int ns[j]) hS (atI_nat (by simp [hj])) ?_
    generalize ns[j] = cc
    generalize (j : Int) = i at *
    have e1 := Int.emod_nonneg cc (show (2147483629 : Int) ≠ 0 by decide)
    have e2 := Int.emod_lt_of_pos cc (show (0 : Int) < 2147483629 by decide)
    have e3 : 0 ≤ 7919 * i * i := Int.mul_nonneg (Int.mul_nonneg (by decide) h0) h0
    have e4 : 7919 * i * i ≤ 7919 * i * 64 := Int.mul_le_mul_of_nonneg_left (by omega) (Int.mul_nonneg (by decide) h0)
    walk_at "rd"
    refine .inl ⟨_, rfl, ?_⟩
    walk_at "rd"
    refine .inl ⟨_, rfl, ?_⟩
    walk_at "rd"
    refine r_dec (fun c1 => ?_) (fun c1 => ?_)
    · walk_at "rd"
      refine .inl ⟨_, rfl, ?_⟩
      walk_at "rd"
      exact ⟨by show 2 ≤ sizeLine; decide, fun p hp => k p _ hp (Same.new hp) (pool_mk1 (by omega) (by omega) (by omega))⟩
    · walk_at "rd"
      refine .inl ⟨_, rfl, ?_⟩
      walk_at "rd"
      exact ⟨by show 2 ≤ sizeLine; decide, fun p hp => k p _ hp (Same.new hp) (pool_mk1 (by decide) (by omega) (by omega))⟩
  · walk_at "rd"
    have e1 := Int.emod_nonneg (0 : Int) (show (2147483629 : Int) ≠ 0 by decide)
    have e2 := Int.emod_lt_of_pos (0 : Int) (show (0 : Int) < 2147483629 by decide)
    have e3 : 0 ≤ 7919 * i * i := Int.mul_nonneg (Int.mul_nonneg (by decide) h0) h0
    have e4 : 7919 * i * i ≤ 7919 * i * 64 := Int.mul_le_mul_of_nonneg_left (by omega) (Int.mul_nonneg (by decide) h0)
    walk_at "rd"
    refine .inl ⟨_, rfl, ?_⟩
    walk_at "rd"
    refine .inl ⟨_, rfl, ?_⟩
    walk_at "rd"
    refine r_dec (fun c1 => ?_) (fun c1 => ?_)
    · walk_at "rd"
      refine .inl ⟨_, rfl, ?_⟩
      walk_at "rd"
      exact ⟨by show 2 ≤ sizeLine; decide, fun p hp => k p _ hp (Same.new hp) (pool_mk1 (by omega) (by omega) (by omega))⟩
    · walk_at "rd"
      refine .inl ⟨_, rfl, ?_⟩
      walk_at "rd"
      exact ⟨by show 2 ≤ sizeLine; decide, fun p hp => k p _ hp (Same.new hp) (pool_mk1 (by decide) (by omega) (by omega))⟩
abbrev s_is_word : Stmt := top 4
abbrev n_is_word : List Str := ["thing", "sign"]
abbrev p_is_word : List Str := ["thing"]
theorem sc_is_word : FnScope n_is_word p_is_word (defScope s_is_word) := ⟨rfl, rfl, rfl, by decide +kernel, rfl, by decide +kernel, by decide +kernel⟩
theorem ok_is_word (T : Txt mg t1 t2 t3 t4 t5 t6) {f : Addr} {fd : FuncData} (F : Fun K "is_word" "is_word" s_is_word f fd) : FnOk P w K mg base CX0 1 f fd p_is_word (spD K wordD) := by
  refine F.ok sc_is_word (fun vs H Q E h => spD_len h) (fun cdv A outer s H vs Q E hr h => ?_)
  obtain ⟨v, d, rfl, hd, ho, k⟩ := h
  refine ⟨_, (pss_cons (ps_if (PW.pt (pw_or (pt_not (pt_val (pe_callB k_isi (by rfl) T.z_isinstance (by decide +kernel) (pa_cons (pv 0) (pa_cons (pe_bltn (v := .ty "str") rfl T.z_str (by decide +kernel) rfl) pa_nil))))) (pw_or1 (pt_not (pt_chain o_le o_le pe_int (pe_callB k_len (by rfl) T.z_len (by decide +kernel) (pa_cons (pv 0) pa_nil)) (pe_glob (v := V.int (8)) rfl T.g_LONGEST_WORD ⟨_, rfl⟩)))))) (pss_one (ps_ret pe_bl)) pss_nil)
      (pss_one (ps_ret (pe_callB (k_all rfl) (by rfl) T.z_all (by decide +kernel) (pa_cons (pe_lc (own := [("sign", 1)]) rfl sc_is_word.nd (pi_str (pv 0)) (blkOk_by (own := [("sign", 1)]) (N := n_is_word) (sc := defScope s_is_word) (by decide +kernel)) (fun _ _ _ _ _ => (pg_name (i := 1) sc_is_word.nd rfl (by first | exact Or.inl rfl | exact Or.inr rfl))) (fun _ _ _ _ _ => pts_nil) (fun _ _ _ _ _ => (pe_chain o_le o_le pe_str (pv 1) pe_str))) pa_nil))))), ?_⟩
  walk_at "rd"
  rcases str_or d with ⟨x, rfl⟩ | hn
  · cases hd
    rw [isStr]
    refine iteF ?_
    have hx : x.length ≤ 100000 := ho
    walk_at "rd"
    refine r_dec (fun c1 => ?_) (fun c1 => ?_)
    · walk_at "rd"
      refine r_decN (fun c2 => ?_) (fun c2 => ?_)
      · walk_at "rd"
        have q := k H (Same.refl H)
        have e : wordD (.str x) = false := by simp [wordD, wordS, c2]
        rw [e] at q
        exact q
      · walk_at "rd"
        refine r_lcStr hx (fun _ => true) (fun v => .bl (lowB (codeV v))) (fun c _ H2 R s2 q => q H2 (Same.refl H2)) (fun c _ _ H2 R s2 q => ?_) (fun Dl H2 hD s2 e => ?_)
        · exact r_between rfl cps_a cps_z (q H2 (Same.refl H2))
        · refine r_all (bs := x.cps.toList.map lowB) (by rw [e, filt_true, List.map_map]; rfl) ?_
          have q := k H2 s2
          have e1 : wordD (.str x) = x.cps.toList.all lowB := by simp [wordD, wordS, c1, c2]
          rw [e1] at q
          rw [all_signs]
          exact q
    · walk_at "rd"
      have q := k H (Same.refl H)
      have e : wordD (.str x) = false := by simp [wordD, wordS, c1]
      rw [e] at q
      exact q
  · rw [isNotStr hn]
    refine iteT ?_
    walk_at "rd"
    have q := k H (Same.refl H)
    rw [wordD_no hn] at q
    exact q
abbrev s_is_value : Stmt := top 5
abbrev n_is_value : List Str := ["thing", "sign"]
abbrev p_is_value : List Str := ["thing"]
theorem sc_is_value : FnScope n_is_value p_is_value (defScope s_is_value) := ⟨rfl, rfl, rfl, by decide +kernel, rfl, by decide +kernel, by decide +kernel⟩
theorem ok_is_value (T : Txt mg t1 t2 t3 t4 t5 t6) {f : Addr} {fd : FuncData} (F : Fun K "is_value" "is_value" s_is_value f fd) : FnOk P w K mg base CX0 1 f fd p_is_value (spD K valueD) := by
  refine F.ok sc_is_value (fun vs H Q E h => spD_len h) (fun cdv A outer s H vs Q E hr h => ?_)
  obtain ⟨v, d, rfl, hd, ho, k⟩ := h
  refine ⟨_, (pss_cons (ps_if (PW.pt (pw_or (pt_not (pt_val (pe_callB k_isi (by rfl) T.z_isinstance (by decide +kernel) (pa_cons (pv 0) (pa_cons (pe_bltn (v := .ty "str") rfl T.z_str (by decide +kernel) rfl) pa_nil))))) (pw_or1 (pt_cmpR o_gt (pe_callB k_len (by rfl) T.z_len (by decide +kernel) (pa_cons (pv 0) pa_nil)) (pe_glob (v := V.int (40)) rfl T.g_LONGEST_VALUE ⟨_, rfl⟩) (nomark _))))) (pss_one (ps_ret pe_bl)) pss_nil)
      (pss_one (ps_ret (pe_callB (k_all rfl) (by rfl) T.z_all (by decide +kernel) (pa_cons (pe_lc (own := [("sign", 1)]) rfl sc_is_value.nd (pi_str (pv 0)) (blkOk_by (own := [("sign", 1)]) (N := n_is_value) (sc := defScope s_is_value) (by decide +kernel)) (fun _ _ _ _ _ => (pg_name (i := 1) sc_is_value.nd rfl (by first | exact Or.inl rfl | exact Or.inr rfl))) (fun _ _ _ _ _ => pts_nil) (fun _ _ _ _ _ => (pe_chain o_le o_le pe_str (pv 1) pe_str))) pa_nil))))), ?_⟩
  walk_at "rd"
  rcases str_or d with ⟨x, rfl⟩ | hn
  · cases hd
    rw [isStr]
    refine iteF ?_
    have hx : x.length ≤ 100000 := ho
    walk_at "rd"
    refine r_dec (fun c1 => ?_) (fun c1 => ?_)
    · walk_at "rd"
      have q := k H (Same.refl H)
      have e : valueD (.str x) = false := by simp [valueD, valueS, c1]
      rw [e] at q
      exact q
    · walk_at "rd"
      refine r_lcStr hx (fun _ => true) (fun v => .bl (shownB (codeV v))) (fun c _ H2 R s2 q => q H2 (Same.refl H2)) (fun c _ _ H2 R s2 q => ?_) (fun Dl H2 hD s2 e => ?_)
      · exact r_between rfl cps_sp cps_til (q H2 (Same.refl H2))
      · refine r_all (bs := x.cps.toList.map shownB) (by rw [e, filt_true, List.map_map]; rfl) ?_
        have q := k H2 s2
        have e1 : valueD (.str x) = x.cps.toList.all shownB := by simp [valueD, valueS, c1]
        rw [e1] at q
        rw [all_signs]
        exact q
  · rw [isNotStr hn]
    refine iteT ?_
    walk_at "rd"
    have q := k H (Same.refl H)
    rw [valueD_no hn] at q
    exact q
abbrev s_is_number : Stmt := top 6
abbrev n_is_number : List Str := ["thing"]
abbrev p_is_number : List Str := ["thing"]
theorem sc_is_number : FnScope n_is_number p_is_number (defScope s_is_number) := ⟨rfl, rfl, rfl, by decide +kernel, rfl, by decide +kernel, by decide +kernel⟩
theorem ok_is_number (T : Txt mg t1 t2 t3 t4 t5 t6) {f : Addr} {fd : FuncData} (F : Fun K "is_number" "is_number" s_is_number f fd) : FnOk P w K mg base CX0 1 f fd p_is_number (spD K numD) := by
  refine F.ok sc_is_number (fun vs H Q E h => spD_len h) (fun cdv A outer s H vs Q E hr h => ?_)
  obtain ⟨v, d, rfl, hd, ho, k⟩ := h
  refine ⟨_, (pss_cons (ps_if (PW.pt (pw_or (pt_not (pt_val (pe_callB k_isi (by rfl) T.z_isinstance (by decide +kernel) (pa_cons (pv 0) (pa_cons (pe_bltn (v := .ty "int") rfl T.z_int (by decide +kernel) rfl) pa_nil))))) (pw_or1 (pt_val (pe_callB k_isi (by rfl) T.z_isinstance (by decide +kernel) (pa_cons (pv 0) (pa_cons (pe_bltn (v := .ty "bool") rfl T.z_bool (by decide +kernel) rfl) pa_nil))))))) (pss_one (ps_ret pe_bl)) pss_nil)
      (pss_one (ps_ret (pe_chain o_le o_le pe_int (pv 0) (pe_glob (v := V.int (1000000000000000)) rfl T.g_GREATEST_NUMBER ⟨_, rfl⟩))))), ?_⟩
  have q := k H (Same.refl H)
  walk_at "rd"
  have hd2 := hd
  rcases isInt_or d with ⟨h1, h2, i, rfl⟩ | ⟨h1, h2, b, rfl⟩ | ⟨h1, h2⟩
  · rw [h1]
    cases hd
    refine iteF ?_
    walk_at "rd"
    rw [h2]
    refine iteF ?_
    walk_at "rd"
    refine r_dec (fun c1 => ?_) (fun c1 => ?_)
    · walk_at "rd"
      simpa [numD, c1] using q
    · simpa [numD, c1] using q
  · rw [h1]
    cases hd
    refine iteF ?_
    walk_at "rd"
    rw [h2]
    refine iteT ?_
    walk_at "rd"
    exact q
  · rw [h1]
    refine iteT ?_
    walk_at "rd"
    rw [h2] at q
    exact q

end
end K75

set_option Elab.async false
set_option linter.all false
set_option maxRecDepth 100000
set_option maxHeartbeats 4000000
namespace K75
open PySem PySem.Spec PyProof.Rows L2 Tk
local macro_rules | `(tactic| walk_at "rd1") => `(tactic| first
  | with_reducible refine r_seq ?_
  | ((with_reducible refine r_var (v := ?vv) ?hrv ?_); (case hrv => rfl))
  | with_reducible refine r_c ?_
  | with_reducible refine r_op ?_
  | ((with_reducible refine r_ixL (xs := ?xx) (v := ?vv) ?hh ?he ?_); (case hh => first | assumption | exact upd_same); (case he => rfl))
  | with_reducible refine r_asg ?_
  | with_reducible refine r_sub ?_
  | ((with_reducible refine r_gTup (xs := ?xx) ?hh ?he ?_); (case hh => assumption); (case he => rfl))
  | with_reducible refine r_gCons ?_
  | with_reducible refine r_gNil ?_
  | ((with_reducible refine r_setL (xs := ?xx) (j := ?vv) ?hh ?he ?_); (case hh => first | assumption | exact upd_same); (case he => rfl))
  | with_reducible refine r_pow15 ?_
  | with_reducible refine r_pow18 ?_
  | with_reducible refine r_repr ?_
  | with_reducible refine iteT ?_
  | with_reducible refine iteF ?_
  | with_reducible refine r_cons ?_
  | with_reducible refine r_nil ?_
  | with_reducible refine r_call ?_
  | with_reducible refine r_cb ?_
  | with_reducible refine r_ret ?_
  | with_reducible refine r_gName ?_
  | with_reducible refine r_next ?_
  | with_reducible refine r_ifS ?_
  | with_reducible refine r_un ?_
  | with_reducible refine r_U ?_
  | with_reducible refine r_max2 ?_
  | with_reducible refine r_min2 ?_
  | with_reducible refine r_sl ?_
  | with_reducible refine r_noPart ?_
  | with_reducible refine r_part ?_
  | with_reducible refine r_inti ?_
  | with_reducible refine r_lc ?_
  | with_reducible refine r_for ?_
  | with_reducible refine r_rng1 ?_
  | with_reducible refine r_iList ?_
  | with_reducible refine r_iTup ?_
  | with_reducible refine r_iStr ?_
  | with_reducible refine r_strx ?_
  | ((with_reducible refine r_j ?hh ?hi ?_); (case hh => omega); (case hi => omega))
  | with_reducible refine r_m1 ?_
  | with_reducible refine r_test ?_
  | with_reducible refine r_B ?_
  | with_reducible refine r_not ?_
  | with_reducible refine r_and ?_
  | with_reducible refine r_or ?_
  | with_reducible refine r_andV ?_
  | with_reducible refine r_orV ?_
  | with_reducible refine r_notV ?_
  | with_reducible refine r_if ?_
  | with_reducible refine r_chain ?_
  | with_reducible refine r_lst ?_
  | with_reducible refine r_tup ?_
  | with_reducible refine r_k ?_
  | ((with_reducible refine r_isiS (d := ?dd) ?hh ?_); (case hh => assumption))
  | ((with_reducible refine r_isiT (d := ?dd) ?hh ?_); (case hh => assumption))
  | ((with_reducible refine r_isiI (d := ?dd) ?hh ?_); (case hh => assumption))
  | ((with_reducible refine r_isiB (d := ?dd) ?hh ?_); (case hh => assumption))
  | ((with_reducible refine r_lenS ?hh ?_); (case hh => assumption))
  | ((with_reducible refine r_lenT (xs := ?dd) ?hh ?_); (case hh => assumption))
  | ((with_reducible refine r_ixT (xs := ?xx) (v := ?vv) ?hh ?he ?_); (case hh => assumption); (case he => rfl))
  | with_reducible refine r_isN ?_
  | with_reducible refine r_I0 ?_
  | with_reducible refine g_addI ?_
  | ((with_reducible refine r_mod ?hh ?_); (case hh => first | decide | omega))
  | ((with_reducible refine r_div ?hh ?hi ?_); (case hh => first | decide | omega); (case hi => first | decide | omega))
  | ((with_reducible refine g_mulB ?hh ?hi ?_); (case hh => omega); (case hi => omega))
  | with_reducible refine g_ltI ?_
  | with_reducible refine g_leI ?_
  | with_reducible refine g_gtI ?_
  | with_reducible refine g_geI ?_
  | with_reducible refine g_eqI ?_
  | with_reducible refine g_neI ?_
  | with_reducible refine g_eqS ?_
  | with_reducible refine g_neS ?_
  | with_reducible refine g_leS ?_
  | with_reducible refine g_ltS ?_)
local macro_rules | `(tactic| walk_at "rd") => `(tactic| repeat (walk_at "rd1"))
local macro_rules | `(tactic| walk_at "ed") => `(tactic| repeat first
  | exact ed_int
  | exact ed_str
  | exact ed_bl
  | exact ed_non
  | exact ed_nil
  | exact ed_dct
  | exact ed_neg
  | with_reducible apply ed_cons
  | with_reducible apply ed_tup
  | with_reducible apply ed_lst
  | exact Nat.le_of_ble_eq_true rfl)
local macro_rules | `(tactic| walk_at "tx1") => `(tactic| first
  | walk_at "rd1"
  | with_reducible refine r_callS ?_
  | with_reducible refine r_zipA ?_
  | with_reducible refine r_par ?_
  | with_reducible refine r_pair ?_
  | with_reducible refine r_pow6 ?_
  | with_reducible refine r_m0 ?_
  | with_reducible refine r_bm ?_
  | with_reducible refine r_isS ?_
  | with_reducible refine r_told ?_
  | with_reducible refine r_js ?_
  | with_reducible refine r_jsNil ?_
  | with_reducible refine r_repl ?_
  | ((with_reducible refine r_gLst (xs := ?xx) ?hh ?he ?_); (case hh => assumption); (case he => rfl))
  | ((with_reducible refine r_lenL (xs := ?xx) ?hh ?_); (case hh => assumption)))
local macro_rules | `(tactic| walk_at "tx") => `(tactic| repeat (walk_at "tx1"))
section
variable {t1 t2 t3 t4 t5 t6 : Tok} {P : Program} {w : World} {K : PySem.W.Frag} {mg : Str → Option Value} {base : Heap}
/-- a def that tells something of short data -/
def spF (K : PySem.W.Frag) (f : PyData → Bool) : Sp := fun vs H Q _ => ∃ (v : V) (d : PyData), vs = [v] ∧ Dd K H v d ∧ okD d ∧ fewD d ∧ ∀ H', Same H H' → Q (.bl (f d)) H'
abbrev s_is_index : Stmt := top 11
abbrev n_is_index : List Str := ["part"]
abbrev p_is_index : List Str := ["part"]
theorem sc_is_index : FnScope n_is_index p_is_index (defScope s_is_index) := ⟨rfl, rfl, rfl, by decide +kernel, rfl, by decide +kernel, by decide +kernel⟩
theorem ok_is_index (T : Txt mg t1 t2 t3 t4 t5 t6) {f : Addr} {fd : FuncData} (F : Fun K "_is_index" "_is_index" s_is_index f fd) : FnOk P w K mg base CX0 1 f fd p_is_index (spD K indexD) := by
  refine F.ok sc_is_index (fun vs H Q E h => spD_len h) (fun cdv A outer s H vs Q E hr h => ?_)
  obtain ⟨v, d, rfl, hd, ho, k⟩ := h
  refine ⟨_, (pss_cons (ps_if (PW.pt (pw_or (pt_not (pt_val (pe_callB k_isi (by rfl) T.z_isinstance (by decide +kernel) (pa_cons (pv 0) (pa_cons (pe_bltn (v := .ty "int") rfl T.z_int (by decide +kernel) rfl) pa_nil))))) (pw_or1 (pt_val (pe_callB k_isi (by rfl) T.z_isinstance (by decide +kernel) (pa_cons (pv 0) (pa_cons (pe_bltn (v := .ty "bool") rfl T.z_bool (by decide +kernel) rfl) pa_nil))))))) (pss_one (ps_ret pe_bl)) pss_nil)
      (pss_one (ps_ret (pe_chain o_le o_le pe_int (pv 0) (pe_glob (v := V.int (1000000000000000)) rfl T.g_GREATEST_NUMBER ⟨_, rfl⟩))))), ?_⟩
  have q := k H (Same.refl H)
  walk_at "tx"
  have hd2 := hd
  have no : isOf d "int" = false → indexD d = false := fun h => by
    rcases isInt_or d with ⟨h1, _⟩ | ⟨h1, _⟩ | ⟨_, _⟩
    · rw [h1] at h; cases h
    · rw [h1] at h; cases h
    · cases d with
      | int i => rw [show isOf (.int i) "int" = true from isN_int.2.2.1] at h; cases h
      | _ => rfl
  rcases isInt_or d with ⟨h1, h2, i, rfl⟩ | ⟨h1, h2, b, rfl⟩ | ⟨h1, h2⟩
  · rw [h1]
    cases hd
    refine iteF ?_
    walk_at "tx"
    rw [h2]
    refine iteF ?_
    walk_at "tx"
    refine r_dec (fun c1 => ?_) (fun c1 => ?_)
    · walk_at "tx"
      simpa [indexD, c1] using q
    · simpa [indexD, c1] using q
  · rw [h1]
    cases hd
    refine iteF ?_
    walk_at "tx"
    rw [h2]
    refine iteT ?_
    walk_at "tx"
    exact q
  · rw [h1]
    refine iteT ?_
    walk_at "tx"
    rw [no h1] at q
    exact q
abbrev s_are_keys : Stmt := top 12
abbrev n_are_keys : List Str := ["part", "key"]
abbrev p_are_keys : List Str := ["part"]
theorem sc_are_keys : FnScope n_are_keys p_are_keys (defScope s_are_keys) := ⟨rfl, rfl, rfl, by decide +kernel, rfl, by decide +kernel, by decide +kernel⟩
theorem ok_are_keys (T : Txt mg t1 t2 t3 t4 t5 t6) {f : Addr} {fd : FuncData} (F : Fun K "_are_keys" "_are_keys" s_are_keys f fd) (K_is_word : Cal P w K mg base CX0 1 "is_word" p_is_word (spD K wordD)) : FnOk P w K mg base CX0 2 f fd p_are_keys (spF K ascD) := by
  refine F.ok sc_are_keys (fun vs H Q E h => by obtain ⟨v, d, rfl, _⟩ := h; rfl) (fun cdv A outer s H vs Q E hr h => ?_)
  obtain ⟨v, d, rfl, hd, ho, hf, k⟩ := h
  have hu := hr.units
  refine ⟨_, (pss_cons (ps_if (PW.pt (pw_or (pt_not (pt_val (pe_callB k_isi (by rfl) T.z_isinstance (by decide +kernel) (pa_cons (pv 0) (pa_cons (pe_bltn (v := .ty "tuple") rfl T.z_tuple (by decide +kernel) rfl) pa_nil))))) (pw_or1 (pt_not (pt_val (pe_callB (k_all rfl) (by rfl) T.z_all (by decide +kernel) (pa_cons (pe_lc (own := [("key", 1)]) rfl sc_are_keys.nd (k_tup (pv 0)) (blkOk_by (own := [("key", 1)]) (N := n_are_keys) (sc := defScope s_are_keys) (by decide +kernel)) (fun _ _ _ _ _ => (pg_name (i := 1) sc_are_keys.nd rfl (by first | exact Or.inl rfl | exact Or.inr rfl))) (fun _ _ _ _ _ => pts_nil) (fun _ _ _ _ _ => (pe_cal K_is_word (hr.mono (by decide)) pass0 (pa_cons (pv 1) pa_nil)))) pa_nil))))))) (pss_one (ps_ret pe_bl)) pss_nil)
      (pss_one (ps_ret (pe_cmpR (k_eqP hu) (pe_callTy k_listOf (by rfl) T.z_list (by decide +kernel) (pa_cons (pv 0) pa_nil)) (pe_callB (k_sortX rfl) (by rfl) T.z_sorted (by decide +kernel) (pa_cons (pe_callTy (k_setX rfl) (by rfl) T.z_set (by decide +kernel) (pa_cons (pv 0) pa_nil)) pa_nil)) (nomark _))))), ?_⟩
  walk_at "tx"
  rcases tup_or hd with ⟨a, xs, ds, rfl, rfl, ha, hds, e⟩ | ⟨e, hn⟩
  · rw [e]
    refine iteF ?_
    obtain ⟨o1, o2⟩ := ho
    have hf : ds.length ≤ 60 := hf
    walk_at "tx"
    refine ⟨_, rfl, ⟨_, SqT.of ha⟩, ?_⟩
    refine lc_tupP ha (by rw [hds.length]; exact o1) (fun v => .bl (wordV v)) (fun x hx H2 R s2 q => ?_) (fun D H1 hD s1 e1 => ?_)
    · obtain ⟨d, hd, od⟩ := hds.mem o2 hx
      walk_at "tx"
      refine r_spD (Dd.same s2 _ _ hd) od fun H3 s3 => ?_
      rw [← wordV_is hd]
      exact q H3 s3
    · have e1' : H1 D = some (.lst ((ds.map wordD).map V.bl)) := by
        rw [e1, ← words_all hds, List.map_map]
        rfl
      walk_at "tx"
      refine r_all e1' ?_
      have ea : (ds.map wordD).all id = ds.all wordD := by rw [List.all_map]; rfl
      rw [ea]
      walk_at "tx"
      refine r_boolN (fun c => ?_) (fun c => ?_)
      · walk_at "tx"
        have q := k H1 s1
        have z : ascD (.tuple ds) = false := by
          show (ds.all wordD && _) = false
          rw [c]
          rfl
        rw [z] at q
        exact q
      · obtain ⟨ys, rfl, rfl⟩ := words_strs hds c
        have hf : ys.length ≤ 60 := by rw [List.length_map] at hf; exact hf
        walk_at "tx"
        refine g_listOfT (s1 _ _ ha) fun l H2 hl s2 e2 => ?_
        walk_at "tx"
        refine r_setXT (s2 _ _ (s1 _ _ ha)) (by omega) fun S H3 hS s3 e3 => ?_
        walk_at "tx"
        refine r_sortX e3 (by have := Ts.gather_len ys.reverse; rw [List.length_reverse] at this; omega) fun zs p H4 pm st hp s4 e4 => ?_
        have d1 : Dd K H4 (.ref l) (.list (ys.map PyData.str)) := .lst (s4 _ _ (s3 _ _ e2)) (strs_data ys)
        have d2 : Dd K H4 (.ref p) (.list (zs.map PyData.str)) := .lst e4 (strs_data zs)
        refine ⟨_, _, d1, d2, strs_plain ys, strs_plain zs, ?_, ?_⟩
        · show PyData.depthAll _ + 1 ≤ 60
          rw [strs_depth]
          decide
        · have q := k H4 (s1.trans (s2.trans (s3.trans s4)))
          have z : ascD (.tuple (ys.map PyData.str)) = PyData.eqv (.list (ys.map PyData.str)) (.list (zs.map PyData.str)) := by
            show ((ys.map PyData.str).all wordD && ascB ((ys.map PyData.str).map txtD)) = PyData.eqvAll _ _
            rw [c, txt_strs, strs_eqv, asc_sorted pm st]
            rfl
          rw [z] at q
          exact q
  · rw [e]
    refine iteT ?_
    walk_at "tx"
    have q := k H (Same.refl H)
    have z : ascD d = false := by
      cases d with
      | tuple x => exact absurd rfl (hn x)
      | _ => rfl
    rw [z] at q
    exact q
end
end K75

set_option Elab.async false
set_option linter.all false
set_option maxRecDepth 100000
set_option maxHeartbeats 4000000
namespace K75
open PySem PySem.Spec PyProof.Rows L2 Tk
local macro_rules | `(tactic| walk_at "rd1") => `(tactic| first
  | with_reducible refine r_seq ?_
  | ((with_reducible refine r_var (v := ?vv) ?hrv ?_); (case hrv => rfl))
  | with_reducible refine r_c ?_
  | with_reducible refine r_op ?_
  | ((with_reducible refine r_ixL (xs := ?xx) (v := ?vv) ?hh ?he ?_); (case hh => first | assumption | exact upd_same); (case he => rfl))
  | with_reducible refine r_asg ?_
  | with_reducible refine r_sub ?_
  | ((with_reducible refine r_gTup (xs := ?xx) ?hh ?he ?_); (case hh => assumption); (case he => rfl))
  | with_reducible refine r_gCons ?_
  | with_reducible refine r_gNil ?_
  | ((with_reducible refine r_setL (xs := ?xx) (j := ?vv) ?hh ?he ?_); (case hh => first | assumption | exact upd_same); (case he => rfl))
  | with_reducible refine r_pow15 ?_
  | with_reducible refine r_pow18 ?_
  | with_reducible refine r_repr ?_
  | with_reducible refine iteT ?_
  | with_reducible refine iteF ?_
  | with_reducible refine r_cons ?_
  | with_reducible refine r_nil ?_
  | with_reducible refine r_call ?_
  | with_reducible refine r_cb ?_
  | with_reducible refine r_ret ?_
  | with_reducible refine r_gName ?_
  | with_reducible refine r_next ?_
  | with_reducible refine r_ifS ?_
  | with_reducible refine r_un ?_
  | with_reducible refine r_U ?_
  | with_reducible refine r_max2 ?_
  | with_reducible refine r_min2 ?_
  | with_reducible refine r_sl ?_
  | with_reducible refine r_noPart ?_
  | with_reducible refine r_part ?_
  | with_reducible refine r_inti ?_
  | with_reducible refine r_lc ?_
  | with_reducible refine r_for ?_
  | with_reducible refine r_rng1 ?_
  | with_reducible refine r_iList ?_
  | with_reducible refine r_iTup ?_
  | with_reducible refine r_iStr ?_
  | with_reducible refine r_strx ?_
  | ((with_reducible refine r_j ?hh ?hi ?_); (case hh => omega); (case hi => omega))
  | with_reducible refine r_m1 ?_
  | with_reducible refine r_test ?_
  | with_reducible refine r_B ?_
  | with_reducible refine r_not ?_
  | with_reducible refine r_and ?_
  | with_reducible refine r_or ?_
  | with_reducible refine r_andV ?_
  | with_reducible refine r_orV ?_
  | with_reducible refine r_notV ?_
  | with_reducible refine r_if ?_
  | with_reducible refine r_chain ?_
  | with_reducible refine r_lst ?_
  | with_reducible refine r_tup ?_
  | with_reducible refine r_k ?_
  | ((with_reducible refine r_isiS (d := ?dd) ?hh ?_); (case hh => assumption))
  | ((with_reducible refine r_isiT (d := ?dd) ?hh ?_); (case hh => assumption))
  | ((with_reducible refine r_isiI (d := ?dd) ?hh ?_); (case hh => assumption))
  | ((with_reducible refine r_isiB (d := ?dd) ?hh ?_); (case hh => assumption))
  | ((with_reducible refine r_lenS ?hh ?_); (case hh => assumption))
  | ((with_reducible refine r_lenT (xs := ?dd) ?hh ?_); (case hh => assumption))
  | ((with_reducible refine r_ixT (xs := ?xx) (v := ?vv) ?hh ?he ?_); (case hh => assumption); (case he => rfl))
  | with_reducible refine r_isN ?_
  | with_reducible refine r_I0 ?_
  | with_reducible refine g_addI ?_
  | ((with_reducible refine r_mod ?hh ?_); (case hh => first | decide | omega))
  | ((with_reducible refine r_div ?hh ?hi ?_); (case hh => first | decide | omega); (case hi => first | decide | omega))
  | ((with_reducible refine g_mulB ?hh ?hi ?_); (case hh => omega); (case hi => omega))
  | with_reducible refine g_ltI ?_
  | with_reducible refine g_leI ?_
  | with_reducible refine g_gtI ?_
  | with_reducible refine g_geI ?_
  | with_reducible refine g_eqI ?_
  | with_reducible refine g_neI ?_
  | with_reducible refine g_eqS ?_
  | with_reducible refine g_neS ?_
  | with_reducible refine g_leS ?_
  | with_reducible refine g_ltS ?_)
local macro_rules | `(tactic| walk_at "rd") => `(tactic| repeat (walk_at "rd1"))
local macro_rules | `(tactic| walk_at "ed") => `(tactic| repeat first
  | exact ed_int
  | exact ed_str
  | exact ed_bl
  | exact ed_non
  | exact ed_nil
  | exact ed_dct
  | exact ed_neg
  | with_reducible apply ed_cons
  | with_reducible apply ed_tup
  | with_reducible apply ed_lst
  | exact Nat.le_of_ble_eq_true rfl)
local macro_rules | `(tactic| walk_at "tx1") => `(tactic| first
  | walk_at "rd1"
  | with_reducible refine r_callS ?_
  | with_reducible refine r_zipA ?_
  | with_reducible refine r_par ?_
  | with_reducible refine r_pair ?_
  | with_reducible refine r_pow6 ?_
  | with_reducible refine r_m0 ?_
  | with_reducible refine r_bm ?_
  | with_reducible refine r_isS ?_
  | with_reducible refine r_told ?_
  | with_reducible refine r_js ?_
  | with_reducible refine r_jsNil ?_
  | with_reducible refine r_repl ?_
  | ((with_reducible refine r_gLst (xs := ?xx) ?hh ?he ?_); (case hh => assumption); (case he => rfl))
  | ((with_reducible refine r_lenL (xs := ?xx) ?hh ?_); (case hh => assumption)))
local macro_rules | `(tactic| walk_at "tx") => `(tactic| repeat (walk_at "tx1"))
section
variable {t1 t2 t3 t4 t5 t6 : Tok} {P : Program} {w : World} {K : PySem.W.Frag} {mg : Str → Option Value} {base : Heap}
def spPart (K : PySem.W.Frag) : Sp := fun vs H Q _ => ∃ (k : Str) (v : V) (d : PyData), vs = [.str k, v] ∧ Dd K H v d ∧ okD d ∧ fewD d ∧ ∀ H', Same H H' → Q (.bl (kindD k d)) H'
abbrev s_is_part : Stmt := top 10
abbrev n_is_part : List Str := ["kind", "part"]
abbrev p_is_part : List Str := ["kind", "part"]
theorem sc_is_part : FnScope n_is_part p_is_part (defScope s_is_part) := ⟨rfl, rfl, rfl, by decide +kernel, rfl, by decide +kernel, by decide +kernel⟩
theorem ok_is_part (T : Txt mg t1 t2 t3 t4 t5 t6) {f : Addr} {fd : FuncData} (F : Fun K "_is_part" "_is_part" s_is_part f fd) (K_is_word : Cal P w K mg base CX0 2 "is_word" p_is_word (spD K wordD)) (K_is_value : Cal P w K mg base CX0 2 "is_value" p_is_value (spD K valueD))
    (K_is_number : Cal P w K mg base CX0 2 "is_number" p_is_number (spD K numD)) (K_is_index : Cal P w K mg base CX0 2 "_is_index" p_is_index (spD K indexD)) (K_are_keys : Cal P w K mg base CX0 2 "_are_keys" p_are_keys (spF K ascD)) :
    FnOk P w K mg base CX0 3 f fd p_is_part (spPart K) := by
  refine F.ok sc_is_part (fun vs H Q E h => by obtain ⟨k, v, d, rfl, _⟩ := h; rfl) (fun cdv A outer s H vs Q E hr h => ?_)
  obtain ⟨kx, v, d, rfl, hd, ho, hf, k⟩ := h
  have hu := hr.units
  refine ⟨_, (pss_cons (ps_if (pt_cmpR (k_eq hu) (pv 0) pe_str (nomark _)) (pss_one (ps_ret (pe_cal K_is_word (hr.mono (by decide)) pass0 (pa_cons (pv 1) pa_nil)))) pss_nil)
      (pss_cons (ps_if (pt_cmpR (k_eq hu) (pv 0) pe_str (nomark _)) (pss_one (ps_ret (pe_cal K_is_value (hr.mono (by decide)) pass0 (pa_cons (pv 1) pa_nil)))) pss_nil)
      (pss_cons (ps_if (pt_cmpR (k_eq hu) (pv 0) pe_str (nomark _)) (pss_one (ps_ret (pe_cal K_is_number (hr.mono (by decide)) pass0 (pa_cons (pv 1) pa_nil)))) pss_nil)
      (pss_cons (ps_if (pt_cmpR (k_eq hu) (pv 0) pe_str (nomark _)) (pss_one (ps_ret (pe_cal K_is_index (hr.mono (by decide)) pass0 (pa_cons (pv 1) pa_nil)))) pss_nil)
      (pss_one (ps_ret (pe_or (pe_cmpR o_isN (pv 1) pe_non (nomark _)) (pe_one (pe_cal K_are_keys (hr.mono (by decide)) pass0 (pa_cons (pv 1) pa_nil)))))))))), ?_⟩
  unfold kindD at k
  walk_at "tx"
  refine r_dec (fun c1 => ?_) (fun c1 => ?_)
  · rw [if_pos c1] at k
    walk_at "tx"
    exact r_spD hd ho k
  · rw [if_neg c1] at k
    walk_at "tx"
    refine r_dec (fun c2 => ?_) (fun c2 => ?_)
    · rw [if_pos c2] at k
      walk_at "tx"
      exact r_spD hd ho k
    · rw [if_neg c2] at k
      walk_at "tx"
      refine r_dec (fun c3 => ?_) (fun c3 => ?_)
      · rw [if_pos c3] at k
        walk_at "tx"
        exact r_spD hd ho k
      · rw [if_neg c3] at k
        walk_at "tx"
        refine r_dec (fun c4 => ?_) (fun c4 => ?_)
        · rw [if_pos c4] at k
          walk_at "tx"
          exact r_spD hd ho k
        · rw [if_neg c4] at k
          walk_at "tx"
          rw [noneD_iff hd]
          refine r_bool (fun c5 => ?_) (fun c5 => ?_)
          · have q := k H (Same.refl H)
            simpa [c5] using q
          · walk_at "tx"
            refine ⟨v, d, rfl, hd, ho, hf, fun H' s' => ?_⟩
            have q := k H' s'
            simpa [c5] using q
def spEvt (K : PySem.W.Frag) : Sp := fun vs H Q _ => ∃ (v : V) (d : PyData), vs = [v] ∧ Dd K H v d ∧ okD d ∧ fewI d ∧ ∀ H', Same H H' → Q (.bl (eventD d)) H'
theorem partsD_zip : ∀ {f : List Str} {ds : List PyData}, f.length = ds.length → partsD f ds = (List.zipWith kindD f ds).all id
  | [], [], _ => rfl
  | k :: f, d :: ds, h => by
    rw [partsD, List.zipWith_cons_cons, List.all_cons, partsD_zip (by simpa using h)]
    rfl
  | [], _ :: _, h => nomatch h
  | _ :: _, [], h => nomatch h
theorem DdAll.get {K : PySem.W.Frag} {H : Hp} : ∀ {vs : List V} {ds : List PyData} {i : Nat} {v : V}, DdAll K H vs ds → vs[i]? = some v → ∃ d, ds[i]? = some d ∧ Dd K H v d
  | _, _, _, _, .nil, h => by simp at h
  | _, _, 0, v, .cons h t, e => by
    simp at e
    subst e
    exact ⟨_, rfl, h⟩
  | _, _, i + 1, v, .cons h t, e => DdAll.get t (i := i) (by simpa using e)
theorem okAll_mem : ∀ {ds : List PyData} {d : PyData}, okAll ds → d ∈ ds → okD d
  | _ :: _, _, o, .head _ => o.1
  | _ :: _, _, o, .tail _ m => okAll_mem o.2 m
theorem lookup_few : ∀ r ∈ formsT, r.2.length ≤ 3 := by decide +kernel
theorem lookup_mem {x : Str} {f : List Str} (h : formsT.lookup x = some f) : f.length ≤ 3 := by
  have go : ∀ (l : List (Str × List Str)), l.lookup x = some f → (x, f) ∈ l := by
    intro l
    induction l with
    | nil => intro h; cases h
    | cons r l ih =>
      obtain ⟨y, g⟩ := r
      intro h
      rw [List.lookup_cons] at h
      by_cases e : (x == y) = true
      · rw [e] at h
        cases h
        rw [eq_of_beq e]
        exact List.mem_cons_self
      · rw [Bool.not_eq_true] at e
        rw [e] at h
        exact List.mem_cons_of_mem _ (ih h)
  exact lookup_few _ (go _ h)
abbrev s_is_event : Stmt := top 9
abbrev n_is_event : List Str := ["thing", "form", "kind", "part"]
abbrev p_is_event : List Str := ["thing"]
theorem sc_is_event : FnScope n_is_event p_is_event (defScope s_is_event) := ⟨rfl, rfl, rfl, by decide +kernel, rfl, by decide +kernel, by decide +kernel⟩
theorem ok_is_event {DF : Addr} (hDF : mg "FORMS" = some (.ref DF)) (hTab : TabK K w.params DF formsT) (T : Txt mg t1 t2 t3 t4 t5 t6) {f : Addr} {fd : FuncData} (F : Fun K "is_event" "is_event" s_is_event f fd) (K_is_word : Cal P w K mg base CX0 3 "is_word" p_is_word (spD K wordD))
    (K_is_part : Cal P w K mg base CX0 3 "_is_part" p_is_part (spPart K)) : FnOk P w K mg base CX0 4 f fd p_is_event (spEvt K) := by
  refine F.ok sc_is_event (fun vs H Q E h => by obtain ⟨v, d, rfl, _⟩ := h; rfl) (fun cdv A outer s H vs Q E hr h => ?_)
  obtain ⟨v, d, rfl, hd, ho, hf, k⟩ := h
  have hu := hr.units
  refine ⟨_, (pss_cons (ps_if (PW.pt (pw_or (pt_not (pt_val (pe_callB k_isi (by rfl) T.z_isinstance (by decide +kernel) (pa_cons (pv 0) (pa_cons (pe_bltn (v := .ty "tuple") rfl T.z_tuple (by decide +kernel) rfl) pa_nil))))) (pw_or1 (pt_cmpR (k_eq hu) (pe_callB k_len (by rfl) T.z_len (by decide +kernel) (pa_cons (pv 0) pa_nil)) pe_int (nomark _))))) (pss_one (ps_ret pe_bl)) pss_nil)
      (pss_cons (ps_if (PW.pt (pw_or (pt_not (pt_val (pe_cal K_is_word (hr.mono (by decide)) pass0 (pa_cons (pe_ix k_ix (pv 0) pe_int (fun _ _ => rfl)) pa_nil)))) (pw_or1 (pt_cmpR k_tabNot (pe_ix k_ix (pv 0) pe_int (fun _ _ => rfl)) (pe_glob (v := .ref DF) rfl hDF rfl) rfl)))) (pss_one (ps_ret pe_bl)) pss_nil)
      (pss_cons (ps_set (i := 1) sc_is_event.nd rfl (by first | exact Or.inl rfl | exact Or.inr rfl) (pe_ix k_tabIx (pe_glob (v := .ref DF) rfl hDF rfl) (pe_ix k_ix (pv 0) pe_int (fun _ _ => rfl)) (fun _ _ => rfl)))
      (pss_cons (ps_if (pt_cmpR (k_ne hu) (pe_callB k_len (by rfl) T.z_len (by decide +kernel) (pa_cons (pv 0) pa_nil)) (pe_op k_add (pe_callB k_len (by rfl) T.z_len (by decide +kernel) (pa_cons (pv 1) pa_nil)) pe_int) (nomark _)) (pss_one (ps_ret pe_bl)) pss_nil)
      (pss_one (ps_ret (pe_callB (k_all rfl) (by rfl) T.z_all (by decide +kernel) (pa_cons (pe_lc (own := [("kind", 2), ("part", 3)]) rfl sc_is_event.nd (k_zipA rfl T.z_zip (pa_cons (pv 1) (pa_cons (pe_slice k_slice (pv 0) (po_some pe_int) po_none) pa_nil))) (blkOk_by (own := [("kind", 2), ("part", 3)]) (N := n_is_event) (sc := defScope s_is_event) (by decide +kernel)) (fun _ _ _ _ _ => (k_gtup (n := 2) rfl (pgs_cons (pg_name (i := 2) sc_is_event.nd rfl (by first | exact Or.inl rfl | exact Or.inr rfl)) (pgs_cons (pg_name (i := 3) sc_is_event.nd rfl (by first | exact Or.inl rfl | exact Or.inr rfl)) pgs_nil)))) (fun _ _ _ _ _ => pts_nil) (fun _ _ _ _ _ => (pe_cal K_is_part (hr.mono (by decide)) pass0 (pa_cons (pv 2) (pa_cons (pv 3) pa_nil))))) pa_nil)))))))), ?_⟩
  walk_at "tx"
  have no : ∀ H', Same H H' → eventD d = false → Q (.bl false) H' := fun H' s' z => by
    have q := k H' s'
    rw [z] at q
    exact q
  rcases tup_or hd with ⟨a, xs, ds, rfl, rfl, ha, hds, e⟩ | ⟨e, hn⟩
  · rw [e]
    refine iteF ?_
    obtain ⟨o1, o2⟩ := ho
    walk_at "tx"
    cases hds with
    | nil =>
      refine r_dec (fun c => ?_) (fun c => absurd rfl c)
      walk_at "tx"
      exact no H (Same.refl H) rfl
    | cons h0 hr' =>
      rename_i v0 vs d0 dr
      refine r_dec (fun c => by rw [List.length_cons] at c; omega) (fun _ => ?_)
      walk_at "tx"
      refine r_ixT ha (v := v0) (atI_nat (j := 0) rfl) ?_
      walk_at "tx"
      refine r_spD h0 o2.1 fun H1 s1 => ?_
      have ha1 := s1 _ _ ha
      walk_at "tx"
      refine r_boolN (fun c => ?_) (fun c => ?_)
      · walk_at "tx"
        refine no H1 s1 ?_
        cases d0 with
        | str x =>
          show (wordS x && _) = false
          rw [show wordS x = false from c]
          rfl
        | _ => rfl
      · cases h0 with
        | str x =>
          have cw : wordS x = true := c
          walk_at "tx"
          refine r_ixT ha1 (v := .str x) (atI_nat (j := 0) rfl) ?_
          walk_at "tx"
          refine ⟨DF, formsT, x, rfl, rfl, hTab, ?_⟩
          walk_at "tx"
          cases hx : formsT.lookup x with
          | none =>
            refine iteT ?_
            walk_at "tx"
            refine no H1 s1 ?_
            show (wordS x && match formsT.lookup x with | some f => partsD f dr | none => false) = false
            rw [hx, Bool.and_false]
          | some fm =>
            have ev : eventD (.tuple (.str x :: dr)) = partsD fm dr := by
              show (wordS x && match formsT.lookup x with | some f => partsD f dr | none => false) = _
              rw [hx, cw]
              rfl
            refine iteF ?_
            walk_at "tx"
            refine r_ixT ha1 (v := .str x) (atI_nat (j := 0) rfl) ?_
            walk_at "tx"
            refine ⟨DF, formsT, x, fm, rfl, rfl, hTab, hx, fun b hb => ?_⟩
            walk_at "tx"
            refine ⟨_, _, rfl, .inr ⟨_, hb H1, rfl⟩, ?_⟩
            walk_at "tx"
            have lm := lookup_mem hx
            have ll := hr'.length
            refine r_decN (fun c2 => ?_) (fun c2 => ?_)
            · walk_at "tx"
              refine no H1 s1 ?_
              rw [ev]
              cases z : partsD fm dr with
              | false => rfl
              | true =>
                exfalso
                have := partsD_len z
                rw [List.length_cons, List.length_map] at c2
                omega
            · rw [List.length_cons, List.length_map] at c2
              have lf : fm.length = dr.length := by omega
              walk_at "tx"
              refine g_slT ha1 (n := (V.str x :: vs).length) rfl (by
                intro z
                have i1 : HT.sIx (V.str x :: vs).length 0 (some 1) = 1 := by
                  rw [List.length_cons]
                  unfold HT.sIx
                  simp
                rw [i1] at z
                exact absurd z.1 (by decide)) fun p H2 hp s2 e2 => ?_
              have e2 : H2 p = some (.tup vs) := by
                rw [e2]
                unfold cutV
                have i1 : HT.sIx (V.str x :: vs).length 0 (some 1) = 1 := by
                  rw [List.length_cons]
                  unfold HT.sIx
                  simp
                rw [i1, HT.sIx_none]
                show some (HO.tup (vs.take ((V.str x :: vs).length - 1))) = _
                rw [List.take_of_length_le (by simp)]
              walk_at "tx"
              refine ⟨b, p, fm.map V.str, vs, rfl, .inr ⟨hb H2, SqT.of e2, ?_⟩⟩
              have few : vs.length ≤ 3 := by omega
              refine lc_zip (by decide) ((List.zipWith kindD fm dr).map V.bl) (by simp; omega) (by simp; omega) (by simp; omega) (fun H' _ => hb H') (fun H' s' => SqT.of (s' _ _ e2)) (fun i y z r hy hz hr2 H3 R s3 q => ?_) (fun D H3 hD s3 e3 => ?_)
              · walk_at "tx"
                obtain ⟨dz, hdz, dd⟩ := DdAll.get hr' hz
                rw [List.getElem?_map] at hy
                cases hk : fm[i]? with
                | none => rw [hk] at hy; cases hy
                | some kx =>
                  rw [hk] at hy
                  cases hy
                  have hm := List.mem_of_getElem? hdz
                  refine ⟨kx, z, dz, rfl, Dd.same ((s1.trans s2).trans s3) _ _ dd, okAll_mem o2.2 hm, hf dz (List.mem_cons_of_mem _ hm), fun H4 s4 => ?_⟩
                  rw [List.getElem?_map, List.getElem?_zipWith, hk, hdz] at hr2
                  cases hr2
                  exact q H4 s4
              · walk_at "tx"
                refine r_all e3 ?_
                have q := k H3 ((s1.trans s2).trans s3)
                rw [ev, partsD_zip lf] at q
                exact q
        | _ => exact nomatch c
  · rw [e]
    refine iteT ?_
    walk_at "tx"
    exact no H (Same.refl H) (eventD_no hn)
end
end K75

set_option Elab.async false
set_option linter.all false
set_option maxRecDepth 100000
set_option maxHeartbeats 4000000
namespace K75
open PySem PySem.Spec PyProof.Rows L2 Tk
local macro_rules | `(tactic| walk_at "rd1") => `(tactic| first
  | with_reducible refine r_seq ?_
  | ((with_reducible refine r_var (v := ?vv) ?hrv ?_); (case hrv => rfl))
  | with_reducible refine r_c ?_
  | with_reducible refine r_op ?_
  | ((with_reducible refine r_ixL (xs := ?xx) (v := ?vv) ?hh ?he ?_); (case hh => first | assumption | exact upd_same); (case he => rfl))
  | with_reducible refine r_asg ?_
  | with_reducible refine r_sub ?_
  | ((with_reducible refine r_gTup (xs := ?xx) ?hh ?he ?_); (case hh => assumption); (case he => rfl))
  | with_reducible refine r_gCons ?_
  | with_reducible refine r_gNil ?_
  | ((with_reducible refine r_setL (xs := ?xx) (j := ?vv) ?hh ?he ?_); (case hh => first | assumption | exact upd_same); (case he => rfl))
  | with_reducible refine r_pow15 ?_
  | with_reducible refine r_pow18 ?_
  | with_reducible refine r_repr ?_
  | with_reducible refine iteT ?_
  | with_reducible refine iteF ?_
  | with_reducible refine r_cons ?_
  | with_reducible refine r_nil ?_
  | with_reducible refine r_call ?_
  | with_reducible refine r_cb ?_
  | with_reducible refine r_ret ?_
  | with_reducible refine r_gName ?_
  | with_reducible refine r_next ?_
  | with_reducible refine r_ifS ?_
  | with_reducible refine r_un ?_
  | with_reducible refine r_U ?_
  | with_reducible refine r_max2 ?_
  | with_reducible refine r_min2 ?_
  | with_reducible refine r_sl ?_
  | with_reducible refine r_noPart ?_
  | with_reducible refine r_part ?_
  | with_reducible refine r_inti ?_
  | with_reducible refine r_lc ?_
  | with_reducible refine r_for ?_
  | with_reducible refine r_rng1 ?_
  | with_reducible refine r_iList ?_
  | with_reducible refine r_iTup ?_
  | with_reducible refine r_iStr ?_
  | with_reducible refine r_strx ?_
  | ((with_reducible refine r_j ?hh ?hi ?_); (case hh => omega); (case hi => omega))
  | with_reducible refine r_m1 ?_
  | with_reducible refine r_test ?_
  | with_reducible refine r_B ?_
  | with_reducible refine r_not ?_
  | with_reducible refine r_and ?_
  | with_reducible refine r_or ?_
  | with_reducible refine r_andV ?_
  | with_reducible refine r_orV ?_
  | with_reducible refine r_notV ?_
  | with_reducible refine r_if ?_
  | with_reducible refine r_chain ?_
  | with_reducible refine r_lst ?_
  | with_reducible refine r_tup ?_
  | with_reducible refine r_k ?_
  | ((with_reducible refine r_isiS (d := ?dd) ?hh ?_); (case hh => assumption))
  | ((with_reducible refine r_isiT (d := ?dd) ?hh ?_); (case hh => assumption))
  | ((with_reducible refine r_isiI (d := ?dd) ?hh ?_); (case hh => assumption))
  | ((with_reducible refine r_isiB (d := ?dd) ?hh ?_); (case hh => assumption))
  | ((with_reducible refine r_lenS ?hh ?_); (case hh => assumption))
  | ((with_reducible refine r_lenT (xs := ?dd) ?hh ?_); (case hh => assumption))
  | ((with_reducible refine r_ixT (xs := ?xx) (v := ?vv) ?hh ?he ?_); (case hh => assumption); (case he => rfl))
  | with_reducible refine r_isN ?_
  | with_reducible refine r_I0 ?_
  | with_reducible refine g_addI ?_
  | ((with_reducible refine r_mod ?hh ?_); (case hh => first | decide | omega))
  | ((with_reducible refine r_div ?hh ?hi ?_); (case hh => first | decide | omega); (case hi => first | decide | omega))
  | ((with_reducible refine g_mulB ?hh ?hi ?_); (case hh => omega); (case hi => omega))
  | with_reducible refine g_ltI ?_
  | with_reducible refine g_leI ?_
  | with_reducible refine g_gtI ?_
  | with_reducible refine g_geI ?_
  | with_reducible refine g_eqI ?_
  | with_reducible refine g_neI ?_
  | with_reducible refine g_eqS ?_
  | with_reducible refine g_neS ?_
  | with_reducible refine g_leS ?_
  | with_reducible refine g_ltS ?_)
local macro_rules | `(tactic| walk_at "rd") => `(tactic| repeat (walk_at "rd1"))
local macro_rules | `(tactic| walk_at "ed") => `(tactic| repeat first
  | exact ed_int
  | exact ed_str
  | exact ed_bl
  | exact ed_non
  | exact ed_nil
  | exact ed_dct
  | exact ed_neg
  | with_reducible apply ed_cons
  | with_reducible apply ed_tup
  | with_reducible apply ed_lst
  | exact Nat.le_of_ble_eq_true rfl)
local macro_rules | `(tactic| walk_at "tx1") => `(tactic| first
  | walk_at "rd1"
  | with_reducible refine r_callS ?_
  | with_reducible refine r_zipA ?_
  | with_reducible refine r_par ?_
  | with_reducible refine r_pair ?_
  | with_reducible refine r_pow6 ?_
  | with_reducible refine r_m0 ?_
  | with_reducible refine r_bm ?_
  | with_reducible refine r_isS ?_
  | with_reducible refine r_told ?_
  | with_reducible refine r_js ?_
  | with_reducible refine r_jsNil ?_
  | with_reducible refine r_repl ?_
  | ((with_reducible refine r_gLst (xs := ?xx) ?hh ?he ?_); (case hh => assumption); (case he => rfl))
  | ((with_reducible refine r_lenL (xs := ?xx) ?hh ?_); (case hh => assumption)))
local macro_rules | `(tactic| walk_at "tx") => `(tactic| repeat (walk_at "tx1"))
section
variable {t1 t2 t3 t4 t5 t6 : Tok} {P : Program} {w : World} {K : PySem.W.Frag} {mg : Str → Option Value} {base : Heap}
def fullD : PyData → Bool
  | .tuple (_ :: _) => true
  | _ => false
def tupB : PyData → Bool
  | .tuple _ => true
  | _ => false
def countD : PyData → Bool
  | .int i => decide (1 ≤ i) && decide (i ≤ 20)
  | _ => false
def stepT (x : Str) (r : List PyData) : Bool :=
  if x = "do" then (match r with | [e] => eventD e | _ => false)
  else if x = "try" then (match r with | [p] => fullD p | _ => false)
  else if x = "repeat" then (match r with | [c, p] => countD c && fullD p | _ => false)
  else if x = "each" then (match r with | [n, p] => wordD n && fullD p | _ => false)
  else if x = "if" then (match r with | [a, b, p, o] => wordD a && (wordD b && (fullD p && tupB o)) | _ => false)
  else false
def stepD : PyData → Bool
  | .tuple (.str x :: r) => stepT x r
  | _ => false
def plansD : PyData → List PyData
  | .tuple (.str x :: r) => if x = "do" then [] else if x = "if" then (match r with | [_, _, p, o] => [p, o] | _ => []) else (match r.getLast? with | some p => [p] | none => [])
  | _ => []
/-- what is asked of a step's data -/
def AskS (d : PyData) : Prop := okD d ∧ ∀ e, d = .tuple [.str "do", e] → fewI e
def spStep (K : PySem.W.Frag) : Sp := fun vs H Q _ => ∃ (v : V) (d : PyData), vs = [v] ∧ Dd K H v d ∧ AskS d ∧ ∀ H', Same H H' → Q (.bl (stepD d)) H'
abbrev s_is_full : Stmt := top 19
abbrev n_is_full : List Str := ["thing"]
abbrev p_is_full : List Str := ["thing"]
theorem sc_is_full : FnScope n_is_full p_is_full (defScope s_is_full) := ⟨rfl, rfl, rfl, by decide +kernel, rfl, by decide +kernel, by decide +kernel⟩
theorem ok_is_full (T : Txt mg t1 t2 t3 t4 t5 t6) {f : Addr} {fd : FuncData} (F : Fun K "_is_full" "_is_full" s_is_full f fd) : FnOk P w K mg base CX0 1 f fd p_is_full (spD K fullD) := by
  refine F.ok sc_is_full (fun vs H Q E h => spD_len h) (fun cdv A outer s H vs Q E hr h => ?_)
  obtain ⟨v, d, rfl, hd, ho, k⟩ := h
  have hu := hr.units
  refine ⟨_, (pss_one (ps_ret (pe_and (pe_callB k_isi (by rfl) T.z_isinstance (by decide +kernel) (pa_cons (pv 0) (pa_cons (pe_bltn (v := .ty "tuple") rfl T.z_tuple (by decide +kernel) rfl) pa_nil))) (pe_one (pe_cmpR o_gt (pe_callB k_len (by rfl) T.z_len (by decide +kernel) (pa_cons (pv 0) pa_nil)) pe_int (nomark _)))))), ?_⟩
  walk_at "tx"
  have q := k H (Same.refl H)
  rcases tup_or hd with ⟨a, xs, ds, rfl, rfl, ha, hds, e⟩ | ⟨e, hn⟩
  · rw [e]
    refine iteT ?_
    walk_at "tx"
    cases hds with
    | nil => exact q
    | cons h0 hr' =>
      rename_i v0 vs d0 dr
      have z : decide ((0 : Int) < ((v0 :: vs).length : Nat)) = true := decide_eq_true (by rw [List.length_cons]; omega)
      rw [z]
      exact q
  · rw [e]
    refine iteF ?_
    have z : fullD d = false := by
      cases d with
      | tuple ds => exact absurd rfl (hn ds)
      | _ => rfl
    rw [z] at q
    exact q
abbrev s_is_count : Stmt := top 20
abbrev n_is_count : List Str := ["thing"]
abbrev p_is_count : List Str := ["thing"]
theorem sc_is_count : FnScope n_is_count p_is_count (defScope s_is_count) := ⟨rfl, rfl, rfl, by decide +kernel, rfl, by decide +kernel, by decide +kernel⟩
theorem ok_is_count (T : Txt mg t1 t2 t3 t4 t5 t6) {f : Addr} {fd : FuncData} (F : Fun K "_is_count" "_is_count" s_is_count f fd) : FnOk P w K mg base CX0 1 f fd p_is_count (spD K countD) := by
  refine F.ok sc_is_count (fun vs H Q E h => spD_len h) (fun cdv A outer s H vs Q E hr h => ?_)
  obtain ⟨v, d, rfl, hd, ho, k⟩ := h
  have hu := hr.units
  refine ⟨_, (pss_one (ps_ret (pe_and (pe_callB k_isi (by rfl) T.z_isinstance (by decide +kernel) (pa_cons (pv 0) (pa_cons (pe_bltn (v := .ty "int") rfl T.z_int (by decide +kernel) rfl) pa_nil))) (pe_and (pe_not (pe_callB k_isi (by rfl) T.z_isinstance (by decide +kernel) (pa_cons (pv 0) (pa_cons (pe_bltn (v := .ty "bool") rfl T.z_bool (by decide +kernel) rfl) pa_nil)))) (pe_one (pe_chain o_le o_le pe_int (pv 0) (pe_glob (v := V.int (20)) rfl T.g_MOST_TIMES ⟨_, rfl⟩))))))), ?_⟩
  have q := k H (Same.refl H)
  walk_at "tx"
  have no : isOf d "int" = false → countD d = false := fun h => by
    cases d with
    | int i => rw [show isOf (.int i) "int" = true from isN_int.2.2.1] at h; cases h
    | _ => rfl
  rcases isInt_or d with ⟨h1, h2, i, rfl⟩ | ⟨h1, h2, b, rfl⟩ | ⟨h1, h2⟩
  · rw [h1]
    cases hd
    refine iteT ?_
    walk_at "tx"
    refine r_isiB (.int i) ?_
    rw [h2]
    refine ⟨_, rfl, _, rfl, ?_⟩
    refine iteT ?_
    walk_at "tx"
    refine r_dec (fun c1 => ?_) (fun c1 => ?_)
    · walk_at "tx"
      simpa [countD, c1] using q
    · simpa [countD, c1] using q
  · rw [h1]
    cases hd
    refine iteT ?_
    walk_at "tx"
    refine r_isiB (.bl b) ?_
    rw [h2]
    refine ⟨_, rfl, _, rfl, ?_⟩
    refine iteF ?_
    exact q
  · rw [h1]
    refine iteF ?_
    rw [no h1] at q
    exact q
end
end K75

set_option Elab.async false
set_option linter.all false
set_option maxRecDepth 100000
set_option maxHeartbeats 4000000
namespace K75
open PySem PySem.Spec PyProof.Rows L2 Tk
local macro_rules | `(tactic| walk_at "rd1") => `(tactic| first
  | with_reducible refine r_seq ?_
  | ((with_reducible refine r_var (v := ?vv) ?hrv ?_); (case hrv => rfl))
  | with_reducible refine r_c ?_
  | with_reducible refine r_op ?_
  | ((with_reducible refine r_ixL (xs := ?xx) (v := ?vv) ?hh ?he ?_); (case hh => first | assumption | exact upd_same); (case he => rfl))
  | with_reducible refine r_asg ?_
  | with_reducible refine r_sub ?_
  | ((with_reducible refine r_gTup (xs := ?xx) ?hh ?he ?_); (case hh => assumption); (case he => rfl))
  | with_reducible refine r_gCons ?_
  | with_reducible refine r_gNil ?_
  | ((with_reducible refine r_setL (xs := ?xx) (j := ?vv) ?hh ?he ?_); (case hh => first | assumption | exact upd_same); (case he => rfl))
  | with_reducible refine r_pow15 ?_
  | with_reducible refine r_pow18 ?_
  | with_reducible refine r_repr ?_
  | with_reducible refine iteT ?_
  | with_reducible refine iteF ?_
  | with_reducible refine r_cons ?_
  | with_reducible refine r_nil ?_
  | with_reducible refine r_call ?_
  | with_reducible refine r_cb ?_
  | with_reducible refine r_ret ?_
  | with_reducible refine r_gName ?_
  | with_reducible refine r_next ?_
  | with_reducible refine r_ifS ?_
  | with_reducible refine r_un ?_
  | with_reducible refine r_U ?_
  | with_reducible refine r_max2 ?_
  | with_reducible refine r_min2 ?_
  | with_reducible refine r_sl ?_
  | with_reducible refine r_noPart ?_
  | with_reducible refine r_part ?_
  | with_reducible refine r_inti ?_
  | with_reducible refine r_lc ?_
  | with_reducible refine r_for ?_
  | with_reducible refine r_rng1 ?_
  | with_reducible refine r_iList ?_
  | with_reducible refine r_iTup ?_
  | with_reducible refine r_iStr ?_
  | with_reducible refine r_strx ?_
  | ((with_reducible refine r_j ?hh ?hi ?_); (case hh => omega); (case hi => omega))
  | with_reducible refine r_m1 ?_
  | with_reducible refine r_test ?_
  | with_reducible refine r_B ?_
  | with_reducible refine r_not ?_
  | with_reducible refine r_and ?_
  | with_reducible refine r_or ?_
  | with_reducible refine r_andV ?_
  | with_reducible refine r_orV ?_
  | with_reducible refine r_notV ?_
  | with_reducible refine r_if ?_
  | with_reducible refine r_chain ?_
  | with_reducible refine r_lst ?_
  | with_reducible refine r_tup ?_
  | with_reducible refine r_k ?_
  | ((with_reducible refine r_isiS (d := ?dd) ?hh ?_); (case hh => assumption))
  | ((with_reducible refine r_isiT (d := ?dd) ?hh ?_); (case hh => assumption))
  | ((with_reducible refine r_isiI (d := ?dd) ?hh ?_); (case hh => assumption))
  | ((with_reducible refine r_isiB (d := ?dd) ?hh ?_); (case hh => assumption))
  | ((with_reducible refine r_lenS ?hh ?_); (case hh => assumption))
  | ((with_reducible refine r_lenT (xs := ?dd) ?hh ?_); (case hh => assumption))
  | ((with_reducible refine r_ixT (xs := ?xx) (v := ?vv) ?hh ?he ?_); (case hh => assumption); (case he => rfl))
  | with_reducible refine r_isN ?_
  | with_reducible refine r_I0 ?_
  | with_reducible refine g_addI ?_
  | ((with_reducible refine r_mod ?hh ?_); (case hh => first | decide | omega))
  | ((with_reducible refine r_div ?hh ?hi ?_); (case hh => first | decide | omega); (case hi => first | decide | omega))
  | ((with_reducible refine g_mulB ?hh ?hi ?_); (case hh => omega); (case hi => omega))
  | with_reducible refine g_ltI ?_
  | with_reducible refine g_leI ?_
  | with_reducible refine g_gtI ?_
  | with_reducible refine g_geI ?_
  | with_reducible refine g_eqI ?_
  | with_reducible refine g_neI ?_
  | with_reducible refine g_eqS ?_
  | with_reducible refine g_neS ?_
  | with_reducible refine g_leS ?_
  | with_reducible refine g_ltS ?_)
local macro_rules | `(tactic| walk_at "rd") => `(tactic| repeat (walk_at "rd1"))
local macro_rules | `(tactic| walk_at "ed") => `(tactic| repeat first
  | exact ed_int
  | exact ed_str
  | exact ed_bl
  | exact ed_non
  | exact ed_nil
  | exact ed_dct
  | exact ed_neg
  | with_reducible apply ed_cons
  | with_reducible apply ed_tup
  | with_reducible apply ed_lst
  | exact Nat.le_of_ble_eq_true rfl)
local macro_rules | `(tactic| walk_at "tx1") => `(tactic| first
  | walk_at "rd1"
  | with_reducible refine r_callS ?_
  | with_reducible refine r_zipA ?_
  | with_reducible refine r_par ?_
  | with_reducible refine r_pair ?_
  | with_reducible refine r_pow6 ?_
  | with_reducible refine r_m0 ?_
  | with_reducible refine r_bm ?_
  | with_reducible refine r_isS ?_
  | with_reducible refine r_told ?_
  | with_reducible refine r_js ?_
  | with_reducible refine r_jsNil ?_
  | with_reducible refine r_repl ?_
  | ((with_reducible refine r_gLst (xs := ?xx) ?hh ?he ?_); (case hh => assumption); (case he => rfl))
  | ((with_reducible refine r_lenL (xs := ?xx) ?hh ?_); (case hh => assumption)))
local macro_rules | `(tactic| walk_at "tx") => `(tactic| repeat (walk_at "tx1"))
section
variable {t1 t2 t3 t4 t5 t6 : Tok} {P : Program} {w : World} {K : PySem.W.Frag} {mg : Str → Option Value} {base : Heap}
section
variable {H : Hp} {vs : List V} {ds : List PyData}
theorem dd1 (h : DdAll K H vs ds) (l : vs.length = 1) : ∃ v d, vs = [v] ∧ ds = [d] ∧ Dd K H v d := by
  match vs, ds, h, l with
  | [v], [d], .cons h _, _ => exact ⟨v, d, rfl, rfl, h⟩
theorem dd2 (h : DdAll K H vs ds) (l : vs.length = 2) : ∃ v1 v2 d1 d2, vs = [v1, v2] ∧ ds = [d1, d2] ∧ Dd K H v1 d1 ∧ Dd K H v2 d2 := by
  match vs, ds, h, l with
  | [v1, v2], [d1, d2], .cons h1 (.cons h2 _), _ => exact ⟨v1, v2, d1, d2, rfl, rfl, h1, h2⟩
theorem dd4 (h : DdAll K H vs ds) (l : vs.length = 4) : ∃ v1 v2 v3 v4 d1 d2 d3 d4, vs = [v1, v2, v3, v4] ∧ ds = [d1, d2, d3, d4] ∧ Dd K H v1 d1 ∧ Dd K H v2 d2 ∧ Dd K H v3 d3 ∧ Dd K H v4 d4 := by
  match vs, ds, h, l with
  | [v1, v2, v3, v4], [d1, d2, d3, d4], .cons h1 (.cons h2 (.cons h3 (.cons h4 _))), _ => exact ⟨v1, v2, v3, v4, d1, d2, d3, d4, rfl, rfl, h1, h2, h3, h4⟩
end
theorem sT_do {r : List PyData} (h : r.length ≠ 1) : stepT "do" r = false := by
  match r, h with
  | [], _ => rfl
  | [e], h => exact absurd rfl h
  | _ :: _ :: _, _ => rfl
theorem sT_try {r : List PyData} (h : r.length ≠ 1) : stepT "try" r = false := by
  match r, h with
  | [], _ => rfl
  | [e], h => exact absurd rfl h
  | _ :: _ :: _, _ => rfl
theorem sT_rep {r : List PyData} (h : r.length ≠ 2) : stepT "repeat" r = false := by
  match r, h with
  | [], _ => rfl
  | [_], _ => rfl
  | [e, f], h => exact absurd rfl h
  | _ :: _ :: _ :: _, _ => rfl
theorem sT_each {r : List PyData} (h : r.length ≠ 2) : stepT "each" r = false := by
  match r, h with
  | [], _ => rfl
  | [_], _ => rfl
  | [e, f], h => exact absurd rfl h
  | _ :: _ :: _ :: _, _ => rfl
theorem sT_if {r : List PyData} (h : r.length ≠ 4) : stepT "if" r = false := by
  match r, h with
  | [], _ => rfl
  | [_], _ => rfl
  | [_, _], _ => rfl
  | [_, _, _], _ => rfl
  | [_, _, _, _], h => exact absurd rfl h
  | _ :: _ :: _ :: _ :: _ :: _, _ => rfl
theorem sT_no {x : Str} {r : List PyData} (h1 : x ≠ "do") (h2 : x ≠ "try") (h3 : x ≠ "repeat") (h4 : x ≠ "each") (h5 : x ≠ "if") : stepT x r = false := by
  unfold stepT
  rw [if_neg h1, if_neg h2, if_neg h3, if_neg h4, if_neg h5]
abbrev s_is_step : Stmt := top 18
abbrev n_is_step : List Str := ["thing"]
abbrev p_is_step : List Str := ["thing"]
theorem sc_is_step : FnScope n_is_step p_is_step (defScope s_is_step) := ⟨rfl, rfl, rfl, by decide +kernel, rfl, by decide +kernel, by decide +kernel⟩
theorem ok_is_step (T : Txt mg t1 t2 t3 t4 t5 t6) {f : Addr} {fd : FuncData} (F : Fun K "_is_step" "_is_step" s_is_step f fd) (K_is_word : Cal P w K mg base CX0 5 "is_word" p_is_word (spD K wordD)) (K_is_event : Cal P w K mg base CX0 5 "is_event" p_is_event (spEvt K))
    (K_is_full : Cal P w K mg base CX0 5 "_is_full" p_is_full (spD K fullD)) (K_is_count : Cal P w K mg base CX0 5 "_is_count" p_is_count (spD K countD)) : FnOk P w K mg base CX0 6 f fd p_is_step (spStep K) := by
  refine F.ok sc_is_step (fun vs H Q E h => by obtain ⟨v, d, rfl, _⟩ := h; rfl) (fun cdv A outer s H vs Q E hr h => ?_)
  obtain ⟨v, d, rfl, hd, ask, k⟩ := h
  have hu := hr.units
  refine ⟨_, (pss_cons (ps_if (PW.pt (pw_or (pt_not (pt_val (pe_callB k_isi (by rfl) T.z_isinstance (by decide +kernel) (pa_cons (pv 0) (pa_cons (pe_bltn (v := .ty "tuple") rfl T.z_tuple (by decide +kernel) rfl) pa_nil))))) (pw_or (pt_cmpR (k_eq hu) (pe_callB k_len (by rfl) T.z_len (by decide +kernel) (pa_cons (pv 0) pa_nil)) pe_int (nomark _)) (pw_or1 (pt_not (pt_val (pe_callB k_isi (by rfl) T.z_isinstance (by decide +kernel) (pa_cons (pe_ix k_ix (pv 0) pe_int (fun _ _ => rfl)) (pa_cons (pe_bltn (v := .ty "str") rfl T.z_str (by decide +kernel) rfl) pa_nil))))))))) (pss_one (ps_ret pe_bl)) pss_nil)
      (pss_cons (ps_if (pt_cmpR (k_eq hu) (pe_ix k_ix (pv 0) pe_int (fun _ _ => rfl)) pe_str (nomark _)) (pss_one (ps_ret (pe_and (pe_cmpR (k_eq hu) (pe_callB k_len (by rfl) T.z_len (by decide +kernel) (pa_cons (pv 0) pa_nil)) pe_int (nomark _)) (pe_one (pe_cal K_is_event (hr.mono (by decide)) pass0 (pa_cons (pe_ix k_ix (pv 0) pe_int (fun _ _ => rfl)) pa_nil)))))) pss_nil)
      (pss_cons (ps_if (pt_cmpR (k_eq hu) (pe_ix k_ix (pv 0) pe_int (fun _ _ => rfl)) pe_str (nomark _)) (pss_one (ps_ret (pe_and (pe_cmpR (k_eq hu) (pe_callB k_len (by rfl) T.z_len (by decide +kernel) (pa_cons (pv 0) pa_nil)) pe_int (nomark _)) (pe_one (pe_cal K_is_full (hr.mono (by decide)) pass0 (pa_cons (pe_ix k_ix (pv 0) pe_int (fun _ _ => rfl)) pa_nil)))))) pss_nil)
      (pss_cons (ps_if (pt_cmpR (k_eq hu) (pe_ix k_ix (pv 0) pe_int (fun _ _ => rfl)) pe_str (nomark _)) (pss_one (ps_ret (pe_and (pe_cmpR (k_eq hu) (pe_callB k_len (by rfl) T.z_len (by decide +kernel) (pa_cons (pv 0) pa_nil)) pe_int (nomark _)) (pe_and (pe_cal K_is_count (hr.mono (by decide)) pass0 (pa_cons (pe_ix k_ix (pv 0) pe_int (fun _ _ => rfl)) pa_nil)) (pe_one (pe_cal K_is_full (hr.mono (by decide)) pass0 (pa_cons (pe_ix k_ix (pv 0) pe_int (fun _ _ => rfl)) pa_nil))))))) pss_nil)
      (pss_cons (ps_if (pt_cmpR (k_eq hu) (pe_ix k_ix (pv 0) pe_int (fun _ _ => rfl)) pe_str (nomark _)) (pss_one (ps_ret (pe_and (pe_cmpR (k_eq hu) (pe_callB k_len (by rfl) T.z_len (by decide +kernel) (pa_cons (pv 0) pa_nil)) pe_int (nomark _)) (pe_and (pe_cal K_is_word (hr.mono (by decide)) pass0 (pa_cons (pe_ix k_ix (pv 0) pe_int (fun _ _ => rfl)) pa_nil)) (pe_one (pe_cal K_is_full (hr.mono (by decide)) pass0 (pa_cons (pe_ix k_ix (pv 0) pe_int (fun _ _ => rfl)) pa_nil))))))) pss_nil)
      (pss_cons (ps_if (PW.pt (pw_or (pt_cmpR (k_ne hu) (pe_ix k_ix (pv 0) pe_int (fun _ _ => rfl)) pe_str (nomark _)) (pw_or1 (pt_cmpR (k_ne hu) (pe_callB k_len (by rfl) T.z_len (by decide +kernel) (pa_cons (pv 0) pa_nil)) pe_int (nomark _))))) (pss_one (ps_ret pe_bl)) pss_nil)
      (pss_one (ps_ret (pe_and (pe_cal K_is_word (hr.mono (by decide)) pass0 (pa_cons (pe_ix k_ix (pv 0) pe_int (fun _ _ => rfl)) pa_nil)) (pe_and (pe_cal K_is_word (hr.mono (by decide)) pass0 (pa_cons (pe_ix k_ix (pv 0) pe_int (fun _ _ => rfl)) pa_nil)) (pe_and (pe_cal K_is_full (hr.mono (by decide)) pass0 (pa_cons (pe_ix k_ix (pv 0) pe_int (fun _ _ => rfl)) pa_nil)) (pe_one (pe_callB k_isi (by rfl) T.z_isinstance (by decide +kernel) (pa_cons (pe_ix k_ix (pv 0) pe_int (fun _ _ => rfl)) (pa_cons (pe_bltn (v := .ty "tuple") rfl T.z_tuple (by decide +kernel) rfl) pa_nil))))))))))))))), ?_⟩
  have no : ∀ H', Same H H' → stepD d = false → Q (.bl false) H' := fun H' s' z => by
    have q := k H' s'
    rw [z] at q
    exact q
  walk_at "tx"
  rcases tup_or hd with ⟨a, xs, ds, rfl, rfl, ha, hds, e⟩ | ⟨e, hn⟩
  · rw [e]
    refine iteF ?_
    obtain ⟨⟨o1, o2⟩, hev⟩ := ask
    walk_at "tx"
    cases hds with
    | nil =>
      refine r_dec (fun c => ?_) (fun c => absurd rfl c)
      walk_at "tx"
      exact no H (Same.refl H) rfl
    | cons h0 hr' =>
      rename_i v0 vs d0 dr
      refine r_dec (fun c => by rw [List.length_cons] at c; omega) (fun _ => ?_)
      walk_at "tx"
      refine r_ixT ha (v := v0) (atI_nat (j := 0) rfl) ?_
      walk_at "tx"
      rcases str_or d0 with ⟨x, rfl⟩ | hn
      · rw [isStr]
        cases h0
        refine iteF ?_
        walk_at "tx"
        refine r_ixT ha (v := .str x) (atI_nat (j := 0) rfl) ?_
        walk_at "tx"
        have hl := hr'.length
        have ix : ∀ (n : Nat) (u : V), vs[n]? = some u → atI (V.str x :: vs) ((n + 1 : Nat) : Int) = some u := fun n u e => atI_nat (by simpa using e)
        refine r_dec (fun c => ?_) (fun c => ?_)
        · subst c
          walk_at "tx"
          refine r_dec (fun c2 => ?_) (fun c2 => ?_)
          · obtain ⟨v1, d1, rfl, rfl, h1⟩ := dd1 hr' (by rw [List.length_cons] at c2; omega)
            walk_at "tx"
            refine ⟨v1, d1, rfl, h1, o2.2.1, hev d1 rfl, fun H1 s1 => ?_⟩
            exact k H1 s1
          · refine no H (Same.refl H) (sT_do ?_)
            rw [List.length_cons] at c2
            omega
        · walk_at "tx"
          refine r_ixT ha (v := .str x) (atI_nat (j := 0) rfl) ?_
          walk_at "tx"
          refine r_dec (fun c => ?_) (fun c3 => ?_)
          · subst c
            walk_at "tx"
            refine r_dec (fun c2 => ?_) (fun c2 => ?_)
            · obtain ⟨v1, d1, rfl, rfl, h1⟩ := dd1 hr' (by rw [List.length_cons] at c2; omega)
              walk_at "tx"
              refine r_spD h1 o2.2.1 fun H1 s1 => ?_
              exact k H1 s1
            · refine no H (Same.refl H) (sT_try ?_)
              rw [List.length_cons] at c2
              omega
          · walk_at "tx"
            refine r_ixT ha (v := .str x) (atI_nat (j := 0) rfl) ?_
            walk_at "tx"
            refine r_dec (fun c => ?_) (fun c4 => ?_)
            · subst c
              walk_at "tx"
              refine r_dec (fun c2 => ?_) (fun c2 => ?_)
              · obtain ⟨v1, v2, d1, d2, rfl, rfl, h1, h2⟩ := dd2 hr' (by rw [List.length_cons] at c2; omega)
                walk_at "tx"
                refine r_spD h1 o2.2.1 fun H1 s1 => ?_
                walk_at "tx"
                refine r_bool (fun c5 => ?_) (fun c5 => ?_)
                · walk_at "tx"
                  refine r_ixT (s1 _ _ ha) (v := v2) (ix 1 v2 rfl) ?_
                  walk_at "tx"
                  refine r_spD (Dd.same s1 _ _ h2) o2.2.2.1 fun H2 s2 => ?_
                  have q := k H2 (s1.trans s2)
                  have z : stepD (.tuple [.str "repeat", d1, d2]) = (countD d1 && fullD d2) := rfl
                  rw [z, c5] at q
                  exact q
                · refine no H1 s1 ?_
                  show (countD d1 && fullD d2) = false
                  rw [c5]
                  rfl
              · refine no H (Same.refl H) (sT_rep ?_)
                rw [List.length_cons] at c2
                omega
            · walk_at "tx"
              refine r_ixT ha (v := .str x) (atI_nat (j := 0) rfl) ?_
              walk_at "tx"
              refine r_dec (fun c => ?_) (fun c5 => ?_)
              · subst c
                walk_at "tx"
                refine r_dec (fun c2 => ?_) (fun c2 => ?_)
                · obtain ⟨v1, v2, d1, d2, rfl, rfl, h1, h2⟩ := dd2 hr' (by rw [List.length_cons] at c2; omega)
                  walk_at "tx"
                  refine r_spD h1 o2.2.1 fun H1 s1 => ?_
                  walk_at "tx"
                  refine r_bool (fun c5 => ?_) (fun c5 => ?_)
                  · walk_at "tx"
                    refine r_ixT (s1 _ _ ha) (v := v2) (ix 1 v2 rfl) ?_
                    walk_at "tx"
                    refine r_spD (Dd.same s1 _ _ h2) o2.2.2.1 fun H2 s2 => ?_
                    have q := k H2 (s1.trans s2)
                    have z : stepD (.tuple [.str "each", d1, d2]) = (wordD d1 && fullD d2) := rfl
                    rw [z, c5] at q
                    exact q
                  · refine no H1 s1 ?_
                    show (wordD d1 && fullD d2) = false
                    rw [c5]
                    rfl
                · refine no H (Same.refl H) (sT_each ?_)
                  rw [List.length_cons] at c2
                  omega
              · walk_at "tx"
                refine r_ixT ha (v := .str x) (atI_nat (j := 0) rfl) ?_
                walk_at "tx"
                refine r_decN (fun c6 => ?_) (fun c6 => ?_)
                · refine iteT ?_
                  walk_at "tx"
                  exact no H (Same.refl H) (sT_no c c3 c4 c5 c6)
                · subst c6
                  walk_at "tx"
                  refine r_decN (fun c2 => ?_) (fun c2 => ?_)
                  · walk_at "tx"
                    refine no H (Same.refl H) (sT_if ?_)
                    rw [List.length_cons] at c2
                    omega
                  · obtain ⟨v1, v2, v3, v4, d1, d2, d3, d4, rfl, rfl, h1, h2, h3, h4⟩ := dd4 hr' (by rw [List.length_cons] at c2; omega)
                    walk_at "tx"
                    have z : stepD (.tuple [.str "if", d1, d2, d3, d4]) = (wordD d1 && (wordD d2 && (fullD d3 && tupB d4))) := rfl
                    refine r_spD h1 o2.2.1 fun H1 s1 => ?_
                    have ha1 := s1 _ _ ha
                    walk_at "tx"
                    refine r_bool (fun e1 => ?_) (fun e1 => ?_)
                    · walk_at "tx"
                      refine r_spD (Dd.same s1 _ _ h2) o2.2.2.1 fun H2 s2 => ?_
                      have ha2 := s2 _ _ ha1
                      walk_at "tx"
                      refine r_bool (fun e2 => ?_) (fun e2 => ?_)
                      · walk_at "tx"
                        refine r_spD (Dd.same (s1.trans s2) _ _ h3) o2.2.2.2.1 fun H3 s3 => ?_
                        have ha3 := s3 _ _ ha2
                        walk_at "tx"
                        have s123 := (s1.trans s2).trans s3
                        refine r_bool (fun e3 => ?_) (fun e3 => ?_)
                        · have h4' := Dd.same s123 _ _ h4
                          walk_at "tx"
                          have q := k H3 s123
                          rw [z, e1, e2, e3] at q
                          have t4 : isOf d4 "tuple" = tupB d4 := by
                            rcases tup_or h4 with ⟨_, _, _, _, rfl, _, _, e⟩ | ⟨e, hn⟩
                            · rw [e]
                              rfl
                            · rw [e]
                              cases d4 with
                              | tuple ds => exact absurd rfl (hn ds)
                              | _ => rfl
                          rw [t4]
                          exact q
                        · refine no H3 s123 ?_
                          rw [z, e1, e2, e3]
                          rfl
                      · refine no H2 (s1.trans s2) ?_
                        rw [z, e1, e2]
                        rfl
                    · refine no H1 s1 ?_
                      rw [z, e1]
                      rfl
      · rw [isNotStr hn]
        refine iteT ?_
        walk_at "tx"
        refine no H (Same.refl H) ?_
        cases d0 with
        | str x => exact absurd rfl (hn x)
        | _ => rfl
  · rw [e]
    refine iteT ?_
    walk_at "tx"
    refine no H (Same.refl H) ?_
    cases d with
    | tuple ds => exact absurd rfl (hn ds)
    | _ => rfl
end
end K75

set_option Elab.async false
set_option linter.all false
set_option maxRecDepth 100000
set_option maxHeartbeats 4000000
namespace K75
open PySem PySem.Spec PyProof.Rows L2 Tk
local macro_rules | `(tactic| walk_at "rd1") => `(tactic| first
  | with_reducible refine r_seq ?_
  | ((with_reducible refine r_var (v := ?vv) ?hrv ?_); (case hrv => rfl))
  | with_reducible refine r_c ?_
  | with_reducible refine r_op ?_
  | ((with_reducible refine r_ixL (xs := ?xx) (v := ?vv) ?hh ?he ?_); (case hh => first | assumption | exact upd_same); (case he => rfl))
  | with_reducible refine r_asg ?_
  | with_reducible refine r_sub ?_
  | ((with_reducible refine r_gTup (xs := ?xx) ?hh ?he ?_); (case hh => assumption); (case he => rfl))
  | with_reducible refine r_gCons ?_
  | with_reducible refine r_gNil ?_
  | ((with_reducible refine r_setL (xs := ?xx) (j := ?vv) ?hh ?he ?_); (case hh => first | assumption | exact upd_same); (case he => rfl))
  | with_reducible refine r_pow15 ?_
  | with_reducible refine r_pow18 ?_
  | with_reducible refine r_repr ?_
  | with_reducible refine iteT ?_
  | with_reducible refine iteF ?_
  | with_reducible refine r_cons ?_
  | with_reducible refine r_nil ?_
  | with_reducible refine r_call ?_
  | with_reducible refine r_cb ?_
  | with_reducible refine r_ret ?_
  | with_reducible refine r_gName ?_
  | with_reducible refine r_next ?_
  | with_reducible refine r_ifS ?_
  | with_reducible refine r_un ?_
  | with_reducible refine r_U ?_
  | with_reducible refine r_max2 ?_
  | with_reducible refine r_min2 ?_
  | with_reducible refine r_sl ?_
  | with_reducible refine r_noPart ?_
  | with_reducible refine r_part ?_
  | with_reducible refine r_inti ?_
  | with_reducible refine r_lc ?_
  | with_reducible refine r_for ?_
  | with_reducible refine r_rng1 ?_
  | with_reducible refine r_iList ?_
  | with_reducible refine r_iTup ?_
  | with_reducible refine r_iStr ?_
  | with_reducible refine r_strx ?_
  | ((with_reducible refine r_j ?hh ?hi ?_); (case hh => omega); (case hi => omega))
  | with_reducible refine r_m1 ?_
  | with_reducible refine r_test ?_
  | with_reducible refine r_B ?_
  | with_reducible refine r_not ?_
  | with_reducible refine r_and ?_
  | with_reducible refine r_or ?_
  | with_reducible refine r_andV ?_
  | with_reducible refine r_orV ?_
  | with_reducible refine r_notV ?_
  | with_reducible refine r_if ?_
  | with_reducible refine r_chain ?_
  | with_reducible refine r_lst ?_
  | with_reducible refine r_tup ?_
  | with_reducible refine r_k ?_
  | ((with_reducible refine r_isiS (d := ?dd) ?hh ?_); (case hh => assumption))
  | ((with_reducible refine r_isiT (d := ?dd) ?hh ?_); (case hh => assumption))
  | ((with_reducible refine r_isiI (d := ?dd) ?hh ?_); (case hh => assumption))
  | ((with_reducible refine r_isiB (d := ?dd) ?hh ?_); (case hh => assumption))
  | ((with_reducible refine r_lenS ?hh ?_); (case hh => assumption))
  | ((with_reducible refine r_lenT (xs := ?dd) ?hh ?_); (case hh => assumption))
  | ((with_reducible refine r_ixT (xs := ?xx) (v := ?vv) ?hh ?he ?_); (case hh => assumption); (case he => rfl))
  | with_reducible refine r_isN ?_
  | with_reducible refine r_I0 ?_
  | with_reducible refine g_addI ?_
  | ((with_reducible refine r_mod ?hh ?_); (case hh => first | decide | omega))
  | ((with_reducible refine r_div ?hh ?hi ?_); (case hh => first | decide | omega); (case hi => first | decide | omega))
  | ((with_reducible refine g_mulB ?hh ?hi ?_); (case hh => omega); (case hi => omega))
  | with_reducible refine g_ltI ?_
  | with_reducible refine g_leI ?_
  | with_reducible refine g_gtI ?_
  | with_reducible refine g_geI ?_
  | with_reducible refine g_eqI ?_
  | with_reducible refine g_neI ?_
  | with_reducible refine g_eqS ?_
  | with_reducible refine g_neS ?_
  | with_reducible refine g_leS ?_
  | with_reducible refine g_ltS ?_)
local macro_rules | `(tactic| walk_at "rd") => `(tactic| repeat (walk_at "rd1"))
local macro_rules | `(tactic| walk_at "ed") => `(tactic| repeat first
  | exact ed_int
  | exact ed_str
  | exact ed_bl
  | exact ed_non
  | exact ed_nil
  | exact ed_dct
  | exact ed_neg
  | with_reducible apply ed_cons
  | with_reducible apply ed_tup
  | with_reducible apply ed_lst
  | exact Nat.le_of_ble_eq_true rfl)
local macro_rules | `(tactic| walk_at "tx1") => `(tactic| first
  | walk_at "rd1"
  | with_reducible refine r_callS ?_
  | with_reducible refine r_zipA ?_
  | with_reducible refine r_par ?_
  | with_reducible refine r_pair ?_
  | with_reducible refine r_pow6 ?_
  | with_reducible refine r_m0 ?_
  | with_reducible refine r_bm ?_
  | with_reducible refine r_isS ?_
  | with_reducible refine r_told ?_
  | with_reducible refine r_js ?_
  | with_reducible refine r_jsNil ?_
  | with_reducible refine r_repl ?_
  | ((with_reducible refine r_gLst (xs := ?xx) ?hh ?he ?_); (case hh => assumption); (case he => rfl))
  | ((with_reducible refine r_lenL (xs := ?xx) ?hh ?_); (case hh => assumption)))
local macro_rules | `(tactic| walk_at "tx") => `(tactic| repeat (walk_at "tx1"))
section
variable {t1 t2 t3 t4 t5 t6 : Tok} {P : Program} {w : World} {K : PySem.W.Frag} {mg : Str → Option Value} {base : Heap}
theorem stepT_if {r : List PyData} (h : stepT "if" r = true) : ∃ a b p o, r = [a, b, p, o] := by
  by_cases c : r.length = 4
  · match r, c with
    | [a, b, p, o], _ => exact ⟨a, b, p, o, rfl⟩
  · rw [sT_if c] at h
    cases h
theorem stepT_ne {x : Str} {r : List PyData} (h : stepT x r = true) : r ≠ [] := by
  intro e
  subst e
  unfold stepT at h
  split at h
  · cases h
  · split at h
    · cases h
    · split at h
      · cases h
      · split at h
        · cases h
        · split at h <;> cases h
theorem dd_last {H : Hp} : ∀ {vs : List V} {ds : List PyData}, DdAll K H vs ds → ds ≠ [] → ∃ u p, vs.getLast? = some u ∧ ds.getLast? = some p ∧ Dd K H u p
  | [], [], _, h => absurd rfl h
  | v :: vs, d :: ds, .cons h0 h1, _ => by
    cases h1 with
    | nil => exact ⟨v, d, rfl, rfl, h0⟩
    | cons h2 h3 =>
      obtain ⟨u, p, e1, e2, e3⟩ := dd_last (.cons h2 h3) (by simp)
      exact ⟨u, p, by rw [List.getLast?_cons_cons]; exact e1, by rw [List.getLast?_cons_cons]; exact e2, e3⟩
theorem atI_last {xs : List V} (h : xs ≠ []) : atI xs (-1) = xs.getLast? := by
  have hl : 0 < xs.length := by
    cases xs with
    | nil => exact absurd rfl h
    | cons _ _ => simp
  unfold atI ixN
  rw [if_neg (by decide)]
  split
  · rename_i c
    rw [List.getLast?_eq_getElem?]
    show xs[_]? = _
    congr 1
    omega
  · rename_i c
    omega
theorem plansD_last {x : Str} {r : List PyData} {p : PyData} (h1 : x ≠ "do") (h2 : x ≠ "if") (e : r.getLast? = some p) : plansD (.tuple (.str x :: r)) = [p] := by
  show (if x = "do" then [] else if x = "if" then _ else (match r.getLast? with | some p => [p] | none => [])) = _
  rw [if_neg h1, if_neg h2, e]
def spPlans (K : PySem.W.Frag) : Sp := fun vs H Q _ => ∃ (v : V) (d : PyData) (Hb : Hp), vs = [v] ∧ Same Hb H ∧ Dd K Hb v d ∧ stepD d = true ∧ ∀ L H2 us, H L = none → Same H H2 → H2 L = some (.lst us) → DdAll K Hb us (plansD d) → Q (.ref L) H2
abbrev s_plans_in : Stmt := top 21
abbrev n_plans_in : List Str := ["step"]
abbrev p_plans_in : List Str := ["step"]
theorem sc_plans_in : FnScope n_plans_in p_plans_in (defScope s_plans_in) := ⟨rfl, rfl, rfl, by decide +kernel, rfl, by decide +kernel, by decide +kernel⟩
theorem ok_plans_in (T : Txt mg t1 t2 t3 t4 t5 t6) {f : Addr} {fd : FuncData} (F : Fun K "_plans_in" "_plans_in" s_plans_in f fd) : FnOk P w K mg base CX0 1 f fd p_plans_in (spPlans K) := by
  refine F.ok sc_plans_in (fun vs H Q E h => by obtain ⟨v, d, Hb, rfl, _⟩ := h; rfl) (fun cdv A outer s H vs Q E hr h => ?_)
  obtain ⟨v, d, Hb, rfl, sb, hd, hs, k⟩ := h
  have hu := hr.units
  refine ⟨_, (pss_cons (ps_if (pt_cmpR (k_eq hu) (pe_ix k_ix (pv 0) pe_int (fun _ _ => rfl)) pe_str (nomark _)) (pss_one (ps_ret (pe_lst pa_nil))) pss_nil)
      (pss_one (ps_ret (pe_ifExp (pt_cmpR (k_eq hu) (pe_ix k_ix (pv 0) pe_int (fun _ _ => rfl)) pe_str (nomark _)) (pe_lst (pa_cons (pe_ix k_ix (pv 0) pe_int (fun _ _ => rfl)) (pa_cons (pe_ix k_ix (pv 0) pe_int (fun _ _ => rfl)) pa_nil))) (pe_lst (pa_cons (pe_ix k_ix (pv 0) (pe_un un_neg pe_int) (fun _ _ => rfl)) pa_nil)))))), ?_⟩
  cases hd with
  | tup ha0 hds =>
    have ha := sb _ _ ha0
    cases hds with
    | nil => cases hs
    | cons h0 hr' =>
      cases h0 with
      | str x =>
        have hs : stepT x _ = true := hs
        walk_at "tx"
        refine r_ixT ha (v := .str x) (atI_nat (j := 0) rfl) ?_
        walk_at "tx"
        refine r_dec (fun c => ?_) (fun c => ?_)
        · subst c
          walk_at "tx"
          refine a_lst (by simp) fun L H2 n2 s2 e2 => ?_
          exact k _ _ _ n2 s2 e2 .nil
        · walk_at "tx"
          refine r_ixT ha (v := .str x) (atI_nat (j := 0) rfl) ?_
          walk_at "tx"
          refine r_dec (fun c2 => ?_) (fun c2 => ?_)
          · subst c2
            obtain ⟨a1, a2, p, o, rfl⟩ := stepT_if hs
            cases hr' with
            | cons h1 hr' =>
              cases hr' with
              | cons h2 hr' =>
                cases hr' with
                | cons h3 hr' =>
                  cases hr' with
                  | cons h4 hr' =>
                    cases hr'
                    walk_at "tx"
                    refine a_lst (by simp) fun L H2 n2 s2 e2 => ?_
                    exact k _ _ _ n2 s2 e2 (.cons h3 (.cons h4 .nil))
          · walk_at "tx"
            obtain ⟨u, p, e1, e2, h1⟩ := dd_last hr' (stepT_ne hs)
            refine r_ixT ha (v := u) (by rw [atI_last (by simp), List.getLast?_cons, e1]; rfl) ?_
            walk_at "tx"
            refine a_lst (by simp) fun L H2 n2 s2 e2' => ?_
            refine k _ _ _ n2 s2 e2' ?_
            rw [plansD_last c c2 e2]
            exact .cons h1 .nil
      | _ => cases hs
  | _ => cases hs
end
end K75

set_option Elab.async false
set_option linter.all false
set_option maxRecDepth 100000
set_option maxHeartbeats 4000000
namespace K75
open PySem PySem.Spec PyProof.Rows L2 Tk
local macro_rules | `(tactic| walk_at "rd1") => `(tactic| first
  | with_reducible refine r_seq ?_
  | ((with_reducible refine r_var (v := ?vv) ?hrv ?_); (case hrv => rfl))
  | with_reducible refine r_c ?_
  | with_reducible refine r_op ?_
  | ((with_reducible refine r_ixL (xs := ?xx) (v := ?vv) ?hh ?he ?_); (case hh => first | assumption | exact upd_same); (case he => rfl))
  | with_reducible refine r_asg ?_
  | with_reducible refine r_sub ?_
  | ((with_reducible refine r_gTup (xs := ?xx) ?hh ?he ?_); (case hh => assumption); (case he => rfl))
  | with_reducible refine r_gCons ?_
  | with_reducible refine r_gNil ?_
  | ((with_reducible refine r_setL (xs := ?xx) (j := ?vv) ?hh ?he ?_); (case hh => first | assumption | exact upd_same); (case he => rfl))
  | with_reducible refine r_pow15 ?_
  | with_reducible refine r_pow18 ?_
  | with_reducible refine r_repr ?_
  | with_reducible refine iteT ?_
  | with_reducible refine iteF ?_
  | with_reducible refine r_cons ?_
  | with_reducible refine r_nil ?_
  | with_reducible refine r_call ?_
  | with_reducible refine r_cb ?_
  | with_reducible refine r_ret ?_
  | with_reducible refine r_gName ?_
  | with_reducible refine r_next ?_
  | with_reducible refine r_ifS ?_
  | with_reducible refine r_un ?_
  | with_reducible refine r_U ?_
  | with_reducible refine r_max2 ?_
  | with_reducible refine r_min2 ?_
  | with_reducible refine r_sl ?_
  | with_reducible refine r_noPart ?_
  | with_reducible refine r_part ?_
  | with_reducible refine r_inti ?_
  | with_reducible refine r_lc ?_
  | with_reducible refine r_for ?_
  | with_reducible refine r_rng1 ?_
  | with_reducible refine r_iList ?_
  | with_reducible refine r_iTup ?_
  | with_reducible refine r_iStr ?_
  | with_reducible refine r_strx ?_
  | ((with_reducible refine r_j ?hh ?hi ?_); (case hh => omega); (case hi => omega))
  | with_reducible refine r_m1 ?_
  | with_reducible refine r_test ?_
  | with_reducible refine r_B ?_
  | with_reducible refine r_not ?_
  | with_reducible refine r_and ?_
  | with_reducible refine r_or ?_
  | with_reducible refine r_andV ?_
  | with_reducible refine r_orV ?_
  | with_reducible refine r_notV ?_
  | with_reducible refine r_if ?_
  | with_reducible refine r_chain ?_
  | with_reducible refine r_lst ?_
  | with_reducible refine r_tup ?_
  | with_reducible refine r_k ?_
  | ((with_reducible refine r_isiS (d := ?dd) ?hh ?_); (case hh => assumption))
  | ((with_reducible refine r_isiT (d := ?dd) ?hh ?_); (case hh => assumption))
  | ((with_reducible refine r_isiI (d := ?dd) ?hh ?_); (case hh => assumption))
  | ((with_reducible refine r_isiB (d := ?dd) ?hh ?_); (case hh => assumption))
  | ((with_reducible refine r_lenS ?hh ?_); (case hh => assumption))
  | ((with_reducible refine r_lenT (xs := ?dd) ?hh ?_); (case hh => assumption))
  | ((with_reducible refine r_ixT (xs := ?xx) (v := ?vv) ?hh ?he ?_); (case hh => assumption); (case he => rfl))
  | with_reducible refine r_isN ?_
  | with_reducible refine r_I0 ?_
  | with_reducible refine g_addI ?_
  | ((with_reducible refine r_mod ?hh ?_); (case hh => first | decide | omega))
  | ((with_reducible refine r_div ?hh ?hi ?_); (case hh => first | decide | omega); (case hi => first | decide | omega))
  | ((with_reducible refine g_mulB ?hh ?hi ?_); (case hh => omega); (case hi => omega))
  | with_reducible refine g_ltI ?_
  | with_reducible refine g_leI ?_
  | with_reducible refine g_gtI ?_
  | with_reducible refine g_geI ?_
  | with_reducible refine g_eqI ?_
  | with_reducible refine g_neI ?_
  | with_reducible refine g_eqS ?_
  | with_reducible refine g_neS ?_
  | with_reducible refine g_leS ?_
  | with_reducible refine g_ltS ?_)
local macro_rules | `(tactic| walk_at "rd") => `(tactic| repeat (walk_at "rd1"))
local macro_rules | `(tactic| walk_at "ed") => `(tactic| repeat first
  | exact ed_int
  | exact ed_str
  | exact ed_bl
  | exact ed_non
  | exact ed_nil
  | exact ed_dct
  | exact ed_neg
  | with_reducible apply ed_cons
  | with_reducible apply ed_tup
  | with_reducible apply ed_lst
  | exact Nat.le_of_ble_eq_true rfl)
local macro_rules | `(tactic| walk_at "tx1") => `(tactic| first
  | walk_at "rd1"
  | with_reducible refine r_callS ?_
  | with_reducible refine r_zipA ?_
  | with_reducible refine r_par ?_
  | with_reducible refine r_pair ?_
  | with_reducible refine r_pow6 ?_
  | with_reducible refine r_m0 ?_
  | with_reducible refine r_bm ?_
  | with_reducible refine r_isS ?_
  | with_reducible refine r_told ?_
  | with_reducible refine r_js ?_
  | with_reducible refine r_jsNil ?_
  | with_reducible refine r_repl ?_
  | ((with_reducible refine r_gLst (xs := ?xx) ?hh ?he ?_); (case hh => assumption); (case he => rfl))
  | ((with_reducible refine r_lenL (xs := ?xx) ?hh ?_); (case hh => assumption)))
local macro_rules | `(tactic| walk_at "tx") => `(tactic| repeat (walk_at "tx1"))
section
variable {t1 t2 t3 t4 t5 t6 : Tok} {P : Program} {w : World} {K : PySem.W.Frag} {mg : Str → Option Value} {base : Heap}
/-! ### what is_plan tells -/
def goodP : Nat → PyData → Bool
  | 0, _ => false
  | n + 1, .tuple ss => ss.all fun s => stepD s && (plansD s).all (goodP n)
  | _ + 1, _ => false
def sizeP : Nat → PyData → Nat
  | 0, _ => 0
  | n + 1, .tuple ss => ss.length + (ss.map fun s => ((plansD s).map (sizeP n)).sum).sum
  | _ + 1, _ => 0
def manyP : Nat → PyData → Nat
  | 0, _ => 1
  | n + 1, .tuple ss => 1 + (ss.map fun s => ((plansD s).map (manyP n)).sum).sum
  | _ + 1, _ => 1
def planD (d : PyData) : Bool := goodP 6 d && decide (sizeP 6 d ≤ 200)
def AskP : Nat → PyData → Prop
  | 0, d => okD d
  | n + 1, d => okD d ∧ ∀ ss, d = .tuple ss → ∀ s ∈ ss, AskS s ∧ ∀ q ∈ plansD s, AskP n q
theorem AskP.ok : ∀ {n : Nat} {d : PyData}, AskP n d → okD d
  | 0, _, h => h
  | _ + 1, _, h => h.1
/-- the plans that wait, each with how many more depths it may have -/
def Res (many : Nat) (todo : List (PyData × Nat)) : Bool := todo.all (fun q => goodP q.2 q.1) && decide (many + (todo.map fun q => sizeP q.2 q.1).sum ≤ 200)
def left (todo : List (PyData × Nat)) : Nat := (todo.map fun q => manyP q.2 q.1).sum
def below (ss : List PyData) (n : Nat) : List (PyData × Nat) := ss.flatMap fun s => (plansD s).map fun q => (q, n)
theorem res_nil {many : Nat} (h : many ≤ 200) : Res many [] = true := by
  unfold Res
  simp [h]
theorem below_all (n : Nat) : ∀ ss : List PyData, (below ss n).all (fun q => goodP q.2 q.1) = ss.all fun s => (plansD s).all (goodP n)
  | [] => rfl
  | s :: ss => by
    have ih := below_all n ss
    unfold below at ih ⊢
    rw [List.flatMap_cons, List.all_append, ih, List.all_cons, List.all_map]
    rfl
theorem below_size (n : Nat) : ∀ ss : List PyData, ((below ss n).map fun q => sizeP q.2 q.1).sum = (ss.map fun s => ((plansD s).map (sizeP n)).sum).sum
  | [] => rfl
  | s :: ss => by
    have ih := below_size n ss
    unfold below at ih ⊢
    rw [List.flatMap_cons, List.map_append, List.sum_append, ih, List.map_cons, List.sum_cons, List.map_map]
    rfl
theorem below_left (n : Nat) : ∀ ss : List PyData, left (below ss n) = (ss.map fun s => ((plansD s).map (manyP n)).sum).sum
  | [] => rfl
  | s :: ss => by
    have ih := below_left n ss
    unfold left below at ih ⊢
    rw [List.flatMap_cons, List.map_append, List.sum_append, ih, List.map_cons, List.sum_cons, List.map_map]
    rfl
theorem plansD_two (s : PyData) : (plansD s).length ≤ 2 := by
  unfold plansD
  split
  · split
    · simp
    · split
      · split <;> simp
      · split <;> simp
  · simp
theorem below_len (n : Nat) : ∀ ss : List PyData, (below ss n).length ≤ 2 * ss.length
  | [] => Nat.zero_le _
  | s :: ss => by
    have ih := below_len n ss
    have h := plansD_two s
    unfold below at ih ⊢
    rw [List.flatMap_cons, List.length_append, List.length_map, List.length_cons]
    omega
theorem res_step {many n : Nat} {ss : List PyData} {todo : List (PyData × Nat)} (hs : ss.all stepD = true) : Res many (todo ++ [(.tuple ss, n + 1)]) = Res (many + ss.length) (todo ++ below ss n) := by
  have a1 : goodP (n + 1) (.tuple ss) = ss.all fun s => (plansD s).all (goodP n) := by
    show (ss.all fun s => stepD s && (plansD s).all (goodP n)) = _
    rw [Bool.eq_iff_iff, List.all_eq_true, List.all_eq_true]
    constructor
    · intro h s m
      exact (Bool.and_eq_true_iff.mp (h s m)).2
    · intro h s m
      exact Bool.and_eq_true_iff.mpr ⟨List.all_eq_true.mp hs s m, h s m⟩
  have a2 : sizeP (n + 1) (.tuple ss) = ss.length + (ss.map fun s => ((plansD s).map (sizeP n)).sum).sum := rfl
  unfold Res
  rw [List.all_append, List.all_append, List.map_append, List.map_append, List.sum_append, List.sum_append, below_all, below_size]
  congr 1
  · congr 1
    show (goodP (n + 1) (.tuple ss) && true) = _
    rw [a1, Bool.and_true]
  · congr 1
    show (many + (_ + (sizeP (n + 1) (.tuple ss) + 0)) ≤ 200) = _
    rw [a2]
    congr 1
    omega
theorem res_no1 {many n : Nat} {ss : List PyData} {todo : List (PyData × Nat)} (h : ss.all stepD = false) : Res many (todo ++ [(.tuple ss, n)]) = false := by
  unfold Res
  rw [List.all_append]
  have : goodP n (.tuple ss) = false := by
    cases n with
    | zero => rfl
    | succ n =>
      show (ss.all fun s => stepD s && (plansD s).all (goodP n)) = false
      rw [Bool.eq_false_iff] at h ⊢
      intro z
      refine h (List.all_eq_true.mpr fun s m => ?_)
      exact (Bool.and_eq_true_iff.mp (List.all_eq_true.mp z s m)).1
  show ((_ && (goodP n (.tuple ss) && true)) && _) = false
  rw [this]
  simp
theorem res_no2 {many n : Nat} {ss : List PyData} {todo : List (PyData × Nat)} (h : 200 < many + ss.length ∨ n = 0) : Res many (todo ++ [(.tuple ss, n)]) = false := by
  unfold Res
  cases n with
  | zero =>
    rw [List.all_append]
    show ((_ && (false && true)) && _) = false
    simp
  | succ n =>
    rcases h with h | h
    · have a2 : sizeP (n + 1) (.tuple ss) = ss.length + (ss.map fun s => ((plansD s).map (sizeP n)).sum).sum := rfl
      have : decide (many + ((todo ++ [(PyData.tuple ss, n + 1)]).map fun q => sizeP q.2 q.1).sum ≤ 200) = false := by
        rw [decide_eq_false_iff_not, List.map_append, List.sum_append]
        show ¬ (many + (_ + (sizeP (n + 1) (.tuple ss) + 0)) ≤ 200)
        rw [a2]
        omega
      rw [this, Bool.and_false]
    · cases h
theorem left_step {n : Nat} {ss : List PyData} {todo : List (PyData × Nat)} : left (todo ++ below ss n) < left (todo ++ [(.tuple ss, n + 1)]) := by
  have a : manyP (n + 1) (.tuple ss) = 1 + (ss.map fun s => ((plansD s).map (manyP n)).sum).sum := rfl
  have b := below_left n ss
  unfold left at b ⊢
  rw [List.map_append, List.map_append, List.sum_append, List.sum_append, b]
  show _ < _ + (manyP (n + 1) (.tuple ss) + 0)
  rw [a]
  omega
theorem res_one (d : PyData) : Res 0 [(d, 6)] = planD d := by
  unfold Res planD
  simp
end
end K75

set_option Elab.async false
set_option linter.all false
set_option maxRecDepth 100000
set_option maxHeartbeats 4000000
namespace K75
open PySem PySem.Spec PyProof.Rows L2 Tk
local macro_rules | `(tactic| walk_at "rd1") => `(tactic| first
  | with_reducible refine r_seq ?_
  | ((with_reducible refine r_var (v := ?vv) ?hrv ?_); (case hrv => rfl))
  | with_reducible refine r_c ?_
  | with_reducible refine r_op ?_
  | ((with_reducible refine r_ixL (xs := ?xx) (v := ?vv) ?hh ?he ?_); (case hh => first | assumption | exact upd_same); (case he => rfl))
  | with_reducible refine r_asg ?_
  | with_reducible refine r_sub ?_
  | ((with_reducible refine r_gTup (xs := ?xx) ?hh ?he ?_); (case hh => assumption); (case he => rfl))
  | with_reducible refine r_gCons ?_
  | with_reducible refine r_gNil ?_
  | ((with_reducible refine r_setL (xs := ?xx) (j := ?vv) ?hh ?he ?_); (case hh => first | assumption | exact upd_same); (case he => rfl))
  | with_reducible refine r_pow15 ?_
  | with_reducible refine r_pow18 ?_
  | with_reducible refine r_repr ?_
  | with_reducible refine iteT ?_
  | with_reducible refine iteF ?_
  | with_reducible refine r_cons ?_
  | with_reducible refine r_nil ?_
  | with_reducible refine r_call ?_
  | with_reducible refine r_cb ?_
  | with_reducible refine r_ret ?_
  | with_reducible refine r_gName ?_
  | with_reducible refine r_next ?_
  | with_reducible refine r_ifS ?_
  | with_reducible refine r_un ?_
  | with_reducible refine r_U ?_
  | with_reducible refine r_max2 ?_
  | with_reducible refine r_min2 ?_
  | with_reducible refine r_sl ?_
  | with_reducible refine r_noPart ?_
  | with_reducible refine r_part ?_
  | with_reducible refine r_inti ?_
  | with_reducible refine r_lc ?_
  | with_reducible refine r_for ?_
  | with_reducible refine r_rng1 ?_
  | with_reducible refine r_iList ?_
  | with_reducible refine r_iTup ?_
  | with_reducible refine r_iStr ?_
  | with_reducible refine r_strx ?_
  | ((with_reducible refine r_j ?hh ?hi ?_); (case hh => omega); (case hi => omega))
  | with_reducible refine r_m1 ?_
  | with_reducible refine r_test ?_
  | with_reducible refine r_B ?_
  | with_reducible refine r_not ?_
  | with_reducible refine r_and ?_
  | with_reducible refine r_or ?_
  | with_reducible refine r_andV ?_
  | with_reducible refine r_orV ?_
  | with_reducible refine r_notV ?_
  | with_reducible refine r_if ?_
  | with_reducible refine r_chain ?_
  | with_reducible refine r_lst ?_
  | with_reducible refine r_tup ?_
  | with_reducible refine r_k ?_
  | ((with_reducible refine r_isiS (d := ?dd) ?hh ?_); (case hh => assumption))
  | ((with_reducible refine r_isiT (d := ?dd) ?hh ?_); (case hh => assumption))
  | ((with_reducible refine r_isiI (d := ?dd) ?hh ?_); (case hh => assumption))
  | ((with_reducible refine r_isiB (d := ?dd) ?hh ?_); (case hh => assumption))
  | ((with_reducible refine r_lenS ?hh ?_); (case hh => assumption))
  | ((with_reducible refine r_lenT (xs := ?dd) ?hh ?_); (case hh => assumption))
  | ((with_reducible refine r_ixT (xs := ?xx) (v := ?vv) ?hh ?he ?_); (case hh => assumption); (case he => rfl))
  | with_reducible refine r_isN ?_
  | with_reducible refine r_I0 ?_
  | with_reducible refine g_addI ?_
  | ((with_reducible refine r_mod ?hh ?_); (case hh => first | decide | omega))
  | ((with_reducible refine r_div ?hh ?hi ?_); (case hh => first | decide | omega); (case hi => first | decide | omega))
  | ((with_reducible refine g_mulB ?hh ?hi ?_); (case hh => omega); (case hi => omega))
  | with_reducible refine g_ltI ?_
  | with_reducible refine g_leI ?_
  | with_reducible refine g_gtI ?_
  | with_reducible refine g_geI ?_
  | with_reducible refine g_eqI ?_
  | with_reducible refine g_neI ?_
  | with_reducible refine g_eqS ?_
  | with_reducible refine g_neS ?_
  | with_reducible refine g_leS ?_
  | with_reducible refine g_ltS ?_)
local macro_rules | `(tactic| walk_at "rd") => `(tactic| repeat (walk_at "rd1"))
local macro_rules | `(tactic| walk_at "ed") => `(tactic| repeat first
  | exact ed_int
  | exact ed_str
  | exact ed_bl
  | exact ed_non
  | exact ed_nil
  | exact ed_dct
  | exact ed_neg
  | with_reducible apply ed_cons
  | with_reducible apply ed_tup
  | with_reducible apply ed_lst
  | exact Nat.le_of_ble_eq_true rfl)
local macro_rules | `(tactic| walk_at "tx1") => `(tactic| first
  | walk_at "rd1"
  | with_reducible refine r_callS ?_
  | with_reducible refine r_zipA ?_
  | with_reducible refine r_par ?_
  | with_reducible refine r_pair ?_
  | with_reducible refine r_pow6 ?_
  | with_reducible refine r_m0 ?_
  | with_reducible refine r_bm ?_
  | with_reducible refine r_isS ?_
  | with_reducible refine r_told ?_
  | with_reducible refine r_js ?_
  | with_reducible refine r_jsNil ?_
  | with_reducible refine r_repl ?_
  | ((with_reducible refine r_gLst (xs := ?xx) ?hh ?he ?_); (case hh => assumption); (case he => rfl))
  | ((with_reducible refine r_lenL (xs := ?xx) ?hh ?_); (case hh => assumption)))
local macro_rules | `(tactic| walk_at "tx") => `(tactic| repeat (walk_at "tx1"))
section
variable {t1 t2 t3 t4 t5 t6 : Tok} {P : Program} {w : World} {K : PySem.W.Frag} {mg : Str → Option Value} {base : Heap}
/-! ### a comprehension with two for -/
theorem r_lc2 {wi wi1 : TI} {g g1 : TG} {tt tt1 : TT} {te : TE} {vs vs1 : List Nat} {σ : L2.St} {H : Hp} {Q : VK} {G : Hp → Prop} {n : Nat} {Y : Nat → Hp → V → Hp → Prop}
    (h : wi σ H fun J H1 => Walk J n G Y ∧ ∀ D, H1 D = none → ∃ Pv : Nat → Hp → Prop, Pv 0 (upd H1 D (.lst [])) ∧ (∀ i H, i ≤ n → Pv i H → G H) ∧ (∀ H, Pv n H → Q (.ref D) H) ∧
      ∀ i x H H', i < n → Pv i H → Y i H x H' → g x (wipe σ vs) H' fun σ2 H2 => wipe σ2 vs = wipe σ vs ∧ tt σ2 H2 fun b H3 =>
        if b = true then wi1 σ2 H3 fun J1 H4 => ∃ W1 : Nat → Nat → Hp → Prop, (∃ m, W1 0 m H4) ∧ ∀ j k H, W1 j k H →
          (J1.stop j H ∧ Pv (i + 1) H) ∨ (J1.go j H ∧ ∃ Nx1 : Hp → Prop, (∀ H', Nx1 H' → ∃ k', k' < k ∧ W1 (j + 1) k' H') ∧ ∀ x H', J1.yld j H x H' → g1 x (wipe σ2 vs1) H' fun σ3 H5 => wipe σ3 vs1 = wipe σ2 vs1 ∧ tt1 σ3 H5 fun b H6 =>
            if b = true then te σ3 H6 fun y H7 => ∃ acc, H7 D = some (.lst acc) ∧ acc.length < sizeLine ∧ Nx1 (upd H7 D (.lst (acc ++ [y]))) else Nx1 H6)
        else Pv (i + 1) H3)
    (mono : ∀ Q Q' : It → Hp → Prop, (∀ J H1, Q J H1 → Q' J H1) → wi σ H Q → wi σ H Q') : tLc2 wi g tt wi1 g1 tt1 te vs vs1 σ H Q := by
  refine mono _ _ (fun J H1 ⟨wk, qq⟩ D hD => ?_) h
  obtain ⟨Pv, h0, hG, hd, hs⟩ := qq D hD
  clear qq
  refine ⟨fun i m H => m = n - i ∧ i ≤ n ∧ Pv i H, ⟨n, by simp, Nat.zero_le _, h0⟩, ?_⟩
  rintro i m H ⟨rfl, hi, p⟩
  have q := hG i H hi p
  by_cases hlt : i < n
  · exact .inr ⟨wk.goes i H hlt q, Pv (i + 1), fun H' p' => ⟨n - (i + 1), by omega, rfl, hlt, p'⟩, fun x H' y => hs i x H H' hlt p (wk.yields i H x H' hlt q y)⟩
  · have e : i = n := by omega
    subst e
    exact .inl ⟨wk.stops H q, hd H p⟩
theorem in_lc2 {J1 : It} {n1 : Nat} {G1 : Hp → Prop} {Y1 : Nat → Hp → V → Hp → Prop} (w1 : Walk J1 n1 G1 Y1) {g1 : TG} {tt1 : TT} {te : TE} {vs1 : List Nat} {σ2 : L2.St} {H4 : Hp} {D : Addr} {Nx : Hp → Prop} (P1 : Nat → Hp → Prop) (h0 : P1 0 H4) (hG : ∀ j H, j ≤ n1 → P1 j H → G1 H) (hd : ∀ H, P1 n1 H → Nx H)
    (hs : ∀ j x H H', j < n1 → P1 j H → Y1 j H x H' → g1 x (wipe σ2 vs1) H' fun σ3 H5 => wipe σ3 vs1 = wipe σ2 vs1 ∧ tt1 σ3 H5 fun b H6 => if b = true then te σ3 H6 fun y H7 => ∃ acc, H7 D = some (.lst acc) ∧ acc.length < sizeLine ∧ P1 (j + 1) (upd H7 D (.lst (acc ++ [y]))) else P1 (j + 1) H6) :
    ∃ W1 : Nat → Nat → Hp → Prop, (∃ m, W1 0 m H4) ∧ ∀ j k H, W1 j k H →
      (J1.stop j H ∧ Nx H) ∨ (J1.go j H ∧ ∃ Nx1 : Hp → Prop, (∀ H', Nx1 H' → ∃ k', k' < k ∧ W1 (j + 1) k' H') ∧ ∀ x H', J1.yld j H x H' → g1 x (wipe σ2 vs1) H' fun σ3 H5 => wipe σ3 vs1 = wipe σ2 vs1 ∧ tt1 σ3 H5 fun b H6 =>
        if b = true then te σ3 H6 fun y H7 => ∃ acc, H7 D = some (.lst acc) ∧ acc.length < sizeLine ∧ Nx1 (upd H7 D (.lst (acc ++ [y]))) else Nx1 H6) := by
  refine ⟨fun j k H => k = n1 - j ∧ j ≤ n1 ∧ P1 j H, ⟨n1, by simp, Nat.zero_le _, h0⟩, ?_⟩
  rintro j k H ⟨rfl, hj, p⟩
  have q := hG j H hj p
  by_cases hlt : j < n1
  · exact .inr ⟨w1.goes j H hlt q, P1 (j + 1), fun H' p' => ⟨n1 - (j + 1), by omega, rfl, hlt, p'⟩, fun x H' y => hs j x H H' hlt p (w1.yields j H x H' hlt q y)⟩
  · have e : j = n1 := by omega
    subst e
    exact .inl ⟨w1.stops H q, hd H p⟩
theorem r_bm0 {T : String} {r : V → List V → Hp → VK → Prop} {to : TE} {σ : L2.St} {H : Hp} {Q : VK} (h : to σ H fun x H1 => tyV K T x H1 ∧ r x [] H1 Q) : tBM0 K T r to σ H Q := h
theorem lc_tupI {T : Addr} {xs : List V} {s : Nat} {te : TE} {σ : L2.St} {H1 : Hp} {Qd : VK} (e : H1 T = some (.tup xs)) (rs : List V) (hl : rs.length = xs.length) (hn : xs.length ≤ 100000)
    (he : ∀ (i : Nat) (x r : V), xs[i]? = some x → rs[i]? = some r → ∀ (H2 : Hp) (R : VK), Same H1 H2 → (∀ H3, Same H2 H3 → R r H3) → te (σ.set s (some x)) H2 R)
    (hd : ∀ (D : Addr) (H' : Hp), H1 D = none → Same H1 H' → H' D = some (.lst rs) → Qd (.ref D) H') : LcG (Itt K T) (gName s) tYes te [s] σ H1 Qd := by
  intro D hD
  refine lc_it (Qd := fun H' => Qd (.ref D) H') (walk_tup (xs := xs)) (fun i H' => Same H1 H' ∧ H' D = some (.lst (rs.take i))) ⟨Same.new hD, upd_same⟩ (fun i H' _ p => SqT.of (p.1 _ _ e)) ?_ (fun H' p => hd D H' hD p.1 (by rw [p.2, ← hl, List.take_length]))
  rintro i x H2 H2' hi ⟨p1, p2⟩ ⟨rfl, hx⟩
  have hr : rs[i]? = some (rs[i]'(by omega)) := List.getElem?_eq_getElem (by omega)
  refine ⟨wipe_set σ s _, ?_⟩
  rw [wipe_slot]
  simp only [tYes, reduceIte]
  refine he i x _ hx hr H2' _ p1 fun H3 s3 => ?_
  have e4 := s3 _ _ p2
  refine ⟨_, e4, sz_lt (by rw [List.length_take]; omega), Same.mut (p1.trans s3) hD, ?_⟩
  rw [upd_same, List.take_succ, hr]
  rfl
theorem r_drop {te : TE} {D : Ends} {σ : L2.St} {H : Hp} (h : te σ H fun _ H1 => D.nx σ H1) : tDrop te D σ H := h
theorem full_tup {d : PyData} (h : fullD d = true) : tupB d = true := by
  cases d with
  | tuple ds => rfl
  | _ => cases h
theorem plans_tup {d : PyData} (h : stepD d = true) : ∀ q ∈ plansD d, tupB q = true := by
  unfold stepD at h
  split at h
  · rename_i x r
    by_cases c1 : x = "do"
    · subst c1
      intro q hq
      cases hq
    · by_cases c2 : x = "if"
      · subst c2
        obtain ⟨a, b, p, o, rfl⟩ := stepT_if h
        have h : (wordD a && (wordD b && (fullD p && tupB o))) = true := h
        rw [Bool.and_eq_true, Bool.and_eq_true, Bool.and_eq_true] at h
        obtain ⟨_, _, h1, h2⟩ := h
        intro q hq
        have hq : q ∈ [p, o] := hq
        simp only [List.mem_cons, List.not_mem_nil, or_false] at hq
        rcases hq with rfl | rfl
        · exact full_tup h1
        · exact h2
      · unfold stepT at h
        rw [if_neg c1] at h
        intro q hq
        split at h
        · split at h
          · rename_i p
            rw [plansD_last c1 c2 (p := p) rfl] at hq
            rw [List.mem_singleton.mp hq]
            exact full_tup h
          · cases h
        · split at h
          · split at h
            · rename_i c p
              rw [plansD_last c1 c2 (p := p) rfl] at hq
              rw [List.mem_singleton.mp hq]
              exact full_tup (Bool.and_eq_true_iff.mp h).2
            · cases h
          · split at h
            · split at h
              · rename_i c p
                rw [plansD_last c1 c2 (p := p) rfl] at hq
                rw [List.mem_singleton.mp hq]
                exact full_tup (Bool.and_eq_true_iff.mp h).2
              · cases h
            · cases h
  · cases h
theorem r_yes {σ : L2.St} {H : Hp} {R : Bool → Hp → Prop} (h : R true H) : tYes σ H R := h
/-! ### what waits -/
def ItemAt (K : PySem.W.Frag) (H0 H : Hp) (v : V) (q : PyData × Nat) : Prop := ∃ (T : Addr) (pv : V), v = .ref T ∧ H T = some (.tup [pv, .int (7 - (q.2 : Int))]) ∧ Dd K H0 pv q.1
def ItemsAt (K : PySem.W.Frag) (H0 H : Hp) : List V → List (PyData × Nat) → Prop
  | [], [] => True
  | v :: vs, q :: qs => ItemAt K H0 H v q ∧ ItemsAt K H0 H vs qs
  | _, _ => False
theorem ItemAt.chg {H0 H H' : Hp} {W : Addr} (hW : ∃ xs, H W = some (.lst xs)) (s : ∀ b o, b ≠ W → H b = some o → H' b = some o) {v : V} {q : PyData × Nat} (h : ItemAt K H0 H v q) : ItemAt K H0 H' v q := by
  obtain ⟨T, pv, rfl, e, d⟩ := h
  refine ⟨T, pv, rfl, s T _ (fun z => ?_) e, d⟩
  subst z
  obtain ⟨xs, y⟩ := hW
  rw [y] at e
  cases e
theorem ItemsAt.chg {H0 H H' : Hp} {W : Addr} (hW : ∃ xs, H W = some (.lst xs)) (s : ∀ b o, b ≠ W → H b = some o → H' b = some o) : ∀ {vs : List V} {qs : List (PyData × Nat)}, ItemsAt K H0 H vs qs → ItemsAt K H0 H' vs qs
  | [], [], _ => True.intro
  | [], _ :: _, h => h.elim
  | _ :: _, [], h => h.elim
  | v :: vs, q :: qs, h => ⟨h.1.chg hW s, ItemsAt.chg hW s h.2⟩
theorem ItemsAt.same {H0 H H' : Hp} (s : Same H H') : ∀ {vs : List V} {qs : List (PyData × Nat)}, ItemsAt K H0 H vs qs → ItemsAt K H0 H' vs qs
  | [], [], _ => True.intro
  | [], _ :: _, h => h.elim
  | _ :: _, [], h => h.elim
  | v :: vs, q :: qs, h => ⟨by obtain ⟨T, pv, rfl, e, d⟩ := h.1; exact ⟨T, pv, rfl, s _ _ e, d⟩, ItemsAt.same s h.2⟩
theorem ItemsAt.app {H0 H : Hp} : ∀ {vs us : List V} {qs rs : List (PyData × Nat)}, ItemsAt K H0 H vs qs → ItemsAt K H0 H us rs → ItemsAt K H0 H (vs ++ us) (qs ++ rs)
  | [], _, [], _, _, h => h
  | [], _, _ :: _, _, h, _ => h.elim
  | _ :: _, _, [], _, h, _ => h.elim
  | v :: vs, _, q :: qs, _, h, g => ⟨h.1, ItemsAt.app h.2 g⟩
theorem ItemsAt.len {H0 H : Hp} : ∀ {vs : List V} {qs : List (PyData × Nat)}, ItemsAt K H0 H vs qs → vs.length = qs.length
  | [], [], _ => rfl
  | [], _ :: _, h => h.elim
  | _ :: _, [], h => h.elim
  | v :: vs, q :: qs, h => congrArg Nat.succ h.2.len
theorem ItemsAt.last {H0 H : Hp} : ∀ {vs : List V} {qs : List (PyData × Nat)}, ItemsAt K H0 H vs qs → vs ≠ [] → ∃ v q rs, vs[vs.length - 1]? = some v ∧ qs = rs ++ [q] ∧ ItemAt K H0 H v q ∧ ItemsAt K H0 H vs.dropLast rs
  | [], _, _, h => absurd rfl h
  | _ :: _, [], h, _ => h.elim
  | [v], [q], h, _ => ⟨v, q, [], rfl, rfl, h.1, True.intro⟩
  | [v], q :: r :: qs, h, _ => h.2.elim
  | v :: u :: vs, [q], h, _ => h.2.elim
  | v :: u :: vs, q :: r :: qs, h, _ => by
    obtain ⟨x, p, rs, e1, e2, e3, e4⟩ := ItemsAt.last (vs := u :: vs) (qs := r :: qs) h.2 (by simp)
    refine ⟨x, p, q :: rs, ?_, by rw [e2]; rfl, e3, ?_⟩
    · simpa using e1
    · rw [List.dropLast_cons_of_ne_nil (by simp)]
      exact ⟨h.1, e4⟩
def spPlan (K : PySem.W.Frag) : Sp := fun vs H Q _ => ∃ (v : V) (d : PyData), vs = [v] ∧ Dd K H v d ∧ AskP 6 d ∧ ∀ H', Same H H' → Q (.bl (planD d)) H'
theorem planD_no {d : PyData} (h : ∀ ds, d ≠ .tuple ds) : planD d = false := by
  cases d with
  | tuple ds => exact absurd rfl (h ds)
  | _ => rfl
abbrev s_is_plan : Stmt := top 17
abbrev n_is_plan : List Str := ["thing", "many", "waiting", "plan", "depth", "step", "inner"]
abbrev p_is_plan : List Str := ["thing"]
theorem sc_is_plan : FnScope n_is_plan p_is_plan (defScope s_is_plan) := ⟨rfl, rfl, rfl, by decide +kernel, rfl, by decide +kernel, by decide +kernel⟩
theorem ok_is_plan (T : Txt mg t1 t2 t3 t4 t5 t6) {f : Addr} {fd : FuncData} (F : Fun K "is_plan" "is_plan" s_is_plan f fd) (K_is_step : Cal P w K mg base CX0 7 "_is_step" p_is_step (spStep K)) (K_plans_in : Cal P w K mg base CX0 7 "_plans_in" p_plans_in (spPlans K)) :
    FnOk P w K mg base CX0 8 f fd p_is_plan (spPlan K) := by
  refine F.ok sc_is_plan (fun vs H Q E h => by obtain ⟨v, d, rfl, _⟩ := h; rfl) (fun cdv A outer s H vs Q E hr h => ?_)
  obtain ⟨v, d, rfl, hd, ask, k⟩ := h
  have hu := hr.units
  refine ⟨_, (pss_cons (ps_if (pt_not (pt_val (pe_callB k_isi (by rfl) T.z_isinstance (by decide +kernel) (pa_cons (pv 0) (pa_cons (pe_bltn (v := .ty "tuple") rfl T.z_tuple (by decide +kernel) rfl) pa_nil))))) (pss_one (ps_ret pe_bl)) pss_nil)
      (pss_cons (ps_set (i := 1) sc_is_plan.nd rfl (by first | exact Or.inl rfl | exact Or.inr rfl) pe_int)
      (pss_cons (ps_set (i := 2) sc_is_plan.nd rfl (by first | exact Or.inl rfl | exact Or.inr rfl) (pe_lst (pa_cons (pe_tup (pa_cons (pv 0) (pa_cons pe_int pa_nil))) pa_nil)))
      (pss_cons (ps_while PassesOwn.never (pt_cmpR o_gt (pe_callB k_len (by rfl) T.z_len (by decide +kernel) (pa_cons (pv 2) pa_nil)) pe_int (nomark _))
      (pss_cons (ps_asg (pe_bm0 PySem.F.plainAttrs_list PySem.F.slot_list_pop PySem.F.type_list_pop mt_pop (pv 2)) (k_gtup (n := 2) rfl (pgs_cons (pg_name (i := 3) sc_is_plan.nd rfl (by first | exact Or.inl rfl | exact Or.inr rfl)) (pgs_cons (pg_name (i := 4) sc_is_plan.nd rfl (by first | exact Or.inl rfl | exact Or.inr rfl)) pgs_nil))))
      (pss_cons (ps_aug (i := 1) sc_is_plan.nd rfl (by first | exact Or.inl rfl | exact Or.inr rfl) (pe_callB k_len (by rfl) T.z_len (by decide +kernel) (pa_cons (pv 3) pa_nil)) ip_add)
      (pss_cons (ps_if (PW.pt (pw_or (pt_cmpR o_gt (pv 1) (pe_glob (v := V.int (200)) rfl T.g_MOST_STEPS ⟨_, rfl⟩) (nomark _)) (pw_or1 (pt_cmpR o_gt (pv 4) (pe_glob (v := V.int (6)) rfl T.g_DEEPEST ⟨_, rfl⟩) (nomark _))))) (pss_one (ps_ret pe_bl)) pss_nil)
      (pss_cons (ps_if (pt_not (pt_val (pe_callB (k_all rfl) (by rfl) T.z_all (by decide +kernel) (pa_cons (pe_lc (own := [("step", 5)]) rfl sc_is_plan.nd (k_tup (pv 3)) (blkOk_by (own := [("step", 5)]) (N := n_is_plan) (sc := defScope s_is_plan) (by decide +kernel)) (fun _ _ _ _ _ => (pg_name (i := 5) sc_is_plan.nd rfl (by first | exact Or.inl rfl | exact Or.inr rfl))) (fun _ _ _ _ _ => pts_nil) (fun _ _ _ _ _ => (pe_cal K_is_step (hr.mono (by decide)) pass0 (pa_cons (pv 5) pa_nil)))) pa_nil)))) (pss_one (ps_ret pe_bl)) pss_nil)
      (pss_one (ps_expr (pe_bm PySem.F.plainAttrs_list PySem.F.slot_list_extend PySem.F.type_list_extend mt_extend (pv 2) (pa_cons (pe_lc2 (own := [("step", 5), ("inner", 6)]) (vs1 := [6]) rfl sc_is_plan.nd (k_tup (pv 3)) (blkOk_by (own := [("step", 5), ("inner", 6)]) (N := n_is_plan) (sc := defScope s_is_plan) (by decide +kernel)) (by decide) (fun _ _ _ _ _ => (pg_name (i := 5) sc_is_plan.nd rfl (by first | exact Or.inl rfl | exact Or.inr rfl))) (fun _ _ _ _ _ => pts_nil) (fun _ _ _ _ _ => (k_list (pe_cal K_plans_in (hr.mono (by decide)) pass0 (pa_cons (pv 5) pa_nil)))) (fun _ _ _ _ _ => (pg_name (i := 6) sc_is_plan.nd rfl (by first | exact Or.inl rfl | exact Or.inr rfl))) (fun _ _ _ _ _ => pts_nil) (fun _ _ _ _ _ => (pe_tup (pa_cons (pv 6) (pa_cons (pe_op k_add (pv 4) pe_int) pa_nil))))) pa_nil)))))))))
      (pss_one (ps_ret pe_bl)))))), ?_⟩
  walk_at "tx"
  rcases tup_or hd with ⟨a, xs, ds, rfl, rfl, ha, hds, e⟩ | ⟨e, hn⟩
  · rw [e]
    refine iteF ?_
    walk_at "tx"
    refine a_tup (by simp) fun T0 H1 n1 s1 e1 => ?_
    walk_at "tx"
    refine a_lst (by simp) fun W H2 n2 s2 e2 => ?_
    walk_at "tx"
    have w0 : ItemsAt K H H2 [.ref T0] [(.tuple ds, 6)] := ⟨⟨T0, .ref a, rfl, s2 _ _ e1, hd⟩, True.intro⟩
    have r0 : Res 0 [(.tuple ds, 6)] = planD (.tuple ds) := res_one _
    refine ⟨fun m σ H' => ∃ (many : Nat) (vs : List V) (todo : List (PyData × Nat)) (o3 o4 o5 o6 : Option V), σ = [some (.ref a), some (.int (many : Int)), some (.ref W), o3, o4, o5, o6] ∧ H' W = some (.lst vs) ∧ ItemsAt K H H' vs todo ∧ Same H H' ∧ H W = none ∧ Res many todo = planD (.tuple ds) ∧
      m = left todo ∧ many ≤ 200 ∧ todo.length ≤ 2 * many + 1 ∧ (∀ q ∈ todo, q.2 ≤ 6 ∧ tupB q.1 = true ∧ AskP q.2 q.1), ⟨_, 0, _, _, _, _, _, _, rfl, e2, w0, s1.trans s2, ?_, r0, rfl, by decide, by simp, ?_⟩, ?_⟩
    · cases z : H W with
      | none => rfl
      | some o => rw [s1 _ _ z] at n2; cases n2
    · intro q hq
      rw [List.mem_singleton.mp hq]
      exact ⟨Nat.le_refl _, rfl, ask⟩
    · rintro m σ H3 ⟨many, vs, todo, o3, o4, o5, o6, rfl, eW, its, s3, nW, res, rfl, many200, few, asks⟩
      walk_at "tx"
      have hlen := its.len
      refine r_dec (fun c => ?_) (fun c => ?_)
      · have hne : vs ≠ [] := by intro z; rw [z] at c; exact absurd c (by decide)
        obtain ⟨y, ⟨p, n⟩, rs, e4, rfl, ia, its4⟩ := its.last hne
        obtain ⟨n6, tp, askp⟩ := asks (p, n) (by simp)
        obtain ⟨T1, pv, rfl, eT, dp⟩ := ia
        refine ⟨_, fun σ' H' h => h, ?_⟩
        refine r_seq ?_
        refine r_asg ?_
        refine r_bm0 ?_
        walk_at "tx"
        refine ⟨.inl ⟨rfl, _, SqL.of eW⟩, W, vs, _, rfl, rfl, eW, e4, ?_⟩
        have nT : T1 ≠ W := fun z => by rw [z, eW] at eT; cases eT
        have but : ∀ b o, b ≠ W → H3 b = some o → upd H3 W (.lst vs.dropLast) b = some o := fun b o z e => (upd_ne z).trans e
        have its5 := its4.chg ⟨_, eW⟩ but
        have eT5 := but _ _ nT eT
        have s5 : Same H (upd H3 W (.lst vs.dropLast)) := fun b o e => but b o (fun z => by rw [z, nW] at e; cases e) (s3 b o e)
        have eW5 : upd H3 W (.lst vs.dropLast) W = some (.lst vs.dropLast) := upd_same
        generalize upd H3 W (.lst vs.dropLast) = H5 at its5 eT5 s5 eW5 ⊢
        obtain ⟨ss, rfl⟩ : ∃ ss, p = .tuple ss := by
          cases p with
          | tuple ss => exact ⟨ss, rfl⟩
          | _ => cases tp
        cases dp with
        | tup ep al =>
        rename_i ap ys
        have ep5 := s5 _ _ ep
        have lys := al.length
        walk_at "tx"
        refine ⟨_, rfl, ?_⟩
        walk_at "tx"
        refine ⟨(many : Int), ((ys.length : Nat) : Int), rfl, rfl, ?_⟩
        walk_at "tx"
        have no : ∀ H', Same H H' → planD (.tuple ds) = false → Q (.bl false) H' := fun H' s' z => by
          have q := k H' s'
          rw [z] at q
          exact q
        refine r_dec (fun c1 => ?_) (fun c1 => ?_)
        · have c1 : (200 : Int) < (many : Int) + (ys.length : Nat) := c1
          walk_at "tx"
          exact no H5 s5 (by rw [← res]; exact res_no2 (.inl (by omega)))
        · have c1 : ¬ (200 : Int) < (many : Int) + (ys.length : Nat) := c1
          walk_at "tx"
          refine r_dec (fun c2 => ?_) (fun c2 => ?_)
          · have c2 : (6 : Int) < 7 - (n : Int) := c2
            walk_at "tx"
            exact no H5 s5 (by rw [← res]; exact res_no2 (.inr (by omega)))
          · have c2 : ¬ (6 : Int) < 7 - (n : Int) := c2
            obtain ⟨n', rfl⟩ : ∃ n', n = n' + 1 := ⟨n - 1, by omega⟩
            have asks' := askp.2 ss rfl
            walk_at "tx"
            refine ⟨ap, rfl, ⟨_, SqT.of ep5⟩, ?_⟩
            refine lc_tupI ep5 ((ss.map stepD).map V.bl) (by simp [lys]) (by omega) (fun i x r hx hr H6 R s6 q => ?_) (fun LB H6 nB s6 eB => ?_)
            · obtain ⟨d1, hd1, dd1⟩ := DdAll.get al hx
              walk_at "tx"
              refine ⟨x, d1, rfl, Dd.same (s5.trans s6) _ _ dd1, (asks' d1 (List.mem_of_getElem? hd1)).1, fun H7 s7 => ?_⟩
              rw [List.getElem?_map, List.getElem?_map, hd1] at hr
              cases hr
              exact q H7 s7
            · walk_at "tx"
              refine r_all eB ?_
              have hall : (ss.map stepD).all id = ss.all stepD := by rw [List.all_map]; rfl
              rw [hall]
              walk_at "tx"
              refine r_boolN (fun c3 => ?_) (fun c3 => ?_)
              · walk_at "tx"
                exact no H6 (s5.trans s6) (by rw [← res]; exact res_no1 c3)
              · walk_at "tx"
                have c3' : ∀ d ∈ ss, stepD d = true := List.all_eq_true.mp c3
                dsimp only
                refine r_drop ?_
                refine r_bm ?_
                walk_at "tx"
                have nW6 := s6 _ _ eW5
                refine ⟨.inl ⟨rfl, _, SqL.of nW6⟩, ?_⟩
                walk_at "tx"
                have ep6 := s6 _ _ ep5
                have s06 := s5.trans s6
                have lss : ss.length ≤ 200 := by omega
                refine r_lc2 (G := fun H' => SqT K H' ap ys) (n := ys.length) (Y := YAt ys) ?_ (fun Q1 Q2 mm h => by obtain ⟨x, hx, a1, h1, h2, q⟩ := h; exact ⟨x, hx, a1, h1, h2, mm _ _ q⟩)
                walk_at "tx"
                refine ⟨ap, rfl, ⟨_, SqT.of ep6⟩, walk_tup, fun D nD => ?_⟩
                refine ⟨fun i H' => Same H6 H' ∧ ∃ acc, H' D = some (.lst acc) ∧ ItemsAt K H H' acc (below (ss.take i) n'), ⟨Same.new nD, [], upd_same, True.intro⟩, fun i H' _ p => SqT.of (p.1 _ _ ep6), ?_, ?_⟩
                · rintro H7 ⟨s7, acc, eD, ia⟩
                  rw [lys, List.take_length] at ia
                  walk_at "tx"
                  have eW7 := s7 _ _ nW6
                  have lacc : acc.length ≤ 2 * ss.length := by rw [ia.len]; exact below_len n' ss
                  have lvs := its5.len
                  have lrs : rs.length ≤ 2 * many := by rw [List.length_append, List.length_singleton] at few; omega
                  refine ⟨W, D, _, acc, rfl, rfl, eW7, eD, sz_of (by rw [lvs]; omega), ?_⟩
                  have but3 : ∀ b o, b ≠ W → H7 b = some o → upd H7 W (.lst (vs.dropLast ++ acc)) b = some o := fun b o z e => (upd_ne z).trans e
                  refine ⟨left (rs ++ below ss n'), left_step, many + ss.length, vs.dropLast ++ acc, rs ++ below ss n', some (.ref ap), some (.int (7 - ((n' + 1 : Nat) : Int))), o5, o6, ?_, upd_same, ?_, ?_, nW, ?_, rfl, by omega, ?_, ?_⟩
                  · rw [lys, Int.natCast_add]
                    rfl
                  · exact ((its5.same (s6.trans s7)).chg ⟨_, eW7⟩ but3).app (ia.chg ⟨_, eW7⟩ but3)
                  · exact fun b o e => but3 b o (fun z => by rw [z, nW] at e; cases e) ((s06.trans s7) b o e)
                  · rw [← res_step c3]
                    exact res
                  · have h1 := below_len n' ss
                    rw [List.length_append]
                    omega
                  · intro q hq
                    rcases List.mem_append.mp hq with hq | hq
                    · exact asks q (List.mem_append_left _ hq)
                    · obtain ⟨s0, ms, mq⟩ := List.mem_flatMap.mp hq
                      obtain ⟨p', mp, rfl⟩ := List.mem_map.mp mq
                      exact ⟨by show n' ≤ 6; omega, plans_tup (c3' s0 ms) p' mp, (asks' s0 ms).2 p' mp⟩
                · rintro i x H7 H7' hi ⟨s7, acc, eD, ia⟩ ⟨rfl, hx⟩
                  obtain ⟨d1, hd1, dd1⟩ := DdAll.get al hx
                  have st1 := c3' d1 (List.mem_of_getElem? hd1)
                  refine ⟨by rfl, ?_⟩
                  refine r_yes ?_
                  rw [if_pos rfl]
                  refine r_iList ?_
                  walk_at "tx"
                  refine ⟨x, d1, H, rfl, s06.trans s7, dd1, st1, fun L H8 us nL s8 eL al8 => ?_⟩
                  refine ⟨L, rfl, ⟨_, SqL.of eL⟩, ?_⟩
                  have hLD : L ≠ D := fun z => by rw [z, eD] at nL; cases nL
                  refine in_lc2 walk_list (fun j H' => Same H6 H' ∧ H' L = some (.lst us) ∧ ∃ acc, H' D = some (.lst acc) ∧ ItemsAt K H H' acc (below (ss.take i) n' ++ ((plansD d1).take j).map fun q => (q, n'))) ⟨s7.trans s8, eL, acc, s8 _ _ eD, by simpa using ia.same s8⟩ (fun j H' _ p => SqL.of p.2.1) ?_ ?_
                  · rintro H9 ⟨s9, _, acc9, eD9, ia9⟩
                    refine ⟨s9, acc9, eD9, ?_⟩
                    have e1 : below (ss.take (i + 1)) n' = below (ss.take i) n' ++ (plansD d1).map fun q => (q, n') := by
                      unfold below
                      rw [List.take_succ, hd1, List.flatMap_append]
                      simp
                    rw [e1]
                    rw [al8.length, List.take_length] at ia9
                    exact ia9
                  · rintro j y H9 H9' hj ⟨s9, eL9, acc9, eD9, ia9⟩ ⟨rfl, hy⟩
                    obtain ⟨q1, hq1, dq1⟩ := DdAll.get al8 hy
                    refine ⟨by rfl, ?_⟩
                    refine r_yes ?_
                    rw [if_pos rfl]
                    walk_at "tx"
                    refine a_tup (by simp) fun T2 H10 n10 s10 e10 => ?_
                    have nT2 : T2 ≠ D := fun z => by rw [z, s10 _ _ eD9] at e10; cases e10
                    have lacc : acc9.length ≤ 2 * 200 + 2 := by
                      rw [ia9.len, List.length_append, List.length_map, List.length_take]
                      have h1 := below_len n' (ss.take i)
                      have h2 := plansD_two d1
                      rw [List.length_take] at h1
                      omega
                    refine ⟨acc9, s10 _ _ eD9, sz_lt (by omega), Same.mut (s9.trans s10) nD, by rw [upd_ne hLD]; exact s10 _ _ eL9, _, upd_same, ?_⟩
                    have but2 : ∀ b o, b ≠ D → H10 b = some o → upd H10 D (.lst (acc9 ++ [.ref T2])) b = some o := fun b o z e => (upd_ne z).trans e
                    have ia10 := (ia9.same s10).chg ⟨_, s10 _ _ eD9⟩ but2
                    have e2 : below (ss.take i) n' ++ ((plansD d1).take (j + 1)).map (fun q => (q, n')) = (below (ss.take i) n' ++ ((plansD d1).take j).map fun q => (q, n')) ++ [(q1, n')] := by
                      rw [List.take_succ, hq1, List.map_append, List.append_assoc]
                      rfl
                    rw [e2]
                    refine ia10.app ⟨⟨T2, y, rfl, ?_, dq1⟩, True.intro⟩
                    rw [but2 _ _ nT2 e10]
                    have e3 : (7 - ((n' + 1 : Nat) : Int)) + 1 = 7 - (n' : Int) := by omega
                    rw [← e3]
      · have hv : vs = [] := by
          cases vs with
          | nil => rfl
          | cons _ _ => exact absurd (by rw [List.length_cons]; omega) c
        subst hv
        have ht : todo = [] := List.length_eq_zero_iff.mp (by rw [← hlen]; rfl)
        subst ht
        rw [res_nil many200] at res
        walk_at "tx"
        have q := k H3 s3
        rw [← res] at q
        exact q
  · rw [e]
    refine iteT ?_
    walk_at "tx"
    have q := k H (Same.refl H)
    rw [planD_no hn] at q
    exact q
end
end K75

set_option Elab.async false
set_option linter.all false
set_option maxRecDepth 100000
set_option maxHeartbeats 4000000
namespace K75
open PySem PySem.Spec PyProof.Rows L2 Tk
local macro_rules | `(tactic| walk_at "rd1") => `(tactic| first
  | with_reducible refine r_seq ?_
  | ((with_reducible refine r_var (v := ?vv) ?hrv ?_); (case hrv => rfl))
  | with_reducible refine r_c ?_
  | with_reducible refine r_op ?_
  | ((with_reducible refine r_ixL (xs := ?xx) (v := ?vv) ?hh ?he ?_); (case hh => first | assumption | exact upd_same); (case he => rfl))
  | with_reducible refine r_asg ?_
  | with_reducible refine r_sub ?_
  | ((with_reducible refine r_gTup (xs := ?xx) ?hh ?he ?_); (case hh => assumption); (case he => rfl))
  | with_reducible refine r_gCons ?_
  | with_reducible refine r_gNil ?_
  | ((with_reducible refine r_setL (xs := ?xx) (j := ?vv) ?hh ?he ?_); (case hh => first | assumption | exact upd_same); (case he => rfl))
  | with_reducible refine r_pow15 ?_
  | with_reducible refine r_pow18 ?_
  | with_reducible refine r_repr ?_
  | with_reducible refine iteT ?_
  | with_reducible refine iteF ?_
  | with_reducible refine r_cons ?_
  | with_reducible refine r_nil ?_
  | with_reducible refine r_call ?_
  | with_reducible refine r_cb ?_
  | with_reducible refine r_ret ?_
  | with_reducible refine r_gName ?_
  | with_reducible refine r_next ?_
  | with_reducible refine r_ifS ?_
  | with_reducible refine r_un ?_
  | with_reducible refine r_U ?_
  | with_reducible refine r_max2 ?_
  | with_reducible refine r_min2 ?_
  | with_reducible refine r_sl ?_
  | with_reducible refine r_noPart ?_
  | with_reducible refine r_part ?_
  | with_reducible refine r_inti ?_
  | with_reducible refine r_lc ?_
  | with_reducible refine r_for ?_
  | with_reducible refine r_rng1 ?_
  | with_reducible refine r_iList ?_
  | with_reducible refine r_iTup ?_
  | with_reducible refine r_iStr ?_
  | with_reducible refine r_strx ?_
  | ((with_reducible refine r_j ?hh ?hi ?_); (case hh => omega); (case hi => omega))
  | with_reducible refine r_m1 ?_
  | with_reducible refine r_test ?_
  | with_reducible refine r_B ?_
  | with_reducible refine r_not ?_
  | with_reducible refine r_and ?_
  | with_reducible refine r_or ?_
  | with_reducible refine r_andV ?_
  | with_reducible refine r_orV ?_
  | with_reducible refine r_notV ?_
  | with_reducible refine r_if ?_
  | with_reducible refine r_chain ?_
  | with_reducible refine r_lst ?_
  | with_reducible refine r_tup ?_
  | with_reducible refine r_k ?_
  | ((with_reducible refine r_isiS (d := ?dd) ?hh ?_); (case hh => assumption))
  | ((with_reducible refine r_isiT (d := ?dd) ?hh ?_); (case hh => assumption))
  | ((with_reducible refine r_isiI (d := ?dd) ?hh ?_); (case hh => assumption))
  | ((with_reducible refine r_isiB (d := ?dd) ?hh ?_); (case hh => assumption))
  | ((with_reducible refine r_lenS ?hh ?_); (case hh => assumption))
  | ((with_reducible refine r_lenT (xs := ?dd) ?hh ?_); (case hh => assumption))
  | ((with_reducible refine r_ixT (xs := ?xx) (v := ?vv) ?hh ?he ?_); (case hh => assumption); (case he => rfl))
  | with_reducible refine r_isN ?_
  | with_reducible refine r_I0 ?_
  | with_reducible refine g_addI ?_
  | ((with_reducible refine r_mod ?hh ?_); (case hh => first | decide | omega))
  | ((with_reducible refine r_div ?hh ?hi ?_); (case hh => first | decide | omega); (case hi => first | decide | omega))
  | ((with_reducible refine g_mulB ?hh ?hi ?_); (case hh => omega); (case hi => omega))
  | with_reducible refine g_ltI ?_
  | with_reducible refine g_leI ?_
  | with_reducible refine g_gtI ?_
  | with_reducible refine g_geI ?_
  | with_reducible refine g_eqI ?_
  | with_reducible refine g_neI ?_
  | with_reducible refine g_eqS ?_
  | with_reducible refine g_neS ?_
  | with_reducible refine g_leS ?_
  | with_reducible refine g_ltS ?_)
local macro_rules | `(tactic| walk_at "rd") => `(tactic| repeat (walk_at "rd1"))
local macro_rules | `(tactic| walk_at "ed") => `(tactic| repeat first
  | exact ed_int
  | exact ed_str
  | exact ed_bl
  | exact ed_non
  | exact ed_nil
  | exact ed_dct
  | exact ed_neg
  | with_reducible apply ed_cons
  | with_reducible apply ed_tup
  | with_reducible apply ed_lst
  | exact Nat.le_of_ble_eq_true rfl)
local macro_rules | `(tactic| walk_at "tx1") => `(tactic| first
  | walk_at "rd1"
  | with_reducible refine r_callS ?_
  | with_reducible refine r_zipA ?_
  | with_reducible refine r_par ?_
  | with_reducible refine r_pair ?_
  | with_reducible refine r_pow6 ?_
  | with_reducible refine r_m0 ?_
  | with_reducible refine r_bm ?_
  | with_reducible refine r_isS ?_
  | with_reducible refine r_told ?_
  | with_reducible refine r_js ?_
  | with_reducible refine r_jsNil ?_
  | with_reducible refine r_repl ?_
  | ((with_reducible refine r_gLst (xs := ?xx) ?hh ?he ?_); (case hh => assumption); (case he => rfl))
  | ((with_reducible refine r_lenL (xs := ?xx) ?hh ?_); (case hh => assumption)))
local macro_rules | `(tactic| walk_at "tx") => `(tactic| repeat (walk_at "tx1"))
section
variable {t1 t2 t3 t4 t5 t6 : Tok} {P : Program} {w : World} {K : PySem.W.Frag} {mg : Str → Option Value} {base : Heap}
theorem r_decNs {c A B : Prop} {_i : Decidable c} (h2 : c → B) (h1 : ¬ c → A) : if (!decide c) = true then A else B := r_decN h1 h2
theorem abc_mem (c : Nat) : decide (c ∈ (Str.ofString "abcdefghijklmnopqrstuvwxyz").cps.toList) = lowB c := by
  have e : (Str.ofString "abcdefghijklmnopqrstuvwxyz").cps.toList = (List.range 26).map (· + 97) := by decide +kernel
  rw [e]
  unfold lowB
  rw [Bool.eq_iff_iff, decide_eq_true_eq, Bool.and_eq_true, decide_eq_true_eq, decide_eq_true_eq, List.mem_map]
  constructor
  · rintro ⟨a, h, rfl⟩
    have := List.mem_range.mp h
    omega
  · intro h
    exact ⟨c - 97, List.mem_range.mpr (by omega), by omega⟩
abbrev s_L_is_word : Stmt := top 28
abbrev n_L_is_word : List Str := ["_law_thing", "_law_sign"]
abbrev p_L_is_word : List Str := ["_law_thing"]
theorem sc_L_is_word : FnScope n_L_is_word p_L_is_word (defScope s_L_is_word) := ⟨rfl, rfl, rfl, by decide +kernel, rfl, by decide +kernel, by decide +kernel⟩
theorem ok_L_is_word (T : Txt mg t1 t2 t3 t4 t5 t6) {f : Addr} {fd : FuncData} (F : Fun K "_law_is_word" "_law_is_word" s_L_is_word f fd) : FnOk P w K mg base CX0 1 f fd p_L_is_word (spD K wordD) := by
  refine F.ok sc_L_is_word (fun vs H Q E h => spD_len h) (fun cdv A outer s H vs Q E hr h => ?_)
  obtain ⟨v, d, rfl, hd, ho, k⟩ := h
  have hu := hr.units
  refine ⟨_, (pss_cons (ps_if (PW.pt (pw_or (pt_not (pt_val (pe_callB k_isi (by rfl) T.z_isinstance (by decide +kernel) (pa_cons (pv 0) (pa_cons (pe_bltn (v := .ty "str") rfl T.z_str (by decide +kernel) rfl) pa_nil))))) (pw_or1 (pt_not (pt_chain o_le o_le pe_int (pe_callB k_len (by rfl) T.z_len (by decide +kernel) (pa_cons (pv 0) pa_nil)) pe_int))))) (pss_one (ps_ret pe_bl)) pss_nil)
      (pss_one (ps_ret (pe_cmpR (k_eq hu) (pe_lc (own := [("_law_sign", 1)]) rfl sc_L_is_word.nd (pi_str (pv 0)) (blkOk_by (own := [("_law_sign", 1)]) (N := n_L_is_word) (sc := defScope s_L_is_word) (by decide +kernel)) (fun _ _ _ _ _ => (pg_name (i := 1) sc_L_is_word.nd rfl (by first | exact Or.inl rfl | exact Or.inr rfl))) (fun _ _ _ _ _ => (pts_one (pt_cmpR k_notSign (pv 1) pe_str rfl))) (fun _ _ _ _ _ => (pv 1))) (pe_lst pa_nil) (nomark _))))), ?_⟩
  walk_at "tx"
  rcases str_or d with ⟨x, rfl⟩ | hn
  · cases hd
    rw [isStr]
    refine iteF ?_
    have hx : x.length ≤ 100000 := ho
    have q := k H (Same.refl H)
    walk_at "tx"
    refine r_dec (fun c1 => ?_) (fun c1 => ?_)
    · walk_at "tx"
      refine r_decNs (fun c2 => ?_) (fun c2 => ?_)
      · walk_at "tx"
        refine r_lcStr hx (fun c => !lowB c) (fun v => v) (fun c _ H2 R s2 q => ?_) (fun c _ _ H2 R s2 q => ⟨_, rfl, q H2 (Same.refl H2)⟩) (fun Dl H2 hD s2 e => ?_)
        · walk_at "tx"
          refine r_notSign ?_
          rw [abc_mem]
          exact ⟨_, rfl, q H2 (Same.refl H2)⟩
        · walk_at "tx"
          refine ⟨by show 0 ≤ sizeLine; decide, fun p hp => ?_⟩
          refine r_eqNil (by rw [upd_ne (ne_of_none e hp)]; exact e) upd_same ?_
          rw [isEmpty_filter]
          have q := k (upd H2 p (.lst [])) (s2.trans (Same.new hp))
          have e1 : wordD (.str x) = x.cps.toList.all lowB := by simp [wordD, wordS, c1, c2]
          rw [e1] at q
          exact q
      · have e1 : wordD (.str x) = false := by simp [wordD, wordS, c2]
        rw [e1] at q
        exact q
    · have e1 : wordD (.str x) = false := by simp [wordD, wordS, c1]
      rw [e1] at q
      walk_at "tx"
      exact q
  · rw [isNotStr hn]
    refine iteT ?_
    walk_at "tx"
    have q := k H (Same.refl H)
    rw [wordD_no hn] at q
    exact q
def spSame : Sp := fun vs H Q _ => ∃ b c : Bool, vs = [.bl b, .bl c] ∧ Q (.bl (b == c)) H
abbrev s_L_same : Stmt := top 27
abbrev n_L_same : List Str := ["_law_found", "_law_due"]
abbrev p_L_same : List Str := ["_law_found", "_law_due"]
theorem sc_L_same : FnScope n_L_same p_L_same (defScope s_L_same) := ⟨rfl, rfl, rfl, by decide +kernel, rfl, by decide +kernel, by decide +kernel⟩
theorem ok_L_same (T : Txt mg t1 t2 t3 t4 t5 t6) {f : Addr} {fd : FuncData} (F : Fun K "_law_same" "_law_same" s_L_same f fd) : FnOk P w K mg base CX0 1 f fd p_L_same spSame := by
  refine F.ok sc_L_same (fun vs H Q E h => by obtain ⟨b, c, rfl, _⟩ := h; rfl) (fun cdv A outer s H vs Q E hr h => ?_)
  obtain ⟨b, c, rfl, k⟩ := h
  have hu := hr.units
  refine ⟨_, (pss_one (ps_ret (pe_and (pe_callB k_isi (by rfl) T.z_isinstance (by decide +kernel) (pa_cons (pv 0) (pa_cons (pe_bltn (v := .ty "bool") rfl T.z_bool (by decide +kernel) rfl) pa_nil))) (pe_one (pe_cmpR (k_eq hu) (pv 0) (pv 1) (nomark _)))))), ?_⟩
  walk_at "tx"
  refine r_isiB (.bl b) ?_
  refine ⟨_, rfl, ?_⟩
  rw [show isOf (.bool b) "bool" = true from isN_bool.2.1]
  refine iteT ?_
  walk_at "tx"
  refine .inl ⟨rfl, ?_⟩
  rw [dec_bl]
  exact k
/-! ### the law's reading of a step -/
def innT (x : Str) (r : List PyData) : Option (List (PyData × Nat)) :=
  if x = "do" then (match r with | [e] => if eventD e = true then some [] else none | _ => none)
  else if x = "try" then (match r with | [p] => some [(p, 1)] | _ => none)
  else if x = "each" then (match r with | [n, p] => if wordD n = true then some [(p, 1)] else none | _ => none)
  else if x = "repeat" then (match r with | [c, p] => if countD c = true then some [(p, 1)] else none | _ => none)
  else if x = "if" then (match r with | [a, b, p, o] => if wordD a = true ∧ wordD b = true then some [(p, 1), (o, 0)] else none | _ => none)
  else none
def innerD : PyData → Option (List (PyData × Nat))
  | .tuple (.str x :: r) => innT x r
  | _ => none
def scalD : PyData → Bool
  | .none => true
  | .bool _ => true
  | .int _ => true
  | .str _ => true
  | _ => false
def AskI (d : PyData) : Prop := AskS d ∧ ∀ d0 r, d = .tuple (d0 :: r) → scalD d0 = true
def RowAt (K : PySem.W.Frag) (H0 H : Hp) (v : V) (q : PyData × Nat) : Prop := ∃ (R : Addr) (pv : V), v = .ref R ∧ H R = some (.lst [pv, .int (q.2 : Int)]) ∧ Dd K H0 pv q.1
def RowsIn (K : PySem.W.Frag) (H0 H : Hp) : List V → List (PyData × Nat) → Prop
  | [], [] => True
  | v :: vs, q :: qs => RowAt K H0 H v q ∧ RowsIn K H0 H vs qs
  | _, _ => False
def spInner (K : PySem.W.Frag) : Sp := fun vs H Q _ => ∃ (v : V) (d : PyData) (Hb : Hp), vs = [v] ∧ Same Hb H ∧ Dd K Hb v d ∧ AskI d ∧ (innerD d = none → ∀ H', Same H H' → Q .non H') ∧
  ∀ rows, innerD d = some rows → ∀ L H2 us, H L = none → Same H H2 → H2 L = some (.lst us) → RowsIn K Hb H2 us rows → Q (.ref L) H2
theorem inn_do {r : List PyData} (h : r.length ≠ 1) : innT "do" r = none := by
  match r, h with
  | [], _ => rfl
  | [_], h => exact absurd rfl h
  | _ :: _ :: _, _ => rfl
theorem inn_try {r : List PyData} (h : r.length ≠ 1) : innT "try" r = none := by
  match r, h with
  | [], _ => rfl
  | [_], h => exact absurd rfl h
  | _ :: _ :: _, _ => rfl
theorem inn_each {r : List PyData} (h : r.length ≠ 2) : innT "each" r = none := by
  match r, h with
  | [], _ => rfl
  | [_], _ => rfl
  | [_, _], h => exact absurd rfl h
  | _ :: _ :: _ :: _, _ => rfl
theorem inn_repeat {r : List PyData} (h : r.length ≠ 2) : innT "repeat" r = none := by
  match r, h with
  | [], _ => rfl
  | [_], _ => rfl
  | [_, _], h => exact absurd rfl h
  | _ :: _ :: _ :: _, _ => rfl
theorem inn_if {r : List PyData} (h : r.length ≠ 4) : innT "if" r = none := by
  match r, h with
  | [], _ => rfl
  | [_], _ => rfl
  | [_, _], _ => rfl
  | [_, _, _], _ => rfl
  | [_, _, _, _], h => exact absurd rfl h
  | _ :: _ :: _ :: _ :: _ :: _, _ => rfl
theorem r_andT {a c : TT} {σ : L2.St} {H : Hp} {R : Bool → Hp → Prop} (h : a σ H fun b H1 => if b = true then c σ H1 R else R false H1) : tAnd a c σ H R := h
theorem inn_no {x : Str} {r : List PyData} (h1 : x ≠ "do") (h2 : x ≠ "try") (h3 : x ≠ "each") (h4 : x ≠ "repeat") (h5 : x ≠ "if") : innT x r = none := by
  unfold innT
  rw [if_neg h1, if_neg h2, if_neg h3, if_neg h4, if_neg h5]
theorem new_of {H H' : Hp} {a : Addr} (s : Same H H') (h : H' a = none) : H a = none := by
  cases z : H a with
  | none => rfl
  | some o => rw [s _ _ z] at h; cases h
abbrev s_L_inner : Stmt := top 29
abbrev n_L_inner : List Str := ["_law_step_here"]
abbrev p_L_inner : List Str := ["_law_step_here"]
theorem sc_L_inner : FnScope n_L_inner p_L_inner (defScope s_L_inner) := ⟨rfl, rfl, rfl, by decide +kernel, rfl, by decide +kernel, by decide +kernel⟩
theorem ok_L_inner (T : Txt mg t1 t2 t3 t4 t5 t6) {f : Addr} {fd : FuncData} (F : Fun K "_law_inner" "_law_inner" s_L_inner f fd) (K_is_event : Cal P w K mg base CX0 5 "is_event" p_is_event (spEvt K)) (K_L_is_word : Cal P w K mg base CX0 5 "_law_is_word" p_L_is_word (spD K wordD)) :
    FnOk P w K mg base CX0 6 f fd p_L_inner (spInner K) := by
  refine F.ok sc_L_inner (fun vs H Q E h => by obtain ⟨v, d, Hb, rfl, _⟩ := h; rfl) (fun cdv A outer s H vs Q E hr h => ?_)
  obtain ⟨v, d, Hb, rfl, sb, hd0, ask, kn, ks⟩ := h
  have hu := hr.units
  have hd := Dd.same sb _ _ hd0
  refine ⟨_, (pss_cons (ps_if (PW.pt (pw_or (pt_not (pt_val (pe_callB k_isi (by rfl) T.z_isinstance (by decide +kernel) (pa_cons (pv 0) (pa_cons (pe_bltn (v := .ty "tuple") rfl T.z_tuple (by decide +kernel) rfl) pa_nil))))) (pw_or1 (pt_cmpR o_lt (pe_callB k_len (by rfl) T.z_len (by decide +kernel) (pa_cons (pv 0) pa_nil)) pe_int (nomark _))))) (pss_one (ps_ret pe_non)) pss_nil)
      (pss_cons (ps_if (PW.pt (pw_and (pt_cmpR (k_eq hu) (pe_ix k_ix (pv 0) pe_int (fun _ _ => rfl)) pe_str (nomark _)) (pw_and1 (pt_cmpR (k_eq hu) (pe_callB k_len (by rfl) T.z_len (by decide +kernel) (pa_cons (pv 0) pa_nil)) pe_int (nomark _))))) (pss_one (ps_ret (pe_ifExp (pt_val (pe_cal K_is_event (hr.mono (by decide)) pass0 (pa_cons (pe_ix k_ix (pv 0) pe_int (fun _ _ => rfl)) pa_nil))) (pe_lst pa_nil) pe_non))) pss_nil)
      (pss_cons (ps_if (PW.pt (pw_and (pt_cmpR (k_eq hu) (pe_ix k_ix (pv 0) pe_int (fun _ _ => rfl)) pe_str (nomark _)) (pw_and1 (pt_cmpR (k_eq hu) (pe_callB k_len (by rfl) T.z_len (by decide +kernel) (pa_cons (pv 0) pa_nil)) pe_int (nomark _))))) (pss_one (ps_ret (pe_lst (pa_cons (pe_lst (pa_cons (pe_ix k_ix (pv 0) pe_int (fun _ _ => rfl)) (pa_cons pe_int pa_nil))) pa_nil)))) pss_nil)
      (pss_cons (ps_if (PW.pt (pw_and (pt_cmpR (k_eq hu) (pe_ix k_ix (pv 0) pe_int (fun _ _ => rfl)) pe_str (nomark _)) (pw_and1 (pt_cmpR (k_eq hu) (pe_callB k_len (by rfl) T.z_len (by decide +kernel) (pa_cons (pv 0) pa_nil)) pe_int (nomark _))))) (pss_one (ps_ret (pe_ifExp (pt_val (pe_cal K_L_is_word (hr.mono (by decide)) pass0 (pa_cons (pe_ix k_ix (pv 0) pe_int (fun _ _ => rfl)) pa_nil))) (pe_lst (pa_cons (pe_lst (pa_cons (pe_ix k_ix (pv 0) pe_int (fun _ _ => rfl)) (pa_cons pe_int pa_nil))) pa_nil)) pe_non))) pss_nil)
      (pss_cons (ps_if (PW.pt (pw_and (pt_cmpR (k_eq hu) (pe_ix k_ix (pv 0) pe_int (fun _ _ => rfl)) pe_str (nomark _)) (pw_and (pt_cmpR (k_eq hu) (pe_callB k_len (by rfl) T.z_len (by decide +kernel) (pa_cons (pv 0) pa_nil)) pe_int (nomark _)) (pw_and (pt_val (pe_callB k_isi (by rfl) T.z_isinstance (by decide +kernel) (pa_cons (pe_ix k_ix (pv 0) pe_int (fun _ _ => rfl)) (pa_cons (pe_bltn (v := .ty "int") rfl T.z_int (by decide +kernel) rfl) pa_nil)))) (pw_and1 (pt_not (pt_val (pe_callB k_isi (by rfl) T.z_isinstance (by decide +kernel) (pa_cons (pe_ix k_ix (pv 0) pe_int (fun _ _ => rfl)) (pa_cons (pe_bltn (v := .ty "bool") rfl T.z_bool (by decide +kernel) rfl) pa_nil)))))))))) (pss_one (ps_ret (pe_ifExp (pt_chain o_le o_le pe_int (pe_ix k_ix (pv 0) pe_int (fun _ _ => rfl)) pe_int) (pe_lst (pa_cons (pe_lst (pa_cons (pe_ix k_ix (pv 0) pe_int (fun _ _ => rfl)) (pa_cons pe_int pa_nil))) pa_nil)) pe_non))) pss_nil)
      (pss_cons (ps_if (PW.pt (pw_and (pt_cmpR (k_eq hu) (pe_ix k_ix (pv 0) pe_int (fun _ _ => rfl)) pe_str (nomark _)) (pw_and (pt_cmpR (k_eq hu) (pe_callB k_len (by rfl) T.z_len (by decide +kernel) (pa_cons (pv 0) pa_nil)) pe_int (nomark _)) (pw_and (pt_val (pe_cal K_L_is_word (hr.mono (by decide)) pass0 (pa_cons (pe_ix k_ix (pv 0) pe_int (fun _ _ => rfl)) pa_nil))) (pw_and1 (pt_val (pe_cal K_L_is_word (hr.mono (by decide)) pass0 (pa_cons (pe_ix k_ix (pv 0) pe_int (fun _ _ => rfl)) pa_nil)))))))) (pss_one (ps_ret (pe_lst (pa_cons (pe_lst (pa_cons (pe_ix k_ix (pv 0) pe_int (fun _ _ => rfl)) (pa_cons pe_int pa_nil))) (pa_cons (pe_lst (pa_cons (pe_ix k_ix (pv 0) pe_int (fun _ _ => rfl)) (pa_cons pe_int pa_nil))) pa_nil))))) pss_nil)
      (pss_one (ps_ret pe_non)))))))), ?_⟩
  walk_at "tx"
  rcases tup_or hd0 with ⟨a, xs, ds, rfl, rfl, ha0, hds, e⟩ | ⟨e, hn⟩
  · rw [e]
    refine iteF ?_
    have ha := sb _ _ ha0
    obtain ⟨⟨⟨o1, o2⟩, hev⟩, hsc⟩ := ask
    walk_at "tx"
    refine r_dec (fun c => ?_) (fun c => ?_)
    · walk_at "tx"
      refine kn ?_ H (Same.refl H)
      match xs, ds, hds, c with
      | [], [], _, _ => rfl
      | [_], [.str x], _, _ => 
        show innT x [] = none
        unfold innT
        repeat (first | rfl | split)
      | [_], [.none], _, _ => rfl
      | [_], [.bool _], _, _ => rfl
      | [_], [.int _], _, _ => rfl
      | [_], [.list _], _, _ => rfl
      | [_], [.tuple _], _, _ => rfl
      | [_], [.dict _], _, _ => rfl
      | _ :: _ :: _, _, _, c => exact absurd c (by rw [List.length_cons, List.length_cons]; omega)
    · skip
      walk_at "tx"
      cases hds with
      | nil => exact absurd (by decide) c
      | cons h0 hr' =>
        rename_i v0 vs d0 dr
        have hl := hr'.length
        have sc0 := hsc d0 dr rfl
        rcases str_or d0 with ⟨x, rfl⟩ | hn
        · cases h0
          refine r_ixT ha (v := .str x) (atI_nat (j := 0) rfl) ?_
          walk_at "tx"
          refine r_dec (fun c => ?_) (fun c_0 => ?_)
          · subst c
            walk_at "tx"
            refine r_dec (fun c2 => ?_) (fun c2 => ?_)
            · skip
              obtain ⟨v1, d1, rfl, rfl, h1⟩ := dd1 hr' (by rw [List.length_cons] at c2; omega)
              walk_at "tx"
              refine ⟨v1, d1, rfl, Dd.same sb _ _ h1, o2.2.1, hev d1 rfl, fun H1 s1 => ?_⟩
              walk_at "tx"
              refine r_bool (fun c5 => ?_) (fun c5 => ?_)
              · walk_at "tx"
                refine a_lst (by simp) fun L H2 n2 s2 e2 => ?_
                refine ks [] (by show (if eventD d1 = true then some [] else none) = some []; rw [if_pos c5]) L H2 [] (new_of s1 n2) (s1.trans s2) e2 True.intro
              · walk_at "tx"
                exact kn (by show (if eventD d1 = true then some [] else none) = none; rw [if_neg (by rw [c5]; decide)]) H1 s1
            · walk_at "tx"
              refine r_ixT ha (v := .str "do") (atI_nat (j := 0) rfl) ?_
              walk_at "tx"
              refine r_dec (fun c => absurd c (by decide)) (fun _ => ?_)
              walk_at "tx"
              refine r_ixT ha (v := .str "do") (atI_nat (j := 0) rfl) ?_
              walk_at "tx"
              refine r_dec (fun c => absurd c (by decide)) (fun _ => ?_)
              walk_at "tx"
              refine r_ixT ha (v := .str "do") (atI_nat (j := 0) rfl) ?_
              walk_at "tx"
              refine r_dec (fun c => absurd c (by decide)) (fun _ => ?_)
              walk_at "tx"
              refine r_ixT ha (v := .str "do") (atI_nat (j := 0) rfl) ?_
              walk_at "tx"
              refine r_dec (fun c => absurd c (by decide)) (fun _ => ?_)
              walk_at "tx"
              refine kn (inn_do ?_) H (Same.refl H)
              rw [List.length_cons] at c2
              omega
          · walk_at "tx"
            refine r_ixT ha (v := .str x) (atI_nat (j := 0) rfl) ?_
            walk_at "tx"
            refine r_dec (fun c => ?_) (fun c_1 => ?_)
            · subst c
              walk_at "tx"
              refine r_dec (fun c2 => ?_) (fun c2 => ?_)
              · skip
                obtain ⟨v1, d1, rfl, rfl, h1⟩ := dd1 hr' (by rw [List.length_cons] at c2; omega)
                walk_at "tx"
                refine a_lst (by simp) fun R H2 n2 s2 e2 => ?_
                walk_at "tx"
                refine a_lst (by simp) fun L H3 n3 s3 e3 => ?_
                exact ks [(d1, 1)] rfl L H3 _ (new_of s2 n3) (s2.trans s3) e3 ⟨⟨R, v1, rfl, s3 _ _ e2, h1⟩, True.intro⟩
              · walk_at "tx"
                refine r_ixT ha (v := .str "try") (atI_nat (j := 0) rfl) ?_
                walk_at "tx"
                refine r_dec (fun c => absurd c (by decide)) (fun _ => ?_)
                walk_at "tx"
                refine r_ixT ha (v := .str "try") (atI_nat (j := 0) rfl) ?_
                walk_at "tx"
                refine r_dec (fun c => absurd c (by decide)) (fun _ => ?_)
                walk_at "tx"
                refine r_ixT ha (v := .str "try") (atI_nat (j := 0) rfl) ?_
                walk_at "tx"
                refine r_dec (fun c => absurd c (by decide)) (fun _ => ?_)
                walk_at "tx"
                refine kn (inn_try ?_) H (Same.refl H)
                rw [List.length_cons] at c2
                omega
            · walk_at "tx"
              refine r_ixT ha (v := .str x) (atI_nat (j := 0) rfl) ?_
              walk_at "tx"
              refine r_dec (fun c => ?_) (fun c_2 => ?_)
              · subst c
                walk_at "tx"
                refine r_dec (fun c2 => ?_) (fun c2 => ?_)
                · skip
                  obtain ⟨v1, v2, d1, d2, rfl, rfl, h1, h2⟩ := dd2 hr' (by rw [List.length_cons] at c2; omega)
                  walk_at "tx"
                  refine r_spD (Dd.same sb _ _ h1) o2.2.1 fun H1 s1 => ?_
                  have ha1 := s1 _ _ ha
                  walk_at "tx"
                  refine r_bool (fun c5 => ?_) (fun c5 => ?_)
                  · walk_at "tx"
                    refine a_lst (by simp) fun R H2 n2 s2 e2 => ?_
                    walk_at "tx"
                    refine a_lst (by simp) fun L H3 n3 s3 e3 => ?_
                    exact ks [(d2, 1)] (by show (if wordD d1 = true then some [(d2, 1)] else none) = _; rw [if_pos c5]) L H3 _ (new_of (s1.trans s2) n3) ((s1.trans s2).trans s3) e3 ⟨⟨R, v2, rfl, s3 _ _ e2, h2⟩, True.intro⟩
                  · walk_at "tx"
                    exact kn (by show (if wordD d1 = true then some [(d2, 1)] else none) = _; rw [if_neg (by rw [c5]; decide)]) H1 s1
                · walk_at "tx"
                  refine r_ixT ha (v := .str "each") (atI_nat (j := 0) rfl) ?_
                  walk_at "tx"
                  refine r_dec (fun c => absurd c (by decide)) (fun _ => ?_)
                  walk_at "tx"
                  refine r_ixT ha (v := .str "each") (atI_nat (j := 0) rfl) ?_
                  walk_at "tx"
                  refine r_dec (fun c => absurd c (by decide)) (fun _ => ?_)
                  walk_at "tx"
                  refine kn (inn_each ?_) H (Same.refl H)
                  rw [List.length_cons] at c2
                  omega
              · walk_at "tx"
                refine r_ixT ha (v := .str x) (atI_nat (j := 0) rfl) ?_
                walk_at "tx"
                refine r_dec (fun c => ?_) (fun c_3 => ?_)
                · subst c
                  walk_at "tx"
                  refine r_dec (fun c2 => ?_) (fun c2 => ?_)
                  · skip
                    obtain ⟨v1, v2, d1, d2, rfl, rfl, h1, h2⟩ := dd2 hr' (by rw [List.length_cons] at c2; omega)
                    have h1s := Dd.same sb _ _ h1
                    refine r_andT ?_
                    walk_at "tx"
                    have cno : isOf d1 "int" = false ∨ isOf d1 "bool" = true → countD d1 = false := fun h => by
                      cases d1 with
                      | int i => rcases h with h | h
                                 · rw [show isOf (.int i) "int" = true from isN_int.2.2.1] at h; cases h
                                 · rw [show isOf (.int i) "bool" = false from isN_bool.2.2.1] at h; cases h
                      | _ => rfl
                    have noc : countD d1 = false → innerD (.tuple [.str "repeat", d1, d2]) = none := fun z => by
                      show (if countD d1 = true then some [(d2, 1)] else none) = none
                      rw [if_neg (by rw [z]; decide)]
                    refine r_bool (fun c6 => ?_) (fun c6 => ?_)
                    · walk_at "tx"
                      refine r_boolN (fun c7 => ?_) (fun c7 => ?_)
                      · obtain ⟨i, rfl⟩ : ∃ i, d1 = .int i := by
                          rcases isInt_or d1 with ⟨_, _, i, e⟩ | ⟨_, h2, _⟩ | ⟨h1, _⟩
                          · exact ⟨i, e⟩
                          · rw [c7] at h2; cases h2
                          · rw [c6] at h1; cases h1
                        cases h1
                        walk_at "tx"
                        refine r_dec (fun c8 => ?_) (fun c8 => ?_)
                        · walk_at "tx"
                          refine r_dec (fun c9 => ?_) (fun c9 => ?_)
                          · walk_at "tx"
                            refine a_lst (by simp) fun R H2 n2 s2 e2 => ?_
                            walk_at "tx"
                            refine a_lst (by simp) fun L H3 n3 s3 e3 => ?_
                            exact ks [(d2, 1)] (by show (if countD (.int i) = true then some [(d2, 1)] else none) = _; rw [if_pos (by simp [countD, c8, c9])]) L H3 _ (new_of s2 n3) (s2.trans s3) e3 ⟨⟨R, v2, rfl, s3 _ _ e2, h2⟩, True.intro⟩
                          · walk_at "tx"
                            exact kn (noc (by simp [countD, c9])) H (Same.refl H)
                        · walk_at "tx"
                          exact kn (noc (by simp [countD, c8])) H (Same.refl H)
                      · walk_at "tx"
                        refine r_dec (fun c => absurd c (by decide)) (fun _ => ?_)
                        walk_at "tx"
                        exact kn (noc (cno (.inr c7))) H (Same.refl H)
                    · refine iteF ?_
                      walk_at "tx"
                      refine r_dec (fun c => absurd c (by decide)) (fun _ => ?_)
                      walk_at "tx"
                      exact kn (noc (cno (.inl c6))) H (Same.refl H)
                  · walk_at "tx"
                    refine r_ixT ha (v := .str "repeat") (atI_nat (j := 0) rfl) ?_
                    walk_at "tx"
                    refine r_dec (fun c => absurd c (by decide)) (fun _ => ?_)
                    walk_at "tx"
                    refine kn (inn_repeat ?_) H (Same.refl H)
                    rw [List.length_cons] at c2
                    omega
                · walk_at "tx"
                  refine r_ixT ha (v := .str x) (atI_nat (j := 0) rfl) ?_
                  walk_at "tx"
                  refine r_dec (fun c => ?_) (fun c_4 => ?_)
                  · subst c
                    walk_at "tx"
                    refine r_dec (fun c2 => ?_) (fun c2 => ?_)
                    · skip
                      obtain ⟨v1, v2, v3, v4, d1, d2, d3, d4, rfl, rfl, h1, h2, h3, h4⟩ := dd4 hr' (by rw [List.length_cons] at c2; omega)
                      refine r_andT ?_
                      walk_at "tx"
                      refine r_spD (Dd.same sb _ _ h1) o2.2.1 fun H1 s1 => ?_
                      have ha1 := s1 _ _ ha
                      walk_at "tx"
                      have noc : ¬ (wordD d1 = true ∧ wordD d2 = true) → innerD (.tuple [.str "if", d1, d2, d3, d4]) = none := fun z => by
                        show (if wordD d1 = true ∧ wordD d2 = true then some [(d3, 1), (d4, 0)] else none) = none
                        rw [if_neg z]
                      refine r_bool (fun c6 => ?_) (fun c6 => ?_)
                      · walk_at "tx"
                        refine r_spD (Dd.same (sb.trans s1) _ _ h2) o2.2.2.1 fun H2 s2 => ?_
                        have ha2 := s2 _ _ ha1
                        walk_at "tx"
                        refine r_bool (fun c7 => ?_) (fun c7 => ?_)
                        · walk_at "tx"
                          refine a_lst (by simp) fun R H3 n3 s3 e3 => ?_
                          have ha3 := s3 _ _ ha2
                          walk_at "tx"
                          refine a_lst (by simp) fun R2 H4 n4 s4 e4 => ?_
                          walk_at "tx"
                          refine a_lst (by simp) fun L H5 n5 s5 e5 => ?_
                          have s14 := ((s1.trans s2).trans s3).trans s4
                          exact ks [(d3, 1), (d4, 0)] (by show (if wordD d1 = true ∧ wordD d2 = true then some [(d3, 1), (d4, 0)] else none) = _; rw [if_pos ⟨c6, c7⟩]) L H5 _ (new_of s14 n5) (s14.trans s5) e5 ⟨⟨R, v3, rfl, s5 _ _ (s4 _ _ e3), h3⟩, ⟨R2, v4, rfl, s5 _ _ e4, h4⟩, True.intro⟩
                        · walk_at "tx"
                          exact kn (noc fun z => by rw [z.2] at c7; cases c7) H2 (s1.trans s2)
                      · refine iteF ?_
                        walk_at "tx"
                        exact kn (noc fun z => by rw [z.1] at c6; cases c6) H1 s1
                    · walk_at "tx"
                      refine kn (inn_if ?_) H (Same.refl H)
                      rw [List.length_cons] at c2
                      omega
                  · walk_at "tx"
                    exact kn (inn_no c_0 c_1 c_2 c_3 c_4) H (Same.refl H)
        · have v0s : ∀ y : Str, scal v0 (.str y) = true ∧ decide (v0 = .str y) = false := by
            intro y
            cases h0 with
            | non => exact ⟨rfl, rfl⟩
            | bl b => exact ⟨rfl, rfl⟩
            | int i => exact ⟨rfl, rfl⟩
            | str x => exact absurd rfl (hn x)
            | _ => cases sc0
          refine r_ixT ha (v := v0) (atI_nat (j := 0) rfl) ?_
          walk_at "tx"
          refine .inl ⟨(v0s _).1, ?_⟩
          rw [(v0s _).2]
          refine ⟨_, rfl, ?_⟩
          refine iteF ?_
          walk_at "tx"
          refine r_ixT ha (v := v0) (atI_nat (j := 0) rfl) ?_
          walk_at "tx"
          refine .inl ⟨(v0s _).1, ?_⟩
          rw [(v0s _).2]
          refine ⟨_, rfl, ?_⟩
          refine iteF ?_
          walk_at "tx"
          refine r_ixT ha (v := v0) (atI_nat (j := 0) rfl) ?_
          walk_at "tx"
          refine .inl ⟨(v0s _).1, ?_⟩
          rw [(v0s _).2]
          refine ⟨_, rfl, ?_⟩
          refine iteF ?_
          walk_at "tx"
          refine r_ixT ha (v := v0) (atI_nat (j := 0) rfl) ?_
          walk_at "tx"
          refine .inl ⟨(v0s _).1, ?_⟩
          rw [(v0s _).2]
          refine ⟨_, rfl, ?_⟩
          refine iteF ?_
          walk_at "tx"
          refine r_ixT ha (v := v0) (atI_nat (j := 0) rfl) ?_
          walk_at "tx"
          refine .inl ⟨(v0s _).1, ?_⟩
          rw [(v0s _).2]
          refine ⟨_, rfl, ?_⟩
          refine iteF ?_
          walk_at "tx"
          refine kn ?_ H (Same.refl H)
          cases d0 with
          | str x => exact absurd rfl (hn x)
          | _ => rfl
  · rw [e]
    refine iteT ?_
    walk_at "tx"
    refine kn ?_ H (Same.refl H)
    cases d with
    | tuple ds => exact absurd rfl (hn ds)
    | _ => rfl
end
end K75

set_option Elab.async false
set_option linter.all false
set_option maxRecDepth 100000
set_option maxHeartbeats 4000000
namespace K75
open PySem PySem.Spec PyProof.Rows L2 Tk
local macro_rules | `(tactic| walk_at "rd1") => `(tactic| first
  | with_reducible refine r_seq ?_
  | ((with_reducible refine r_var (v := ?vv) ?hrv ?_); (case hrv => rfl))
  | with_reducible refine r_c ?_
  | with_reducible refine r_op ?_
  | ((with_reducible refine r_ixL (xs := ?xx) (v := ?vv) ?hh ?he ?_); (case hh => first | assumption | exact upd_same); (case he => rfl))
  | with_reducible refine r_asg ?_
  | with_reducible refine r_sub ?_
  | ((with_reducible refine r_gTup (xs := ?xx) ?hh ?he ?_); (case hh => assumption); (case he => rfl))
  | with_reducible refine r_gCons ?_
  | with_reducible refine r_gNil ?_
  | ((with_reducible refine r_setL (xs := ?xx) (j := ?vv) ?hh ?he ?_); (case hh => first | assumption | exact upd_same); (case he => rfl))
  | with_reducible refine r_pow15 ?_
  | with_reducible refine r_pow18 ?_
  | with_reducible refine r_repr ?_
  | with_reducible refine iteT ?_
  | with_reducible refine iteF ?_
  | with_reducible refine r_cons ?_
  | with_reducible refine r_nil ?_
  | with_reducible refine r_call ?_
  | with_reducible refine r_cb ?_
  | with_reducible refine r_ret ?_
  | with_reducible refine r_gName ?_
  | with_reducible refine r_next ?_
  | with_reducible refine r_ifS ?_
  | with_reducible refine r_un ?_
  | with_reducible refine r_U ?_
  | with_reducible refine r_max2 ?_
  | with_reducible refine r_min2 ?_
  | with_reducible refine r_sl ?_
  | with_reducible refine r_noPart ?_
  | with_reducible refine r_part ?_
  | with_reducible refine r_inti ?_
  | with_reducible refine r_lc ?_
  | with_reducible refine r_for ?_
  | with_reducible refine r_rng1 ?_
  | with_reducible refine r_iList ?_
  | with_reducible refine r_iTup ?_
  | with_reducible refine r_iStr ?_
  | with_reducible refine r_strx ?_
  | ((with_reducible refine r_j ?hh ?hi ?_); (case hh => omega); (case hi => omega))
  | with_reducible refine r_m1 ?_
  | with_reducible refine r_test ?_
  | with_reducible refine r_B ?_
  | with_reducible refine r_not ?_
  | with_reducible refine r_and ?_
  | with_reducible refine r_or ?_
  | with_reducible refine r_andV ?_
  | with_reducible refine r_orV ?_
  | with_reducible refine r_notV ?_
  | with_reducible refine r_if ?_
  | with_reducible refine r_chain ?_
  | with_reducible refine r_lst ?_
  | with_reducible refine r_tup ?_
  | with_reducible refine r_k ?_
  | ((with_reducible refine r_isiS (d := ?dd) ?hh ?_); (case hh => assumption))
  | ((with_reducible refine r_isiT (d := ?dd) ?hh ?_); (case hh => assumption))
  | ((with_reducible refine r_isiI (d := ?dd) ?hh ?_); (case hh => assumption))
  | ((with_reducible refine r_isiB (d := ?dd) ?hh ?_); (case hh => assumption))
  | ((with_reducible refine r_lenS ?hh ?_); (case hh => assumption))
  | ((with_reducible refine r_lenT (xs := ?dd) ?hh ?_); (case hh => assumption))
  | ((with_reducible refine r_ixT (xs := ?xx) (v := ?vv) ?hh ?he ?_); (case hh => assumption); (case he => rfl))
  | with_reducible refine r_isN ?_
  | with_reducible refine r_I0 ?_
  | with_reducible refine g_addI ?_
  | ((with_reducible refine r_mod ?hh ?_); (case hh => first | decide | omega))
  | ((with_reducible refine r_div ?hh ?hi ?_); (case hh => first | decide | omega); (case hi => first | decide | omega))
  | ((with_reducible refine g_mulB ?hh ?hi ?_); (case hh => omega); (case hi => omega))
  | with_reducible refine g_ltI ?_
  | with_reducible refine g_leI ?_
  | with_reducible refine g_gtI ?_
  | with_reducible refine g_geI ?_
  | with_reducible refine g_eqI ?_
  | with_reducible refine g_neI ?_
  | with_reducible refine g_eqS ?_
  | with_reducible refine g_neS ?_
  | with_reducible refine g_leS ?_
  | with_reducible refine g_ltS ?_)
local macro_rules | `(tactic| walk_at "rd") => `(tactic| repeat (walk_at "rd1"))
local macro_rules | `(tactic| walk_at "ed") => `(tactic| repeat first
  | exact ed_int
  | exact ed_str
  | exact ed_bl
  | exact ed_non
  | exact ed_nil
  | exact ed_dct
  | exact ed_neg
  | with_reducible apply ed_cons
  | with_reducible apply ed_tup
  | with_reducible apply ed_lst
  | exact Nat.le_of_ble_eq_true rfl)
local macro_rules | `(tactic| walk_at "tx1") => `(tactic| first
  | walk_at "rd1"
  | with_reducible refine r_callS ?_
  | with_reducible refine r_zipA ?_
  | with_reducible refine r_par ?_
  | with_reducible refine r_pair ?_
  | with_reducible refine r_pow6 ?_
  | with_reducible refine r_m0 ?_
  | with_reducible refine r_bm ?_
  | with_reducible refine r_isS ?_
  | with_reducible refine r_told ?_
  | with_reducible refine r_js ?_
  | with_reducible refine r_jsNil ?_
  | with_reducible refine r_repl ?_
  | ((with_reducible refine r_gLst (xs := ?xx) ?hh ?he ?_); (case hh => assumption); (case he => rfl))
  | ((with_reducible refine r_lenL (xs := ?xx) ?hh ?_); (case hh => assumption)))
local macro_rules | `(tactic| walk_at "tx") => `(tactic| repeat (walk_at "tx1"))
section
variable {t1 t2 t3 t4 t5 t6 : Tok} {P : Program} {w : World} {K : PySem.W.Frag} {mg : Str → Option Value} {base : Heap}
def cntL (c : PyData → Nat → Nat) : List PyData → Nat → Nat
  | [], acc => acc
  | s :: r, acc => match innerD s with
    | none => 1000
    | some rows => cntL c r (acc + 1 + (rows.map fun q => c q.1 q.2).sum)
def cntD : Nat → PyData → Nat → Nat
  | 0, .tuple ss, least => if ss.length < least ∨ ss ≠ [] then 1000 else 0
  | n + 1, .tuple ss, least => if ss.length < least then 1000 else cntL (cntD n) ss 0
  | _, _, _ => 1000
def AskC : Nat → PyData → Prop
  | 0, d => d.plain = true ∧ d.depth ≤ 60
  | n + 1, d => ∀ ss, d = .tuple ss → ∀ s ∈ ss, AskI s ∧ ∀ rows, innerD s = some rows → ∀ q ∈ rows, AskC n q.1
def spCount (K : PySem.W.Frag) (n : Nat) : Sp := fun vs H Q _ => ∃ (v : V) (d : PyData) (Hb : Hp) (least : Nat), vs = [v, .int (7 - (n : Int)), .int (least : Int)] ∧ Same Hb H ∧ Dd K Hb v d ∧ AskC n d ∧ ∀ H', Same H H' → Q (.int (cntD n d least : Nat)) H'
theorem cntD_no {n : Nat} {d : PyData} {l : Nat} (h : ∀ ds, d ≠ .tuple ds) : cntD n d l = 1000 := by
  cases d with
  | tuple ds => exact absurd rfl (h ds)
  | _ => cases n <;> rfl
theorem RowsIn.len {H0 H : Hp} : ∀ {vs : List V} {qs : List (PyData × Nat)}, RowsIn K H0 H vs qs → vs.length = qs.length
  | [], [], _ => rfl
  | [], _ :: _, h => h.elim
  | _ :: _, [], h => h.elim
  | v :: vs, q :: qs, h => congrArg Nat.succ h.2.len
theorem RowsIn.get {H0 H : Hp} : ∀ {vs : List V} {qs : List (PyData × Nat)}, RowsIn K H0 H vs qs → ∀ {i : Nat} {v : V}, vs[i]? = some v → ∃ q, qs[i]? = some q ∧ RowAt K H0 H v q
  | [], _, _, i, v, e => by simp at e
  | _ :: _, [], h, _, _, _ => h.elim
  | v :: vs, q :: qs, h, 0, u, e => by
    simp at e
    subst e
    exact ⟨q, rfl, h.1⟩
  | v :: vs, q :: qs, h, i + 1, u, e => by
    obtain ⟨r, e1, e2⟩ := RowsIn.get h.2 (i := i) (v := u) (by simpa using e)
    exact ⟨r, by simpa using e1, e2⟩
abbrev s_L_count : Stmt := top 30
abbrev n_L_count : List Str := ["_law_plan_here", "_law_deep", "_law_least", "_law_many", "_law_step_here", "_law_inner_here", "_law_one", "_law_few"]
abbrev p_L_count : List Str := ["_law_plan_here", "_law_deep", "_law_least"]
theorem sc_L_count : FnScope n_L_count p_L_count (defScope s_L_count) := ⟨rfl, rfl, rfl, by decide +kernel, rfl, by decide +kernel, by decide +kernel⟩
theorem ok_L_count (T : Txt mg t1 t2 t3 t4 t5 t6) {k0 : Nat} (hk : 8 ≤ k0) {f : Addr} {fd : FuncData} (F : Fun K "_law_count" "_law_count" s_L_count f fd) (n : Nat) (spR : Sp) (hR : ∀ m, n = m + 1 → spR = spCount K m) (n6 : n ≤ 6)
    (K_L_inner : Cal P w K mg base CX0 6 "_law_inner" p_L_inner (spInner K)) (K_L_count : Cal P w K mg base CX0 k0 "_law_count" p_L_count spR) : FnOk P w K mg base CX0 (k0 + 1) f fd p_L_count (spCount K n) := by
  refine F.ok sc_L_count (fun vs H Q E h => by obtain ⟨v, d, Hb, l, rfl, _⟩ := h; rfl) (fun cdv A outer s H vs Q E hr h => ?_)
  obtain ⟨v, d, Hb, least, rfl, sb, hd0, ask, k⟩ := h
  have hu := hr.units
  have hd := Dd.same sb _ _ hd0
  refine ⟨_, (pss_cons (ps_if (PW.pt (pw_or (pt_not (pt_val (pe_callB k_isi (by rfl) T.z_isinstance (by decide +kernel) (pa_cons (pv 0) (pa_cons (pe_bltn (v := .ty "tuple") rfl T.z_tuple (by decide +kernel) rfl) pa_nil))))) (pw_or (pt_cmpR o_lt (pe_callB k_len (by rfl) T.z_len (by decide +kernel) (pa_cons (pv 0) pa_nil)) (pv 2) (nomark _)) (pw_or1 (PW.pt (pw_and (pt_cmpR o_gt (pv 1) pe_int (nomark _)) (pw_and1 (pt_cmpR (k_neP hu) (pv 0) (pe_tup pa_nil) (nomark _))))))))) (pss_one (ps_ret pe_int)) pss_nil)
      (pss_cons (ps_set (i := 3) sc_L_count.nd rfl (by first | exact Or.inl rfl | exact Or.inr rfl) pe_int)
      (pss_cons (ps_for PassesOwn.never rfl (k_tup (pv 0)) (pg_name (i := 4) sc_L_count.nd rfl (by first | exact Or.inl rfl | exact Or.inr rfl))
      (pss_cons (ps_set (i := 5) sc_L_count.nd rfl (by first | exact Or.inl rfl | exact Or.inr rfl) (pe_cal K_L_inner (hr.mono (by omega)) pass0 (pa_cons (pv 4) pa_nil)))
      (pss_cons (ps_if (pt_cmpR o_isN (pv 5) pe_non (nomark _)) (pss_one (ps_ret pe_int)) pss_nil)
      (pss_cons (ps_set (i := 3) sc_L_count.nd rfl (by first | exact Or.inl rfl | exact Or.inr rfl) (pe_op k_add (pv 3) pe_int))
      (pss_one (ps_for PassesOwn.never rfl (k_list (pv 5)) (k_glst (n := 2) rfl (pgs_cons (pg_name (i := 6) sc_L_count.nd rfl (by first | exact Or.inl rfl | exact Or.inr rfl)) (pgs_cons (pg_name (i := 7) sc_L_count.nd rfl (by first | exact Or.inl rfl | exact Or.inr rfl)) pgs_nil)))
      (pss_one (ps_set (i := 3) sc_L_count.nd rfl (by first | exact Or.inl rfl | exact Or.inr rfl) (pe_op k_add (pv 3) (pe_cal K_L_count (hr.mono (by omega)) pass0 (pa_cons (pv 6) (pa_cons (pe_op k_add (pv 1) pe_int) (pa_cons (pv 7) pa_nil)))))))))))))
      (pss_one (ps_ret (pv 3)))))), ?_⟩
  walk_at "tx"
  rcases tup_or hd0 with ⟨a, xs, ds, rfl, rfl, ha0, hds, e⟩ | ⟨e, hn⟩
  · rw [e]
    refine iteF ?_
    have ha := sb _ _ ha0
    have hl := hds.length
    walk_at "tx"
    refine r_dec (fun c => ?_) (fun c => ?_)
    · walk_at "tx"
      have q := k H (Same.refl H)
      have z : cntD n (.tuple ds) least = 1000 := by
        cases n with
        | zero => show (if ds.length < least ∨ ds ≠ [] then 1000 else 0) = 1000; rw [if_pos (.inl (by omega))]
        | succ n => show (if ds.length < least then 1000 else _) = 1000; rw [if_pos (by omega)]
      rw [z] at q
      exact q
    · walk_at "tx"
      refine r_dec (fun c1 => ?_) (fun c1 => ?_)
      · obtain rfl : n = 0 := by omega
        walk_at "tx"
        refine a_tup (by simp) fun T1 H1 n1 s1 e1 => ?_
        walk_at "tx"
        refine ⟨.tuple ds, .tuple [], Dd.same s1 _ _ hd, .tup e1 .nil, ask.1, rfl, ask.2, ?_⟩
        cases hds with
        | cons h0 h1 =>
          refine ⟨_, rfl, ?_⟩
          rw [if_pos (show (!PyData.eqv (.tuple (_ :: _)) (.tuple [])) = true from rfl)]
          walk_at "tx"
          have q := k H1 s1
          have z : ∀ (x : PyData) (l : List PyData), cntD 0 (.tuple (x :: l)) least = 1000 := fun x l => by
            show (if _ ∨ x :: l ≠ [] then 1000 else 0) = 1000
            rw [if_pos (.inr (by simp))]
          rw [z] at q
          exact q
        | nil =>
          refine ⟨_, rfl, ?_⟩
          rw [if_neg (show ¬ (!PyData.eqv (.tuple []) (.tuple [])) = true from by decide)]
          have ha1 := s1 _ _ ha
          walk_at "tx"
          refine ⟨a, rfl, ⟨_, SqT.of ha1⟩, ?_⟩
          refine for_it (walk_tup (xs := [])) (fun i σ H' => (∃ o4 o5 o6 o7, σ = [some (.ref a), some (.int (7 - ((0 : Nat) : Int))), some (.int (least : Int)), some (.int 0), o4, o5, o6, o7]) ∧ Same H1 H') ⟨⟨_, _, _, _, rfl⟩, Same.refl _⟩ (fun i σ H' _ p => SqT.of (p.2 _ _ ha1)) (fun i x σ H2 H3 hi => absurd hi (Nat.not_lt_zero _)) ?_
          rintro σ H2 ⟨⟨o4, o5, o6, o7, rfl⟩, s2⟩
          walk_at "tx"
          have q := k H2 (s1.trans s2)
          have z : cntD 0 (.tuple []) least = 0 := by
            show (if ([] : List PyData).length < least ∨ ([] : List PyData) ≠ [] then 1000 else 0) = 0
            have lz : least = 0 := by
              have c : ¬ (([] : List V).length : Int) < (least : Int) := c
              simp at c
              omega
            rw [if_neg (by rw [lz]; simp)]
          rw [z] at q
          exact q
      · obtain ⟨m, rfl⟩ : ∃ m, n = m + 1 := ⟨n - 1, by omega⟩
        have eR := hR m rfl
        subst eR
        walk_at "tx"
        refine ⟨a, rfl, ⟨_, SqT.of ha⟩, ?_⟩
        have tot : cntD (m + 1) (.tuple ds) least = cntL (cntD m) ds 0 := by
          show (if ds.length < least then 1000 else _) = _
          rw [if_neg (by omega)]
        have ask := ask ds rfl
        refine for_it (walk_tup (xs := xs)) (fun i σ H' => ∃ (acc : Nat) (o4 o5 o6 o7 : Option V), σ = [some (.ref a), some (.int (7 - ((m + 1 : Nat) : Int))), some (.int (least : Int)), some (.int (acc : Int)), o4, o5, o6, o7] ∧ Same H H' ∧ cntL (cntD m) (ds.drop i) acc = cntL (cntD m) ds 0) ⟨0, _, _, _, _, rfl, Same.refl H, rfl⟩ (fun i σ H' _ p => by obtain ⟨_, _, _, _, _, _, p, _⟩ := p; exact SqT.of (p _ _ ha)) ?_ ?_
        · rintro i x σ H2 H2' hi ⟨acc, o4, o5, o6, o7, rfl, s2, inv⟩ ⟨rfl, hx⟩
          obtain ⟨d1, hd1, dd1⟩ := DdAll.get hds hx
          obtain ⟨ask1, ask2⟩ := ask d1 (List.mem_of_getElem? hd1)
          have hdrop : ds.drop i = d1 :: ds.drop (i + 1) := by
            have hlt : i < ds.length := by omega
            rw [List.drop_eq_getElem_cons hlt]
            rw [List.getElem?_eq_getElem hlt] at hd1
            rw [Option.some.inj hd1]
          rw [hdrop] at inv
          walk_at "tx"
          refine ⟨x, d1, Hb, rfl, sb.trans s2, dd1, ask1, fun z H3 s3 => ?_, fun rows er L H3 us nL s3 eL rin => ?_⟩
          · walk_at "tx"
            refine r_dec (fun _ => ?_) (fun c => absurd rfl c)
            walk_at "tx"
            have q := k H3 (s2.trans s3)
            have e1 : cntL (cntD m) (d1 :: ds.drop (i + 1)) acc = 1000 := by
              rw [cntL, z]
            rw [tot, ← inv, e1] at q
            exact q
          · walk_at "tx"
            refine r_dec (fun c => by cases c) (fun _ => ?_)
            walk_at "tx"
            refine ⟨L, rfl, ⟨_, SqL.of eL⟩, ?_⟩
            have ask2 := ask2 rows er
            have lrow := rin.len
            refine for_it (walk_list (xs := us)) (fun j σ H' => ∃ (o4 o5 o6 o7 : Option V), σ = [some (.ref a), some (.int (7 - ((m + 1 : Nat) : Int))), some (.int (least : Int)), some (.int ((acc + 1 + ((rows.take j).map fun q => cntD m q.1 q.2).sum : Nat) : Int)), o4, o5, o6, o7] ∧ Same H3 H') ⟨_, _, _, _, rfl, Same.refl _⟩ (fun j σ H' _ p => by obtain ⟨_, _, _, _, _, p⟩ := p; exact SqL.of (p _ _ eL)) ?_ ?_
            · rintro j y σ H4 H4' hj ⟨o4, o5, o6, o7, rfl, s4⟩ ⟨rfl, hy⟩
              obtain ⟨q, hq, R, pv, rfl, eR, dq⟩ := rin.get hy
              have eR4 := s4 _ _ eR
              walk_at "tx"
              have e3 : (7 - ((m + 1 : Nat) : Int)) + 1 = 7 - (m : Int) := by omega
              refine ⟨pv, q.1, Hb, q.2, by rw [e3]; rfl, sb.trans ((s2.trans s3).trans s4), dq, ask2 q (List.mem_of_getElem? hq), fun H5 s5 => ?_⟩
              walk_at "tx"
              refine ⟨o4, o5, some pv, some (.int (q.2 : Int)), ?_, s4.trans s5⟩
              have e4 : ((rows.take (j + 1)).map fun q => cntD m q.1 q.2).sum = ((rows.take j).map fun q => cntD m q.1 q.2).sum + cntD m q.1 q.2 := by
                rw [List.take_succ, hq, List.map_append, List.sum_append]
                simp
              rw [e4, ← Nat.add_assoc]
              rfl
            · rintro σ H4 ⟨o4, o5, o6, o7, rfl, s4⟩
              rw [lrow, List.take_length]
              refine ⟨_, _, _, _, _, rfl, (s2.trans s3).trans s4, ?_⟩
              rw [← inv, cntL, er]
        · rintro σ H2 ⟨acc, o4, o5, o6, o7, rfl, s2, inv⟩
          walk_at "tx"
          have q := k H2 s2
          rw [tot, ← inv, hl, List.drop_length] at q
          exact q
  · rw [e]
    refine iteT ?_
    walk_at "tx"
    have q := k H (Same.refl H)
    rw [cntD_no hn] at q
    exact q
end
end K75

set_option Elab.async false
set_option linter.all false
set_option maxRecDepth 100000
set_option maxHeartbeats 4000000
namespace K75
open PySem PySem.Spec PyProof.Rows L2 Tk
def okRow (q : PyData × Nat) : Bool := if q.2 = 0 then tupB q.1 else fullD q.1
/-- as goodP, but the depth behind the last one may hold an empty plan -/
def good2 : Nat → PyData → Bool
  | 0, .tuple [] => true
  | n + 1, .tuple ss => ss.all fun s => stepD s && (plansD s).all (good2 n)
  | _, _ => false
theorem inner_step (s : PyData) : (innerD s = none ∧ stepD s = false) ∨ ∃ rows, innerD s = some rows ∧ rows.map (·.1) = plansD s ∧ stepD s = rows.all okRow ∧ (∀ q ∈ rows, q.2 ≤ 1) ∧ (rows ≠ [] → ∃ p, (p, 1) ∈ rows) := by
  cases s with
  | tuple ds =>
    cases ds with
    | nil => exact .inl ⟨rfl, rfl⟩
    | cons d0 r =>
      cases d0 with
      | str x =>
        by_cases c1 : x = "do"
        · subst c1
          by_cases l : r.length = 1
          · match r, l with
            | [e], _ =>
              have e1 : innerD (.tuple [.str "do", e]) = if eventD e = true then some [] else none := rfl
              have e2 : stepD (.tuple [.str "do", e]) = eventD e := rfl
              rw [e1, e2]
              by_cases z : eventD e = true
              · rw [if_pos z, z]
                exact .inr ⟨[], rfl, rfl, rfl, fun _ h => (by cases h), fun h => absurd rfl h⟩
              · rw [if_neg z]
                exact .inl ⟨rfl, by simpa using z⟩
          · exact .inl ⟨inn_do l, sT_do l⟩
        · by_cases c2 : x = "try"
          · subst c2
            by_cases l : r.length = 1
            · match r, l with
              | [p], _ =>
                refine .inr ⟨[(p, 1)], rfl, rfl, ?_, fun q h => ?_, fun _ => ⟨p, List.mem_singleton.mpr rfl⟩⟩
                · show fullD p = (fullD p && true)
                  rw [Bool.and_true]
                · rw [List.mem_singleton.mp h]
                  exact Nat.le_refl _
            · exact .inl ⟨inn_try l, sT_try l⟩
          · by_cases c3 : x = "repeat"
            · subst c3
              by_cases l : r.length = 2
              · match r, l with
                | [c, p], _ =>
                  have e1 : innerD (.tuple [.str "repeat", c, p]) = if countD c = true then some [(p, 1)] else none := rfl
                  have e2 : stepD (.tuple [.str "repeat", c, p]) = (countD c && fullD p) := rfl
                  rw [e1, e2]
                  by_cases z : countD c = true
                  · rw [if_pos z, z]
                    refine .inr ⟨[(p, 1)], rfl, rfl, ?_, fun q h => ?_, fun _ => ⟨p, List.mem_singleton.mpr rfl⟩⟩
                    · show (true && fullD p) = (fullD p && true)
                      rw [Bool.and_true, Bool.true_and]
                    · rw [List.mem_singleton.mp h]
                      exact Nat.le_refl _
                  · rw [if_neg z]
                    exact .inl ⟨rfl, by simp [z]⟩
              · exact .inl ⟨inn_repeat l, sT_rep l⟩
            · by_cases c4 : x = "each"
              · subst c4
                by_cases l : r.length = 2
                · match r, l with
                  | [c, p], _ =>
                    have e1 : innerD (.tuple [.str "each", c, p]) = if wordD c = true then some [(p, 1)] else none := rfl
                    have e2 : stepD (.tuple [.str "each", c, p]) = (wordD c && fullD p) := rfl
                    rw [e1, e2]
                    by_cases z : wordD c = true
                    · rw [if_pos z, z]
                      refine .inr ⟨[(p, 1)], rfl, rfl, ?_, fun q h => ?_, fun _ => ⟨p, List.mem_singleton.mpr rfl⟩⟩
                      · show (true && fullD p) = (fullD p && true)
                        rw [Bool.and_true, Bool.true_and]
                      · rw [List.mem_singleton.mp h]
                        exact Nat.le_refl _
                    · rw [if_neg z]
                      exact .inl ⟨rfl, by simp [z]⟩
                · exact .inl ⟨inn_each l, sT_each l⟩
              · by_cases c5 : x = "if"
                · subst c5
                  by_cases l : r.length = 4
                  · match r, l with
                    | [a, b, p, o], _ =>
                      have e1 : innerD (.tuple [.str "if", a, b, p, o]) = if wordD a = true ∧ wordD b = true then some [(p, 1), (o, 0)] else none := rfl
                      have e2 : stepD (.tuple [.str "if", a, b, p, o]) = (wordD a && (wordD b && (fullD p && tupB o))) := rfl
                      rw [e1, e2]
                      by_cases z : wordD a = true ∧ wordD b = true
                      · rw [if_pos z, z.1, z.2]
                        refine .inr ⟨[(p, 1), (o, 0)], rfl, rfl, ?_, fun q h => ?_, fun _ => ⟨p, List.mem_cons_self ..⟩⟩
                        · show (true && (true && (fullD p && tupB o))) = (fullD p && (tupB o && true))
                          rw [Bool.and_true, Bool.true_and, Bool.true_and]
                        · simp only [List.mem_cons, List.not_mem_nil, or_false] at h
                          rcases h with rfl | rfl
                          · exact Nat.le_refl _
                          · exact Nat.zero_le _
                      · rw [if_neg z]
                        refine .inl ⟨rfl, ?_⟩
                        by_cases w1 : wordD a = true
                        · have w2 : wordD b = false := by simpa using fun w2 => z ⟨w1, w2⟩
                          rw [w1, w2]
                          rfl
                        · have w1 : wordD a = false := by simpa using w1
                          rw [w1]
                          rfl
                  · exact .inl ⟨inn_if l, sT_if l⟩
                · exact .inl ⟨inn_no c1 c2 c4 c3 c5, sT_no c1 c2 c3 c4 c5⟩
      | _ => exact .inl ⟨rfl, rfl⟩
  | _ => exact .inl ⟨rfl, rfl⟩
theorem good_same : ∀ (n : Nat) (d : PyData), goodP (n + 1) d = good2 (n + 1) d
  | 0, .tuple ss => by
    show (ss.all fun s => stepD s && (plansD s).all (goodP 0)) = ss.all fun s => stepD s && (plansD s).all (good2 0)
    congr 1
    funext s
    rcases inner_step s with ⟨_, e⟩ | ⟨rows, _, e2, e3, _, e5⟩
    · rw [e, Bool.false_and, Bool.false_and]
    · by_cases hr : rows = []
      · subst hr
        rw [← e2]
        rfl
      · obtain ⟨p, hp⟩ := e5 hr
        have mp : p ∈ plansD s := by rw [← e2]; exact List.mem_map.mpr ⟨_, hp, rfl⟩
        cases hs : stepD s with
        | false => rfl
        | true =>
          rw [hs] at e3
          have fp : fullD p = true := List.all_eq_true.mp e3.symm _ hp
          have g1 : (plansD s).all (goodP 0) = false := by
            rw [Bool.eq_false_iff]
            intro z
            exact absurd (List.all_eq_true.mp z p mp) (by simp [goodP])
          have g2 : (plansD s).all (good2 0) = false := by
            rw [Bool.eq_false_iff]
            intro z
            have := List.all_eq_true.mp z p mp
            cases p with
            | tuple ds =>
              cases ds with
              | nil => cases fp
              | cons _ _ => cases this
            | _ => cases fp
          rw [g1, g2]
  | n + 1, .tuple ss => by
    show (ss.all fun s => stepD s && (plansD s).all (goodP (n + 1))) = ss.all fun s => stepD s && (plansD s).all (good2 (n + 1))
    have e : goodP (n + 1) = good2 (n + 1) := funext (good_same n)
    rw [e]
  | n, .none => by cases n <;> rfl
  | n, .bool _ => by cases n <;> rfl
  | n, .int _ => by cases n <;> rfl
  | n, .str _ => by cases n <;> rfl
  | n, .list _ => by cases n <;> rfl
  | n, .dict _ => by cases n <;> rfl
theorem cntL_big (c : PyData → Nat → Nat) : ∀ (ss : List PyData) (acc : Nat), 1000 ≤ acc → 1000 ≤ cntL c ss acc
  | [], _, h => h
  | s :: r, acc, h => by
    rw [cntL]
    split
    · exact Nat.le_refl _
    · exact cntL_big c r _ (by omega)
theorem cnt_main : ∀ (n : Nat) (d : PyData) (l : Nat), l ≤ 1 → (okRow (d, l) = true → good2 n d = true → cntD n d l = sizeP n d) ∧ ((okRow (d, l) && good2 n d) = false → 1000 ≤ cntD n d l) := by
  have other : ∀ (n : Nat) (d : PyData) (l : Nat), (∀ ds, d ≠ .tuple ds) → (okRow (d, l) = true → good2 n d = true → cntD n d l = sizeP n d) ∧ ((okRow (d, l) && good2 n d) = false → 1000 ≤ cntD n d l) := by
    intro n d l h
    rw [cntD_no h]
    refine ⟨fun o g => ?_, fun _ => Nat.le_refl _⟩
    cases d with
    | tuple ds => exact absurd rfl (h ds)
    | _ => cases n <;> cases g
  intro n
  induction n with
  | zero =>
    intro d l hl
    cases d with
    | tuple ss =>
      have e : cntD 0 (.tuple ss) l = if ss.length < l ∨ ss ≠ [] then 1000 else 0 := rfl
      rw [e]
      cases ss with
      | nil =>
        cases l with
        | zero => exact ⟨fun _ _ => by rw [if_neg (by simp)]; rfl, fun h => by cases h⟩
        | succ l =>
          obtain rfl : l = 0 := by omega
          exact ⟨fun h => (by cases h), fun _ => by rw [if_pos (.inl (by simp))]; exact Nat.le_refl _⟩
      | cons a r => exact ⟨fun _ h => (by cases h), fun _ => by rw [if_pos (.inr (by simp))]; exact Nat.le_refl _⟩
    | _ => exact other _ _ _ (fun _ h => by cases h)
  | succ n ih =>
    intro d l hl
    cases d with
    | tuple ss =>
      have e : cntD (n + 1) (.tuple ss) l = if ss.length < l then 1000 else cntL (cntD n) ss 0 := rfl
      have row : ∀ (rows : List (PyData × Nat)), (∀ q ∈ rows, q.2 ≤ 1) → (rows.all okRow = true → (rows.map (·.1)).all (good2 n) = true → (rows.map fun q => cntD n q.1 q.2).sum = ((rows.map (·.1)).map (sizeP n)).sum) ∧ ((rows.all okRow && (rows.map (·.1)).all (good2 n)) = false → 1000 ≤ (rows.map fun q => cntD n q.1 q.2).sum) := by
        intro rows
        induction rows with
        | nil => intro _; exact ⟨fun _ _ => rfl, fun h => by cases h⟩
        | cons q r ihr =>
          intro hq
          obtain ⟨i1, i2⟩ := ihr fun x h => hq x (List.mem_cons_of_mem _ h)
          obtain ⟨j1, j2⟩ := ih q.1 q.2 (hq q (List.mem_cons_self ..))
          rw [List.all_cons, List.map_cons, List.map_cons, List.sum_cons, List.all_cons, List.map_cons, List.sum_cons]
          refine ⟨fun h1 h2 => ?_, fun h => ?_⟩
          · rw [Bool.and_eq_true] at h1 h2
            rw [j1 h1.1 h2.1, i1 h1.2 h2.2]
          · by_cases c : (okRow q && good2 n q.1) = false
            · have := j2 c
              omega
            · have c : (okRow q && good2 n q.1) = true := by simpa using c
              rw [Bool.and_eq_true] at c
              rw [c.1, c.2, Bool.true_and, Bool.true_and] at h
              have := i2 h
              omega
      have lst : ∀ (ss : List PyData) (acc : Nat), ((ss.all fun s => stepD s && (plansD s).all (good2 n)) = true → cntL (cntD n) ss acc = acc + (ss.length + (ss.map fun s => ((plansD s).map (sizeP n)).sum).sum)) ∧ ((ss.all fun s => stepD s && (plansD s).all (good2 n)) = false → 1000 ≤ cntL (cntD n) ss acc) := by
        intro ss
        induction ss with
        | nil => intro acc; exact ⟨fun _ => rfl, fun h => by cases h⟩
        | cons s r ihs =>
          intro acc
          rw [List.all_cons, List.length_cons, List.map_cons, List.sum_cons]
          rcases inner_step s with ⟨e1, e2⟩ | ⟨rows, e1, e2, e3, e4, _⟩
          · rw [cntL, e1, e2]
            exact ⟨fun h => (by cases h), fun _ => Nat.le_refl _⟩
          · rw [cntL, e1]
            obtain ⟨r1, r2⟩ := row rows e4
            rw [e2] at r1 r2
            rw [← e3] at r1 r2
            have ihh := ihs (acc + 1 + (rows.map fun q => cntD n q.1 q.2).sum)
            refine ⟨fun h => ?_, fun h => ?_⟩
            · rw [Bool.and_eq_true, Bool.and_eq_true] at h
              show cntL (cntD n) r _ = _
              rw [ihh.1 h.2, r1 h.1.1 h.1.2]
              omega
            · show 1000 ≤ cntL (cntD n) r _
              by_cases c : (stepD s && (plansD s).all (good2 n)) = false
              · exact cntL_big _ _ _ (by have := r2 c; omega)
              · have c : (stepD s && (plansD s).all (good2 n)) = true := by simpa using c
                rw [c, Bool.true_and] at h
                exact ihh.2 h
      rw [e]
      have g : good2 (n + 1) (.tuple ss) = ss.all fun s => stepD s && (plansD s).all (good2 n) := rfl
      have z : sizeP (n + 1) (.tuple ss) = ss.length + (ss.map fun s => ((plansD s).map (sizeP n)).sum).sum := rfl
      obtain ⟨l1, l2⟩ := lst ss 0
      rw [g, z]
      by_cases hlen : ss.length < l
      · have hs : ss = [] := by
          cases ss with
          | nil => rfl
          | cons _ _ => rw [List.length_cons] at hlen; omega
        subst hs
        have hl1 : l = 1 := by simp at hlen; omega
        subst hl1
        rw [if_pos hlen]
        exact ⟨fun h => (by cases h), fun _ => Nat.le_refl _⟩
      · rw [if_neg hlen]
        have ok : okRow (.tuple ss, l) = true := by
          cases l with
          | zero => rfl
          | succ l =>
            cases ss with
            | nil => simp at hlen
            | cons _ _ => rfl
        refine ⟨fun _ h => ?_, fun h => ?_⟩
        · rw [l1 h, Nat.zero_add]
        · rw [ok, Bool.true_and] at h
          exact l2 h
    | _ => exact other _ _ _ (fun _ h => by cases h)
theorem plan_count (d : PyData) : decide (cntD 6 d 0 ≤ 200) = planD d := by
  obtain ⟨c1, c2⟩ := cnt_main 6 d 0 (by decide)
  unfold planD
  rw [good_same 5 d]
  by_cases g : good2 6 d = true
  · have o : okRow (d, 0) = true := by
      cases d with
      | tuple ss => rfl
      | _ => cases g
    rw [c1 o g, g, Bool.true_and]
  · have g : good2 6 d = false := by simpa using g
    have h := c2 (by rw [g, Bool.and_false])
    rw [g, Bool.false_and, decide_eq_false_iff_not]
    omega
end K75

set_option Elab.async false
set_option linter.all false
set_option maxRecDepth 100000
set_option maxHeartbeats 4000000
namespace K75
open PySem PySem.Spec PyProof.Rows L2 Tk
local macro_rules | `(tactic| walk_at "rd1") => `(tactic| first
  | with_reducible refine r_seq ?_
  | ((with_reducible refine r_var (v := ?vv) ?hrv ?_); (case hrv => rfl))
  | with_reducible refine r_c ?_
  | with_reducible refine r_op ?_
  | ((with_reducible refine r_ixL (xs := ?xx) (v := ?vv) ?hh ?he ?_); (case hh => first | assumption | exact upd_same); (case he => rfl))
  | with_reducible refine r_asg ?_
  | with_reducible refine r_sub ?_
  | ((with_reducible refine r_gTup (xs := ?xx) ?hh ?he ?_); (case hh => assumption); (case he => rfl))
  | with_reducible refine r_gCons ?_
  | with_reducible refine r_gNil ?_
  | ((with_reducible refine r_setL (xs := ?xx) (j := ?vv) ?hh ?he ?_); (case hh => first | assumption | exact upd_same); (case he => rfl))
  | with_reducible refine r_pow15 ?_
  | with_reducible refine r_pow18 ?_
  | with_reducible refine r_repr ?_
  | with_reducible refine iteT ?_
  | with_reducible refine iteF ?_
  | with_reducible refine r_cons ?_
  | with_reducible refine r_nil ?_
  | with_reducible refine r_call ?_
  | with_reducible refine r_cb ?_
  | with_reducible refine r_ret ?_
  | with_reducible refine r_gName ?_
  | with_reducible refine r_next ?_
  | with_reducible refine r_ifS ?_
  | with_reducible refine r_un ?_
  | with_reducible refine r_U ?_
  | with_reducible refine r_max2 ?_
  | with_reducible refine r_min2 ?_
  | with_reducible refine r_sl ?_
  | with_reducible refine r_noPart ?_
  | with_reducible refine r_part ?_
  | with_reducible refine r_inti ?_
  | with_reducible refine r_lc ?_
  | with_reducible refine r_for ?_
  | with_reducible refine r_rng1 ?_
  | with_reducible refine r_iList ?_
  | with_reducible refine r_iTup ?_
  | with_reducible refine r_iStr ?_
  | with_reducible refine r_strx ?_
  | ((with_reducible refine r_j ?hh ?hi ?_); (case hh => omega); (case hi => omega))
  | with_reducible refine r_m1 ?_
  | with_reducible refine r_test ?_
  | with_reducible refine r_B ?_
  | with_reducible refine r_not ?_
  | with_reducible refine r_and ?_
  | with_reducible refine r_or ?_
  | with_reducible refine r_andV ?_
  | with_reducible refine r_orV ?_
  | with_reducible refine r_notV ?_
  | with_reducible refine r_if ?_
  | with_reducible refine r_chain ?_
  | with_reducible refine r_lst ?_
  | with_reducible refine r_tup ?_
  | with_reducible refine r_k ?_
  | ((with_reducible refine r_isiS (d := ?dd) ?hh ?_); (case hh => assumption))
  | ((with_reducible refine r_isiT (d := ?dd) ?hh ?_); (case hh => assumption))
  | ((with_reducible refine r_isiI (d := ?dd) ?hh ?_); (case hh => assumption))
  | ((with_reducible refine r_isiB (d := ?dd) ?hh ?_); (case hh => assumption))
  | ((with_reducible refine r_lenS ?hh ?_); (case hh => assumption))
  | ((with_reducible refine r_lenT (xs := ?dd) ?hh ?_); (case hh => assumption))
  | ((with_reducible refine r_ixT (xs := ?xx) (v := ?vv) ?hh ?he ?_); (case hh => assumption); (case he => rfl))
  | with_reducible refine r_isN ?_
  | with_reducible refine r_I0 ?_
  | with_reducible refine g_addI ?_
  | ((with_reducible refine r_mod ?hh ?_); (case hh => first | decide | omega))
  | ((with_reducible refine r_div ?hh ?hi ?_); (case hh => first | decide | omega); (case hi => first | decide | omega))
  | ((with_reducible refine g_mulB ?hh ?hi ?_); (case hh => omega); (case hi => omega))
  | with_reducible refine g_ltI ?_
  | with_reducible refine g_leI ?_
  | with_reducible refine g_gtI ?_
  | with_reducible refine g_geI ?_
  | with_reducible refine g_eqI ?_
  | with_reducible refine g_neI ?_
  | with_reducible refine g_eqS ?_
  | with_reducible refine g_neS ?_
  | with_reducible refine g_leS ?_
  | with_reducible refine g_ltS ?_)
local macro_rules | `(tactic| walk_at "rd") => `(tactic| repeat (walk_at "rd1"))
local macro_rules | `(tactic| walk_at "ed") => `(tactic| repeat first
  | exact ed_int
  | exact ed_str
  | exact ed_bl
  | exact ed_non
  | exact ed_nil
  | exact ed_dct
  | exact ed_neg
  | with_reducible apply ed_cons
  | with_reducible apply ed_tup
  | with_reducible apply ed_lst
  | exact Nat.le_of_ble_eq_true rfl)
local macro_rules | `(tactic| walk_at "tx1") => `(tactic| first
  | walk_at "rd1"
  | with_reducible refine r_callS ?_
  | with_reducible refine r_zipA ?_
  | with_reducible refine r_par ?_
  | with_reducible refine r_pair ?_
  | with_reducible refine r_pow6 ?_
  | with_reducible refine r_m0 ?_
  | with_reducible refine r_bm ?_
  | with_reducible refine r_isS ?_
  | with_reducible refine r_told ?_
  | with_reducible refine r_js ?_
  | with_reducible refine r_jsNil ?_
  | with_reducible refine r_repl ?_
  | ((with_reducible refine r_gLst (xs := ?xx) ?hh ?he ?_); (case hh => assumption); (case he => rfl))
  | ((with_reducible refine r_lenL (xs := ?xx) ?hh ?_); (case hh => assumption)))
local macro_rules | `(tactic| walk_at "tx") => `(tactic| repeat (walk_at "tx1"))
section
variable {t1 t2 t3 t4 t5 t6 : Tok} {P : Program} {w : World} {K : PySem.W.Frag} {mg : Str → Option Value} {base : Heap}
/-! ### data that may be asked -/
structure Basic (m : Nat) (d : PyData) : Prop where
  ok : okD d
  pl : d.plain = true
  dp : d.depth ≤ m
theorem Basic.up {m n : Nat} {d : PyData} (h : Basic m d) (l : m ≤ n) : Basic n d := ⟨h.ok, h.pl, Nat.le_trans h.dp l⟩
theorem ok_all : ∀ {ds : List PyData}, (∀ d ∈ ds, okD d) → okAll ds
  | [], _ => True.intro
  | d :: ds, h => ⟨h d (List.mem_cons_self ..), ok_all fun x m => h x (List.mem_cons_of_mem _ m)⟩
theorem pl_all : ∀ {ds : List PyData}, (∀ d ∈ ds, d.plain = true) → PyData.plainAll ds = true
  | [], _ => rfl
  | d :: ds, h => by
    show (d.plain && PyData.plainAll ds) = true
    rw [h d (List.mem_cons_self ..), pl_all fun x m => h x (List.mem_cons_of_mem _ m)]
    rfl
theorem dp_all {m : Nat} : ∀ {ds : List PyData}, (∀ d ∈ ds, d.depth ≤ m) → PyData.depthAll ds ≤ m
  | [], _ => Nat.zero_le _
  | d :: ds, h => by
    show max d.depth (PyData.depthAll ds) ≤ m
    exact Nat.max_le.mpr ⟨h d (List.mem_cons_self ..), dp_all fun x k => h x (List.mem_cons_of_mem _ k)⟩
theorem Basic.tup {m : Nat} {ds : List PyData} (h : ∀ d ∈ ds, Basic m d) (l : ds.length ≤ 1000) : Basic (m + 1) (.tuple ds) :=
  ⟨⟨Nat.le_trans l (by decide), ok_all fun d k => (h d k).ok⟩, pl_all fun d k => (h d k).pl, Nat.succ_le_succ (dp_all fun d k => (h d k).dp)⟩
def Fit : Nat → PyData → Prop
  | 0, d => Basic 60 d
  | n + 1, d => Basic 60 d ∧ ∀ ss, d = .tuple ss → ∀ s ∈ ss, AskI s ∧ ∀ q ∈ plansD s, Fit n q
theorem Fit.basic : ∀ {n : Nat} {d : PyData}, Fit n d → Basic 60 d
  | 0, _, h => h
  | _ + 1, _, h => h.1
theorem fit_askP : ∀ {n : Nat} {d : PyData}, Fit n d → AskP n d
  | 0, d, h => h.ok
  | n + 1, d, h => ⟨h.1.ok, fun ss e s m => ⟨(h.2 ss e s m).1.1, fun q k => fit_askP ((h.2 ss e s m).2 q k)⟩⟩
theorem fit_askC : ∀ {n : Nat} {d : PyData}, Fit n d → AskC n d
  | 0, d, h => ⟨h.pl, h.dp⟩
  | n + 1, d, h => fun ss e s m => ⟨(h.2 ss e s m).1, fun rows er q k => by
    rcases inner_step s with ⟨e1, _⟩ | ⟨rows', e1, e2, _⟩
    · rw [e1] at er; cases er
    · rw [e1] at er
      cases er
      exact fit_askC ((h.2 ss e s m).2 q.1 (by rw [← e2]; exact List.mem_map.mpr ⟨q, k, rfl⟩))⟩
/-- what a step of a plan may be -/
structure StepF (m : Nat) (d : PyData) : Prop where
  ba : Basic m d
  ask : AskI d
  pls : ∀ q ∈ plansD d, ∀ n, Fit n q
theorem StepF.up {m n : Nat} {d : PyData} (h : StepF m d) (l : m ≤ n) : StepF n d := ⟨h.ba.up l, h.ask, h.pls⟩
theorem fit_plan {m : Nat} {ss : List PyData} (h : ∀ s ∈ ss, StepF m s) (l : ss.length ≤ 1000) (hm : m ≤ 59) (n : Nat) : Fit n (.tuple ss) := by
  have b : Basic 60 (.tuple ss) := (Basic.tup (fun d k => (h d k).ba) l).up (by omega)
  cases n with
  | zero => exact b
  | succ n => exact ⟨b, fun ss' e s k => by cases e; exact ⟨(h s k).ask, fun q z => (h s k).pls q z n⟩⟩
theorem fit_flat {d : PyData} (b : Basic 60 d) (h : ∀ ss, d ≠ .tuple ss) (n : Nat) : Fit n d := by
  cases n with
  | zero => exact b
  | succ n => exact ⟨b, fun ss e => absurd e (h ss)⟩
theorem basic_str {x : Str} (l : x.length ≤ 100000) : Basic 0 (.str x) := ⟨l, rfl, Nat.le_refl _⟩
theorem basic_int {i : Int} : Basic 0 (.int i) := ⟨True.intro, rfl, Nat.le_refl _⟩
theorem basic_non : Basic 0 .none := ⟨True.intro, rfl, Nat.le_refl _⟩
/-- a step that is written with its word first -/
theorem stepF_of {m : Nat} {x : Str} {r : List PyData} (lx : x.length ≤ 10) (h : ∀ d ∈ r, Basic m d) (l : r.length ≤ 10) (hd : ∀ e, x = "do" → r = [e] → fewI e) (hp : ∀ q ∈ plansD (.tuple (.str x :: r)), ∀ n, Fit n q) : StepF (m + 1) (.tuple (.str x :: r)) := by
  have b : Basic (m + 1) (.tuple (.str x :: r)) := Basic.tup (fun d k => by
    rcases List.mem_cons.mp k with rfl | k
    · exact (basic_str (by omega)).up (Nat.zero_le _)
    · exact h d k) (by rw [List.length_cons]; omega)
  refine ⟨b, ⟨⟨b.ok, fun e z => ?_⟩, fun d0 r' z => ?_⟩, hp⟩
  · cases z
    exact hd e rfl rfl
  · cases z
    rfl
theorem StepF.do_ {m : Nat} {e : PyData} (b : Basic m e) (f : fewI e) : StepF (m + 1) (.tuple [.str "do", e]) :=
  stepF_of (by decide) (fun d k => by rw [List.mem_singleton.mp k]; exact b) (by simp) (fun e' _ z => by cases z; exact f) (fun q k => by cases k)
theorem StepF.try_ {m : Nat} {p : PyData} (b : Basic m p) (f : ∀ n, Fit n p) : StepF (m + 1) (.tuple [.str "try", p]) :=
  stepF_of (by decide) (fun d k => by rw [List.mem_singleton.mp k]; exact b) (by simp) (fun _ z => absurd z (by decide)) (fun q k => by
    have k : q ∈ [p] := k
    rw [List.mem_singleton.mp k]; exact f)
theorem StepF.rep_ {m : Nat} {c p : PyData} (bc : Basic m c) (b : Basic m p) (f : ∀ n, Fit n p) : StepF (m + 1) (.tuple [.str "repeat", c, p]) :=
  stepF_of (by decide) (fun d k => by
    simp only [List.mem_cons, List.not_mem_nil, or_false] at k
    rcases k with rfl | rfl
    · exact bc
    · exact b) (by simp) (fun _ z => absurd z (by decide)) (fun q k => by
    have k : q ∈ [p] := k
    rw [List.mem_singleton.mp k]; exact f)
theorem StepF.each_ {m : Nat} {c p : PyData} (bc : Basic m c) (b : Basic m p) (f : ∀ n, Fit n p) : StepF (m + 1) (.tuple [.str "each", c, p]) :=
  stepF_of (by decide) (fun d k => by
    simp only [List.mem_cons, List.not_mem_nil, or_false] at k
    rcases k with rfl | rfl
    · exact bc
    · exact b) (by simp) (fun _ z => absurd z (by decide)) (fun q k => by
    have k : q ∈ [p] := k
    rw [List.mem_singleton.mp k]; exact f)
theorem StepF.if_ {m : Nat} {a c p o : PyData} (ba : Basic m a) (bc : Basic m c) (b : Basic m p) (bo : Basic m o) (f : ∀ n, Fit n p) (g : ∀ n, Fit n o) : StepF (m + 1) (.tuple [.str "if", a, c, p, o]) :=
  stepF_of (by decide) (fun d k => by
    simp only [List.mem_cons, List.not_mem_nil, or_false] at k
    rcases k with rfl | rfl | rfl | rfl
    · exact ba
    · exact bc
    · exact b
    · exact bo) (by simp) (fun _ z => absurd z (by decide)) (fun q k => by
    have k : q ∈ [p, o] := k
    simp only [List.mem_cons, List.not_mem_nil, or_false] at k
    rcases k with rfl | rfl
    · exact f
    · exact g)
/-- a drawn step, a drawn plan -/
def PlanF (m : Nat) (d : PyData) : Prop := ∃ ss, d = .tuple ss ∧ ss.length ≤ 3 ∧ ∀ s ∈ ss, StepF m s ∧ flatD s = true ∧ tupB s = true
theorem PlanF.basic {m : Nat} {d : PyData} (h : PlanF m d) : Basic (m + 1) d := by
  obtain ⟨ss, rfl, l, h⟩ := h
  exact Basic.tup (fun d k => (h d k).1.ba) (by omega)
theorem PlanF.fit {m : Nat} {d : PyData} (h : PlanF m d) (hm : m ≤ 59) : ∀ n, Fit n d := by
  obtain ⟨ss, rfl, l, h⟩ := h
  exact fit_plan (fun s k => (h s k).1) (by omega) hm
theorem PlanF.flat {m : Nat} {d : PyData} (h : PlanF m d) : flatD d = true := by
  obtain ⟨ss, rfl, l, h⟩ := h
  exact lsAll_iff.mpr fun s k => (h s k).2.1
def spStepL (K : PySem.W.Frag) (n : Nat) : Sp := fun vs H Q _ => ∃ p : Addr, vs = [.ref p, .int (n : Int)] ∧ PoolAt H p ∧ ∀ v d H', StepF (4 + 3 * n) d → flatD d = true → tupB d = true → Dd K H' v d → Drawn p H H' → Q v H'
def spPlanL (K : PySem.W.Frag) (n : Nat) : Sp := fun vs H Q _ => ∃ (p : Addr) (l : Nat), vs = [.ref p, .int (n : Int), .int (l : Int)] ∧ l ≤ 1 ∧ PoolAt H p ∧ ∀ v d H', PlanF (4 + 3 * n) d → Dd K H' v d → Drawn p H H' → Q v H'
theorem drawn_all {H H' : Hp} {p : Addr} : ∀ {vs : List V} {ds : List PyData}, DdAll K H vs ds → (∀ d ∈ ds, npD d = true) → Drawn p H H' → PoolAt H p → DdAll K H' vs ds
  | [], [], _, _, _, _ => .nil
  | v :: vs, d :: ds, .cons h1 h2, np, D, hp => .cons (Dd.drawn h1 (np d (List.mem_cons_self ..)) D hp) (drawn_all h2 (fun x k => np x (List.mem_cons_of_mem _ k)) D hp)
theorem lc_drawnD {n s : Nat} {p : Addr} {te : TE} {σ : L2.St} {H1 : Hp} {Qd : VK} (hp : PoolAt H1 p) (hn : n ≤ 100000) (Pd : PyData → Prop) (fl : ∀ d, Pd d → flatD d = true)
    (he : ∀ (i : Nat) (H2 : Hp) (R : VK), i < n → PoolAt H2 p → (∀ v d H3, Pd d → Dd K H3 v d → Drawn p H2 H3 → R v H3) → te (σ.set s (some (.int (0 + (i : Int))))) H2 R)
    (hd : ∀ (D : Addr) (H' : Hp) (ys : List V) (ds : List PyData), H1 D = none → Drawn p H1 H' → ds.length = n → (∀ d ∈ ds, Pd d) → H' D = some (.lst ys) → DdAll K H' ys ds → Qd (.ref D) H') :
    LcG (Itr 0 n) (gName s) tYes te [s] σ H1 Qd := by
  intro D hD
  have nD : D ≠ p := by
    obtain ⟨a, b, e, _⟩ := hp
    exact (ne_of_none e hD).symm
  refine lc_range (Qd := fun H' => Qd (.ref D) H') (lo := 0) (n := n) (fun i H' => Drawn p H1 H' ∧ ∃ (ys : List V) (ds : List PyData), ds.length = i ∧ (∀ d ∈ ds, Pd d) ∧ H' D = some (.lst ys) ∧ DdAll K H' ys ds) ⟨Drawn.of hp (Same.new hD), [], [], rfl, (fun _ h => by cases h), upd_same, .nil⟩ ?_ (fun H' ⟨d, ys, ds, e1, e2, e3, e4⟩ => hd D H' ys ds hD d e1 e2 e3 e4)
  rintro i H2 hi ⟨d2, ys, ds, e1, e2, e3, e4⟩
  refine ⟨wipe_set σ s _, ?_⟩
  simp only [tYes, reduceIte, wipe_slot]
  refine he i H2 _ hi d2.pool fun v d H3 hv dv d3 => ?_
  have e5 := d3.kept _ _ e3 nD
  have np : ∀ d ∈ ds, npD d = true := fun d k => np_flat d (fl d (e2 d k))
  have al3 : DdAll K H3 ys ds := drawn_all e4 np d3 d2.pool
  refine ⟨ys, e5, sz_lt (by rw [al3.length]; omega), ?_⟩
  have d5 : Drawn p H1 H3 := d2.trans d3
  have bt : But D H3 (upd H3 D (.lst (ys ++ [v]))) := fun b o h n => by rw [upd_ne n]; exact h
  refine ⟨⟨fun b o h n => by rw [upd_ne (ne_of_none h hD)]; exact d5.kept b o h n, ?_⟩, ys ++ [v], ds ++ [d], by simp [e1], fun y hy => ?_, upd_same, ?_⟩
  · obtain ⟨a, b, e, r⟩ := d5.pool
    exact ⟨a, b, by rw [upd_ne nD.symm]; exact e, r⟩
  · rcases List.mem_append.mp hy with h | h
    · exact e2 y h
    · rw [List.mem_singleton.mp h]; exact hv
  · refine DdAll.append (DdAll.chg (g := fun _ => false) bt ⟨_, e5⟩ (fun _ _ _ _ => rfl) ds ys (lsAll_iff.mpr fun d k => fl d (e2 d k)) al3) (.cons (Dd.but dv (fl d hv) bt ⟨_, e5⟩) .nil)
abbrev s_L_step : Stmt := top 25
abbrev n_L_step : List Str := ["_law_pool_here", "_law_deep", "_law_place", "_law_key", "_law_choice", "_law_some", "_law_inner_here"]
abbrev p_L_step : List Str := ["_law_pool_here", "_law_deep"]
theorem sc_L_step : FnScope n_L_step p_L_step (defScope s_L_step) := ⟨rfl, rfl, rfl, by decide +kernel, rfl, by decide +kernel, by decide +kernel⟩
abbrev s_L_plan : Stmt := top 26
abbrev n_L_plan : List Str := ["_law_pool_here", "_law_deep", "_law_least", "_law_turn"]
abbrev p_L_plan : List Str := ["_law_pool_here", "_law_deep", "_law_least"]
theorem sc_L_plan : FnScope n_L_plan p_L_plan (defScope s_L_plan) := ⟨rfl, rfl, rfl, by decide +kernel, rfl, by decide +kernel, by decide +kernel⟩
theorem ok_L_plan (T : Txt mg t1 t2 t3 t4 t5 t6) {k0 : Nat} (hk : 2 ≤ k0) {f : Addr} {fd : FuncData} (F : Fun K "_law_plan" "_law_plan" s_L_plan f fd) (n : Nat) (K_L_take : Cal P w K mg base CX0 1 "_law_take" p_L_take spTake) (K_L_step : Cal P w K mg base CX0 k0 "_law_step" p_L_step (spStepL K n)) : FnOk P w K mg base CX0 (k0 + 1) f fd p_L_plan (spPlanL K n) := by
  refine F.ok sc_L_plan (fun vs H Q E h => by obtain ⟨p, l, rfl, _⟩ := h; rfl) (fun cdv A outer s H vs Q E hr h => ?_)
  obtain ⟨p, l, rfl, l1, hp, k⟩ := h
  have hu := hr.units
  refine ⟨_, (pss_one (ps_ret (pe_callTy call_tuple_of (by rfl) T.z_tuple (by decide +kernel) (pa_cons (pe_lc (own := [("_law_turn", 3)]) rfl sc_L_plan.nd (pi_range1 rfl T.z_range (pa_cons (pe_op k_add (pv 2) (pe_cal K_L_take (hr.mono (by omega)) pass0 (pa_cons (pv 0) (pa_cons pe_int pa_nil)))) pa_nil)) (blkOk_by (own := [("_law_turn", 3)]) (N := n_L_plan) (sc := defScope s_L_plan) (by decide +kernel)) (fun _ _ _ _ _ => (pg_name (i := 3) sc_L_plan.nd rfl (by first | exact Or.inl rfl | exact Or.inr rfl))) (fun _ _ _ _ _ => pts_nil) (fun _ _ _ _ _ => (pe_cal K_L_step (hr.mono (by omega)) pass0 (pa_cons (pv 0) (pa_cons (pv 1) pa_nil))))) pa_nil)))), ?_⟩
  walk_at "tx"
  refine r_take hp (by decide) (by decide) fun r H1 r0 r1 D1 => ?_
  walk_at "tx"
  refine lc_drawnD (K := K) (n := ((l : Int) + r).toNat) D1.pool (by omega) (fun d => StepF (4 + 3 * n) d ∧ flatD d = true ∧ tupB d = true) (fun d h => h.2.1) (fun i H2 R hi p2 q => ?_) (fun L H2 ys ds nL D2 ll hds eL al => ?_)
  · walk_at "tx"
    exact ⟨p, rfl, p2, fun v d H3 sf fl tp dv D3 => q v d H3 ⟨sf, fl, tp⟩ dv D3⟩
  · walk_at "tx"
    refine ⟨L, ys, rfl, .inl ⟨SqL.of eL, fun T1 n1 => ?_⟩⟩
    have s1 : Same H2 (upd H2 T1 (.tup ys)) := Same.new n1
    exact k _ (.tuple ds) _ ⟨ds, rfl, by omega, hds⟩ (.tup upd_same (DdAll.same s1 _ _ al)) ((D1.trans D2).same s1)
end
end K75

set_option Elab.async false
set_option linter.all false
set_option maxRecDepth 100000
set_option maxHeartbeats 4000000
namespace K75
open PySem PySem.Spec PyProof.Rows L2 Tk
local macro_rules | `(tactic| walk_at "rd1") => `(tactic| first
  | with_reducible refine r_seq ?_
  | ((with_reducible refine r_var (v := ?vv) ?hrv ?_); (case hrv => rfl))
  | with_reducible refine r_c ?_
  | with_reducible refine r_op ?_
  | ((with_reducible refine r_ixL (xs := ?xx) (v := ?vv) ?hh ?he ?_); (case hh => first | assumption | exact upd_same); (case he => rfl))
  | with_reducible refine r_asg ?_
  | with_reducible refine r_sub ?_
  | ((with_reducible refine r_gTup (xs := ?xx) ?hh ?he ?_); (case hh => assumption); (case he => rfl))
  | with_reducible refine r_gCons ?_
  | with_reducible refine r_gNil ?_
  | ((with_reducible refine r_setL (xs := ?xx) (j := ?vv) ?hh ?he ?_); (case hh => first | assumption | exact upd_same); (case he => rfl))
  | with_reducible refine r_pow15 ?_
  | with_reducible refine r_pow18 ?_
  | with_reducible refine r_repr ?_
  | with_reducible refine iteT ?_
  | with_reducible refine iteF ?_
  | with_reducible refine r_cons ?_
  | with_reducible refine r_nil ?_
  | with_reducible refine r_call ?_
  | with_reducible refine r_cb ?_
  | with_reducible refine r_ret ?_
  | with_reducible refine r_gName ?_
  | with_reducible refine r_next ?_
  | with_reducible refine r_ifS ?_
  | with_reducible refine r_un ?_
  | with_reducible refine r_U ?_
  | with_reducible refine r_max2 ?_
  | with_reducible refine r_min2 ?_
  | with_reducible refine r_sl ?_
  | with_reducible refine r_noPart ?_
  | with_reducible refine r_part ?_
  | with_reducible refine r_inti ?_
  | with_reducible refine r_lc ?_
  | with_reducible refine r_for ?_
  | with_reducible refine r_rng1 ?_
  | with_reducible refine r_iList ?_
  | with_reducible refine r_iTup ?_
  | with_reducible refine r_iStr ?_
  | with_reducible refine r_strx ?_
  | ((with_reducible refine r_j ?hh ?hi ?_); (case hh => omega); (case hi => omega))
  | with_reducible refine r_m1 ?_
  | with_reducible refine r_test ?_
  | with_reducible refine r_B ?_
  | with_reducible refine r_not ?_
  | with_reducible refine r_and ?_
  | with_reducible refine r_or ?_
  | with_reducible refine r_andV ?_
  | with_reducible refine r_orV ?_
  | with_reducible refine r_notV ?_
  | with_reducible refine r_if ?_
  | with_reducible refine r_chain ?_
  | with_reducible refine r_lst ?_
  | with_reducible refine r_tup ?_
  | with_reducible refine r_k ?_
  | ((with_reducible refine r_isiS (d := ?dd) ?hh ?_); (case hh => assumption))
  | ((with_reducible refine r_isiT (d := ?dd) ?hh ?_); (case hh => assumption))
  | ((with_reducible refine r_isiI (d := ?dd) ?hh ?_); (case hh => assumption))
  | ((with_reducible refine r_isiB (d := ?dd) ?hh ?_); (case hh => assumption))
  | ((with_reducible refine r_lenS ?hh ?_); (case hh => assumption))
  | ((with_reducible refine r_lenT (xs := ?dd) ?hh ?_); (case hh => assumption))
  | ((with_reducible refine r_ixT (xs := ?xx) (v := ?vv) ?hh ?he ?_); (case hh => assumption); (case he => rfl))
  | with_reducible refine r_isN ?_
  | with_reducible refine r_I0 ?_
  | with_reducible refine g_addI ?_
  | ((with_reducible refine r_mod ?hh ?_); (case hh => first | decide | omega))
  | ((with_reducible refine r_div ?hh ?hi ?_); (case hh => first | decide | omega); (case hi => first | decide | omega))
  | ((with_reducible refine g_mulB ?hh ?hi ?_); (case hh => omega); (case hi => omega))
  | with_reducible refine g_ltI ?_
  | with_reducible refine g_leI ?_
  | with_reducible refine g_gtI ?_
  | with_reducible refine g_geI ?_
  | with_reducible refine g_eqI ?_
  | with_reducible refine g_neI ?_
  | with_reducible refine g_eqS ?_
  | with_reducible refine g_neS ?_
  | with_reducible refine g_leS ?_
  | with_reducible refine g_ltS ?_)
local macro_rules | `(tactic| walk_at "rd") => `(tactic| repeat (walk_at "rd1"))
local macro_rules | `(tactic| walk_at "ed") => `(tactic| repeat first
  | exact ed_int
  | exact ed_str
  | exact ed_bl
  | exact ed_non
  | exact ed_nil
  | exact ed_dct
  | exact ed_neg
  | with_reducible apply ed_cons
  | with_reducible apply ed_tup
  | with_reducible apply ed_lst
  | exact Nat.le_of_ble_eq_true rfl)
local macro_rules | `(tactic| walk_at "tx1") => `(tactic| first
  | walk_at "rd1"
  | with_reducible refine r_callS ?_
  | with_reducible refine r_zipA ?_
  | with_reducible refine r_par ?_
  | with_reducible refine r_pair ?_
  | with_reducible refine r_pow6 ?_
  | with_reducible refine r_m0 ?_
  | with_reducible refine r_bm ?_
  | with_reducible refine r_isS ?_
  | with_reducible refine r_told ?_
  | with_reducible refine r_js ?_
  | with_reducible refine r_jsNil ?_
  | with_reducible refine r_repl ?_
  | ((with_reducible refine r_gLst (xs := ?xx) ?hh ?he ?_); (case hh => assumption); (case he => rfl))
  | ((with_reducible refine r_lenL (xs := ?xx) ?hh ?_); (case hh => assumption)))
local macro_rules | `(tactic| walk_at "tx") => `(tactic| repeat (walk_at "tx1"))
section
variable {t1 t2 t3 t4 t5 t6 : Tok} {P : Program} {w : World} {K : PySem.W.Frag} {mg : Str → Option Value} {base : Heap}
theorem fewI_flat {ds : List PyData} (h : ∀ d ∈ ds, fewD d) : fewI (.tuple ds) := h
theorem keys_ok {d : PyData} (h : d ∈ ([.none, .tuple [], .tuple [.str (Str.ofString "k"), .str (Str.ofString "l")], .tuple [.str (Str.ofString "k")]] : List PyData)) : flatD d = true ∧ Basic 1 d ∧ fewD d := by
  simp only [List.mem_cons, List.not_mem_nil, or_false] at h
  rcases h with rfl | rfl | rfl | rfl
  · exact ⟨rfl, basic_non.up (by decide), True.intro⟩
  · exact ⟨rfl, Basic.tup (m := 0) (fun d k => (by cases k)) (by decide), by show 0 ≤ 60; decide⟩
  · refine ⟨rfl, Basic.tup (m := 0) (fun d k => ?_) (by decide), by show 2 ≤ 60; decide⟩
    simp only [List.mem_cons, List.not_mem_nil, or_false] at k
    rcases k with rfl | rfl <;> exact basic_str (by decide)
  · refine ⟨rfl, Basic.tup (m := 0) (fun d k => ?_) (by decide), by show 1 ≤ 60; decide⟩
    rw [List.mem_singleton.mp k]
    exact basic_str (by decide)
theorem ev_ok {xa xb xd : Str} {dk de : PyData} {i j : Int} (la : xa.length ≤ 10) (lb : xb.length ≤ 10) (ld : xd.length ≤ 10) (f1 : flatD dk = true) (f2 : Basic 1 dk) (f3 : fewD dk)
    (h : de = .tuple [.str "write", .str xa, .str xb, .str xd] ∨ de = .tuple [.str "delete", .str xa, .str xb] ∨ de = .tuple [.str "save", .str xa] ∨ de = .tuple [.str "drop", .str xa, .str xb] ∨ de = .tuple [.str "pass", .str xa, .int i] ∨ de = .tuple [.str "send", .str xa, .str "bob", dk] ∨ de = .tuple [.str "take", .str "bob", .str xa, .int j] ∨ de = .tuple [.str "open", .str "h", .str "bob"]) : flatD de = true ∧ Basic 3 de ∧ fewI de := by
  have sb : ∀ (x : Str) (w : PyData), x.length ≤ 10 → w = .str x → Basic 2 w ∧ fewD w ∧ flatD w = true := fun x w l e => by subst e; exact ⟨(basic_str (by omega)).up (by decide), True.intro, rfl⟩
  have ib : ∀ (x : Int) (w : PyData), w = .int x → Basic 2 w ∧ fewD w ∧ flatD w = true := fun x w e => by subst e; exact ⟨basic_int.up (by decide), True.intro, rfl⟩
  have go : ∀ ds : List PyData, ds.length ≤ 10 → (∀ d ∈ ds, Basic 2 d ∧ fewD d ∧ flatD d = true) → flatD (.tuple ds) = true ∧ Basic 3 (.tuple ds) ∧ fewI (.tuple ds) := fun ds l a => ⟨lsAll_iff.mpr fun d k => (a d k).2.2, Basic.tup (fun d k => (a d k).1) (by omega), fun d k => (a d k).2.1⟩
  rcases h with rfl | rfl | rfl | rfl | rfl | rfl | rfl | rfl
  all_goals
    refine go _ (by simp) fun d k => ?_
    simp only [List.mem_cons, List.not_mem_nil, or_false] at k
  · rcases k with rfl | rfl | rfl | rfl <;> first | exact sb _ _ la rfl | exact sb _ _ lb rfl | exact sb _ _ ld rfl | exact ib _ _ rfl | exact sb _ _ (by decide) rfl | exact ⟨f2.up (by decide), f3, f1⟩
  · rcases k with rfl | rfl | rfl <;> first | exact sb _ _ la rfl | exact sb _ _ lb rfl | exact sb _ _ ld rfl | exact ib _ _ rfl | exact sb _ _ (by decide) rfl | exact ⟨f2.up (by decide), f3, f1⟩
  · rcases k with rfl | rfl <;> first | exact sb _ _ la rfl | exact sb _ _ lb rfl | exact sb _ _ ld rfl | exact ib _ _ rfl | exact sb _ _ (by decide) rfl | exact ⟨f2.up (by decide), f3, f1⟩
  · rcases k with rfl | rfl | rfl <;> first | exact sb _ _ la rfl | exact sb _ _ lb rfl | exact sb _ _ ld rfl | exact ib _ _ rfl | exact sb _ _ (by decide) rfl | exact ⟨f2.up (by decide), f3, f1⟩
  · rcases k with rfl | rfl | rfl <;> first | exact sb _ _ la rfl | exact sb _ _ lb rfl | exact sb _ _ ld rfl | exact ib _ _ rfl | exact sb _ _ (by decide) rfl | exact ⟨f2.up (by decide), f3, f1⟩
  · rcases k with rfl | rfl | rfl | rfl <;> first | exact sb _ _ la rfl | exact sb _ _ lb rfl | exact sb _ _ ld rfl | exact ib _ _ rfl | exact sb _ _ (by decide) rfl | exact ⟨f2.up (by decide), f3, f1⟩
  · rcases k with rfl | rfl | rfl | rfl <;> first | exact sb _ _ la rfl | exact sb _ _ lb rfl | exact sb _ _ ld rfl | exact ib _ _ rfl | exact sb _ _ (by decide) rfl | exact ⟨f2.up (by decide), f3, f1⟩
  · rcases k with rfl | rfl | rfl <;> first | exact sb _ _ la rfl | exact sb _ _ lb rfl | exact sb _ _ ld rfl | exact ib _ _ rfl | exact sb _ _ (by decide) rfl | exact ⟨f2.up (by decide), f3, f1⟩
theorem ok_L_step (T : Txt mg t1 t2 t3 t4 t5 t6) {k0 : Nat} (hk : 2 ≤ k0) {f : Addr} {fd : FuncData} (F : Fun K "_law_step" "_law_step" s_L_step f fd) (n : Nat) (spR : Sp) (hR : ∀ m, n = m + 1 → spR = spPlanL K m) (n3 : n ≤ 3) (K_L_take : Cal P w K mg base CX0 1 "_law_take" p_L_take spTake)
    (K_L_plan : Cal P w K mg base CX0 k0 "_law_plan" p_L_plan spR) : FnOk P w K mg base CX0 (k0 + 1) f fd p_L_step (spStepL K n) := by
  refine F.ok sc_L_step (fun vs H Q E h => by obtain ⟨p, rfl, _⟩ := h; rfl) (fun cdv A outer s H vs Q E hr h => ?_)
  obtain ⟨p, rfl, hp, k⟩ := h
  have hu := hr.units
  refine ⟨_, (pss_cons (ps_par (i := 2) (j := 3) rfl sc_L_step.nd rfl rfl (by decide) rfl rfl (pa_cons (pe_ix k_ix (pe_lst (pa_cons pe_str (pa_cons pe_str (pa_cons pe_str (pa_cons pe_str pa_nil))))) (pe_cal K_L_take (hr.mono (by omega)) pass0 (pa_cons (pv 0) (pa_cons pe_int pa_nil))) (fun _ _ => rfl)) (pa_cons (pe_ix k_ix (pe_lst (pa_cons pe_str (pa_cons pe_str pa_nil))) (pe_cal K_L_take (hr.mono (by omega)) pass0 (pa_cons (pv 0) (pa_cons pe_int pa_nil))) (fun _ _ => rfl)) pa_nil)) (by rfl))
      (pss_cons (ps_set (i := 4) sc_L_step.nd rfl (by first | exact Or.inl rfl | exact Or.inr rfl) (pe_cal K_L_take (hr.mono (by omega)) pass0 (pa_cons (pv 0) (pa_cons pe_int pa_nil))))
      (pss_cons (ps_if (PW.pt (pw_or (pt_cmpR o_lt (pv 4) pe_int (nomark _)) (pw_or1 (pt_cmpR (k_eq hu) (pv 1) pe_int (nomark _))))) (pss_cons (ps_set (i := 5) sc_L_step.nd rfl (by first | exact Or.inl rfl | exact Or.inr rfl) (pe_lst (pa_cons (pe_tup (pa_cons pe_str (pa_cons (pv 2) (pa_cons (pv 3) (pa_cons (pe_ix k_ix (pe_lst (pa_cons pe_str (pa_cons pe_str (pa_cons pe_str (pa_cons pe_str pa_nil))))) (pe_cal K_L_take (hr.mono (by omega)) pass0 (pa_cons (pv 0) (pa_cons pe_int pa_nil))) (fun _ _ => rfl)) pa_nil))))) (pa_cons (pe_tup (pa_cons pe_str (pa_cons (pv 2) (pa_cons (pv 3) pa_nil)))) pa_nil))))
      (pss_cons (ps_set (i := 5) sc_L_step.nd rfl (by first | exact Or.inl rfl | exact Or.inr rfl) (pe_op k_add (pv 5) (pe_lst (pa_cons (pe_tup (pa_cons pe_str (pa_cons (pv 2) pa_nil))) (pa_cons (pe_tup (pa_cons pe_str (pa_cons (pv 2) (pa_cons (pv 3) pa_nil)))) (pa_cons (pe_tup (pa_cons pe_str (pa_cons (pv 2) (pa_cons (pe_op k_add pe_int (pe_cal K_L_take (hr.mono (by omega)) pass0 (pa_cons (pv 0) (pa_cons pe_int pa_nil)))) pa_nil)))) pa_nil))))))
      (pss_cons (ps_set (i := 5) sc_L_step.nd rfl (by first | exact Or.inl rfl | exact Or.inr rfl) (pe_op k_add (pv 5) (pe_lst (pa_cons (pe_tup (pa_cons pe_str (pa_cons (pv 2) (pa_cons pe_str (pa_cons (pe_ix k_ix (pe_lst (pa_cons pe_non (pa_cons (pe_tup pa_nil) (pa_cons (pe_tup (pa_cons pe_str (pa_cons pe_str pa_nil))) (pa_cons (pe_tup (pa_cons pe_str pa_nil)) pa_nil))))) (pe_cal K_L_take (hr.mono (by omega)) pass0 (pa_cons (pv 0) (pa_cons pe_int pa_nil))) (fun _ _ => rfl)) pa_nil))))) pa_nil))))
      (pss_one (ps_ret (pe_tup (pa_cons pe_str (pa_cons (pe_ix k_ix (pe_op k_add (pv 5) (pe_lst (pa_cons (pe_tup (pa_cons pe_str (pa_cons pe_str (pa_cons (pv 2) (pa_cons (pe_cal K_L_take (hr.mono (by omega)) pass0 (pa_cons (pv 0) (pa_cons pe_int pa_nil))) pa_nil))))) (pa_cons (pe_tup (pa_cons pe_str (pa_cons pe_str (pa_cons pe_str pa_nil)))) pa_nil)))) (pe_cal K_L_take (hr.mono (by omega)) pass0 (pa_cons (pv 0) (pa_cons pe_int pa_nil))) (fun _ _ => rfl)) pa_nil)))))))) pss_nil)
      (pss_cons (ps_set (i := 6) sc_L_step.nd rfl (by first | exact Or.inl rfl | exact Or.inr rfl) (pe_cal K_L_plan (hr.mono (by omega)) pass0 (pa_cons (pv 0) (pa_cons (pe_op op_sub (pv 1) pe_int) (pa_cons pe_int pa_nil)))))
      (pss_cons (ps_if (pt_cmpR o_lt (pv 4) pe_int (nomark _)) (pss_one (ps_ret (pe_ix k_ix (pe_lst (pa_cons (pe_tup (pa_cons pe_str (pa_cons (pe_op k_add pe_int (pe_cal K_L_take (hr.mono (by omega)) pass0 (pa_cons (pv 0) (pa_cons pe_int pa_nil)))) (pa_cons (pv 6) pa_nil)))) (pa_cons (pe_tup (pa_cons pe_str (pa_cons (pv 6) pa_nil))) pa_nil))) (pe_op op_sub (pv 4) pe_int) (fun _ _ => rfl)))) pss_nil)
      (pss_cons (ps_if (pt_cmpR (k_eq hu) (pv 4) pe_int (nomark _)) (pss_one (ps_ret (pe_tup (pa_cons pe_str (pa_cons (pv 6) pa_nil))))) pss_nil)
      (pss_cons (ps_if (pt_cmpR (k_eq hu) (pv 4) pe_int (nomark _)) (pss_one (ps_ret (pe_tup (pa_cons pe_str (pa_cons (pe_ix k_ix (pe_lst (pa_cons pe_str (pa_cons pe_str (pa_cons pe_str pa_nil)))) (pe_cal K_L_take (hr.mono (by omega)) pass0 (pa_cons (pv 0) (pa_cons pe_int pa_nil))) (fun _ _ => rfl)) (pa_cons (pv 6) pa_nil)))))) pss_nil)
      (pss_one (ps_ret (pe_tup (pa_cons pe_str (pa_cons (pv 2) (pa_cons (pv 3) (pa_cons (pv 6) (pa_cons (pe_cal K_L_plan (hr.mono (by omega)) pass0 (pa_cons (pv 0) (pa_cons (pe_op op_sub (pv 1) pe_int) (pa_cons pe_int pa_nil)))) pa_nil))))))))))))))), ?_⟩
  walk_at "tx"
  refine a_lst (by simp) fun L1 H1 n1 s1 e1 => ?_
  have p1 := hp.same s1
  walk_at "tx"
  refine r_take p1 (by decide) (by decide) fun ra H2 ra0 ra1 D2 => ?_
  obtain ⟨va, hva, mva⟩ := at_drawn (xs := [V.str "ann", V.str "bob", V.str "h", V.str "zed"]) ra0 (by show ra < ((4 : Nat) : Int); omega)
  refine r_ixL (D2.kept _ _ e1 (hp.ne' n1)) hva ?_
  obtain ⟨xa, rfl, la⟩ := textB_all (n := 10) (by decide) mva
  walk_at "tx"
  refine a_lst (by simp) fun L2 H3 n3 s3 e3 => ?_
  have p3 := D2.pool.same s3
  walk_at "tx"
  refine r_take p3 (by decide) (by decide) fun rb H4 rb0 rb1 D4 => ?_
  obtain ⟨vb, hvb, mvb⟩ := at_drawn (xs := [V.str "k", V.str "l"]) rb0 (by show rb < ((2 : Nat) : Int); omega)
  refine r_ixL (D4.kept _ _ e3 (D2.pool.ne' n3)) hvb ?_
  obtain ⟨xb, rfl, lb⟩ := textB_all (n := 10) (by decide) mvb
  walk_at "tx"
  refine r_take D4.pool (by decide) (by decide) fun rc H5 rc0 rc1 D5 => ?_
  have D05 : Drawn p H H5 := ((((Drawn.of hp s1).trans D2).same s3).trans D4).trans D5
  walk_at "tx"
  refine r_dec (fun c => ?_) (fun c => ?_)
  · walk_at "tx"
    refine a_lst (by simp) fun L3 H6 n6 s6 e6 => ?_
    have p6 := D5.pool.same s6
    walk_at "tx"
    refine r_take p6 (by decide) (by decide) fun rd H7 rd0 rd1 D7 => ?_
    obtain ⟨vd, hvd, mvd⟩ := at_drawn (xs := [V.str "x", V.str "a b", V.str "", V.str " \"\\ "]) rd0 (by show rd < ((4 : Nat) : Int); omega)
    refine r_ixL (D7.kept _ _ e6 (D5.pool.ne' n6)) hvd ?_
    obtain ⟨xd, rfl, ld⟩ := textB_all (n := 10) (by decide) mvd
    walk_at "tx"
    refine a_tup (by simp) fun T1 H8 n8 s8 e8 => ?_
    walk_at "tx"
    refine a_tup (by simp) fun T2 H9 n9 s9 e9 => ?_
    walk_at "tx"
    refine a_lst (by simp) fun L4 H10 n10 s10 e10 => ?_
    walk_at "tx"
    have a10 : DdAll K H10 [V.ref T1, V.ref T2] [.tuple [.str "write", .str xa, .str xb, .str xd], .tuple [.str "delete", .str xa, .str xb]] :=
      .cons (.tup (s10 _ _ (s9 _ _ e8)) (.cons (.str _) (.cons (.str _) (.cons (.str _) (.cons (.str _) .nil))))) (.cons (.tup (s10 _ _ e9) (.cons (.str _) (.cons (.str _) (.cons (.str _) .nil)))) .nil)
    refine a_tup (by simp) fun T3 H11 n11 s11 e11 => ?_
    walk_at "tx"
    refine a_tup (by simp) fun T4 H12 n12 s12 e12 => ?_
    walk_at "tx"
    have D12 : Drawn p H H12 := ((D05.same s6).trans D7).same ((s8.trans s9).trans ((s10.trans s11).trans s12))
    refine r_take D12.pool (by decide) (by decide) fun re H13 re0 re1 D13 => ?_
    have b13 : Dd K H13 (.ref L4) (.list [.tuple [.str "write", .str xa, .str xb, .str xd], .tuple [.str "delete", .str xa, .str xb]]) := Dd.drawn (.lst (s12 _ _ (s11 _ _ e10)) (DdAll.same (s11.trans s12) _ _ a10)) rfl D13 D12.pool
    have c13 : Dd K H13 (.ref T3) (.tuple [.str "save", .str xa]) := Dd.drawn (.tup (s12 _ _ e11) (.cons (.str _) (.cons (.str _) .nil))) rfl D13 D12.pool
    have d13 : Dd K H13 (.ref T4) (.tuple [.str "drop", .str xa, .str xb]) := Dd.drawn (.tup e12 (.cons (.str _) (.cons (.str _) (.cons (.str _) .nil)))) rfl D13 D12.pool
    walk_at "tx"
    refine a_tup (by simp) fun T5 H14 n14 s14 e14 => ?_
    walk_at "tx"
    refine a_lst (by simp) fun L5 H15 n15 s15 e15 => ?_
    walk_at "tx"
    have s1415 := s14.trans s15
    have a15 : Dd K H15 (.ref L5) (.list [.tuple [.str "save", .str xa], .tuple [.str "drop", .str xa, .str xb], .tuple [.str "pass", .str xa, .int (1 + re)]]) :=
      .lst e15 (.cons (Dd.same s1415 _ _ c13) (.cons (Dd.same s1415 _ _ d13) (.cons (.tup (s15 _ _ e14) (.cons (.str _) (.cons (.str _) (.cons (.int _) .nil)))) .nil)))
    refine g_catN (Dd.same s1415 _ _ b13) a15 (by simp) fun L6 x6 H16 n16 s16 e16 a16 => ?_
    have D16 : Drawn p H H16 := (D12.trans D13).same (s1415.trans s16)
    (iterate 16 walk_at "tx1")
    refine ev_use (K := K) (d := (.list [.none, .tuple [], .tuple [.str (Str.ofString "k"), .str (Str.ofString "l")], .tuple [.str (Str.ofString "k")]] : PyData)) (by walk_at "ed") fun v17 H17 s17 d17 => ?_
    have p17 := D16.pool.same s17
    walk_at "tx"
    refine r_take p17 (by decide) (by decide) fun rf H18 rf0 rf1 D18 => ?_
    refine list_at d17 (by decide +kernel) D18 p17 rf0 (by show rf < ((4 : Nat) : Int); omega) fun vk dk mk ddk => ?_
    have fk : flatD dk = true ∧ Basic 1 dk ∧ fewD dk := keys_ok mk
    have nk : lsD npL dk = true := np_flat dk fk.1
    have big := Dd.drawn (.lst (s17 _ _ e16) (DdAll.same s17 _ _ a16)) rfl D18 p17
    walk_at "tx"
    refine a_tup (by simp) fun T6 H19 n19 s19 e19 => ?_
    walk_at "tx"
    refine a_lst (by simp) fun L7 H20 n20 s20 e20 => ?_
    walk_at "tx"
    have a20 : Dd K H20 (.ref L7) (.list [.tuple [.str "send", .str xa, .str "bob", dk]]) := .lst e20 (.cons (.tup (s20 _ _ e19) (.cons (.str _) (.cons (.str _) (.cons (.str _) (.cons (Dd.same (s19.trans s20) _ _ ddk) .nil))))) .nil)
    refine g_catN (Dd.same (s19.trans s20) _ _ big) a20 (by simp) fun L8 x8 H21 n21 s21 e21 a21 => ?_
    have D21 : Drawn p H H21 := (((D16.same s17).trans D18).same ((s19.trans s20).trans s21))
    walk_at "tx"
    refine r_take D21.pool (by decide) (by decide) fun rg H22 rg0 rg1 D22 => ?_
    have big2 := Dd.drawn (.lst e21 a21) (by simp [npD, lsD, lsAll, npL, nk]) D22 D21.pool
    walk_at "tx"
    refine a_tup (by simp) fun T7 H23 n23 s23 e23 => ?_
    walk_at "tx"
    refine a_tup (by simp) fun T8 H24 n24 s24 e24 => ?_
    walk_at "tx"
    refine a_lst (by simp) fun L9 H25 n25 s25 e25 => ?_
    walk_at "tx"
    have a25 : Dd K H25 (.ref L9) (.list [.tuple [.str "take", .str "bob", .str xa, .int rg], .tuple [.str "open", .str "h", .str "bob"]]) :=
      .lst e25 (.cons (.tup (s25 _ _ (s24 _ _ e23)) (.cons (.str _) (.cons (.str _) (.cons (.str _) (.cons (.int _) .nil))))) (.cons (.tup (s25 _ _ e24) (.cons (.str _) (.cons (.str _) (.cons (.str _) .nil)))) .nil))
    refine g_catN (Dd.same ((s23.trans s24).trans s25) _ _ big2) a25 (by simp) fun L10 x10 H26 n26 s26 e26 a26 => ?_
    have D26 : Drawn p H H26 := (D21.trans D22).same (((s23.trans s24).trans s25).trans s26)
    walk_at "tx"
    refine r_take D26.pool (by decide) (by decide) fun rh H27 rh0 rh1 D27 => ?_
    refine list_at (.lst e26 a26) (by simp [npD, lsD, lsAll, npL, nk]) D27 D26.pool rh0 (by simpa using rh1) fun ve de me dde => ?_
    have fe : flatD de = true ∧ Basic 3 de ∧ fewI de := by
      simp only [List.cons_append, List.nil_append, List.mem_cons, List.not_mem_nil, or_false] at me
      exact ev_ok la lb ld fk.1 fk.2.1 fk.2.2 me
    walk_at "tx"
    refine a_tup (by simp) fun T9 H28 n28 s28 e28 => ?_
    exact k _ (.tuple [.str "do", de]) _ ((StepF.do_ fe.2.1 fe.2.2).up (by omega)) (by simp [flatD, lsD, lsAll]; exact fe.1) rfl (.tup e28 (.cons (.str _) (.cons (Dd.same s28 _ _ dde) .nil))) ((D26.trans D27).same s28)
  · walk_at "tx"
    refine r_dec (fun c0 => ?_) (fun c0 => ?_)
    · walk_at "tx"
      refine a_lst (by simp) fun L3 H6 n6 s6 e6 => ?_
      have p6 := D5.pool.same s6
      walk_at "tx"
      refine r_take p6 (by decide) (by decide) fun rd H7 rd0 rd1 D7 => ?_
      obtain ⟨vd, hvd, mvd⟩ := at_drawn (xs := [V.str "x", V.str "a b", V.str "", V.str " \"\\ "]) rd0 (by show rd < ((4 : Nat) : Int); omega)
      refine r_ixL (D7.kept _ _ e6 (D5.pool.ne' n6)) hvd ?_
      obtain ⟨xd, rfl, ld⟩ := textB_all (n := 10) (by decide) mvd
      walk_at "tx"
      refine a_tup (by simp) fun T1 H8 n8 s8 e8 => ?_
      walk_at "tx"
      refine a_tup (by simp) fun T2 H9 n9 s9 e9 => ?_
      walk_at "tx"
      refine a_lst (by simp) fun L4 H10 n10 s10 e10 => ?_
      walk_at "tx"
      have a10 : DdAll K H10 [V.ref T1, V.ref T2] [.tuple [.str "write", .str xa, .str xb, .str xd], .tuple [.str "delete", .str xa, .str xb]] :=
        .cons (.tup (s10 _ _ (s9 _ _ e8)) (.cons (.str _) (.cons (.str _) (.cons (.str _) (.cons (.str _) .nil))))) (.cons (.tup (s10 _ _ e9) (.cons (.str _) (.cons (.str _) (.cons (.str _) .nil)))) .nil)
      refine a_tup (by simp) fun T3 H11 n11 s11 e11 => ?_
      walk_at "tx"
      refine a_tup (by simp) fun T4 H12 n12 s12 e12 => ?_
      walk_at "tx"
      have D12 : Drawn p H H12 := ((D05.same s6).trans D7).same ((s8.trans s9).trans ((s10.trans s11).trans s12))
      refine r_take D12.pool (by decide) (by decide) fun re H13 re0 re1 D13 => ?_
      have b13 : Dd K H13 (.ref L4) (.list [.tuple [.str "write", .str xa, .str xb, .str xd], .tuple [.str "delete", .str xa, .str xb]]) := Dd.drawn (.lst (s12 _ _ (s11 _ _ e10)) (DdAll.same (s11.trans s12) _ _ a10)) rfl D13 D12.pool
      have c13 : Dd K H13 (.ref T3) (.tuple [.str "save", .str xa]) := Dd.drawn (.tup (s12 _ _ e11) (.cons (.str _) (.cons (.str _) .nil))) rfl D13 D12.pool
      have d13 : Dd K H13 (.ref T4) (.tuple [.str "drop", .str xa, .str xb]) := Dd.drawn (.tup e12 (.cons (.str _) (.cons (.str _) (.cons (.str _) .nil)))) rfl D13 D12.pool
      walk_at "tx"
      refine a_tup (by simp) fun T5 H14 n14 s14 e14 => ?_
      walk_at "tx"
      refine a_lst (by simp) fun L5 H15 n15 s15 e15 => ?_
      walk_at "tx"
      have s1415 := s14.trans s15
      have a15 : Dd K H15 (.ref L5) (.list [.tuple [.str "save", .str xa], .tuple [.str "drop", .str xa, .str xb], .tuple [.str "pass", .str xa, .int (1 + re)]]) :=
        .lst e15 (.cons (Dd.same s1415 _ _ c13) (.cons (Dd.same s1415 _ _ d13) (.cons (.tup (s15 _ _ e14) (.cons (.str _) (.cons (.str _) (.cons (.int _) .nil)))) .nil)))
      refine g_catN (Dd.same s1415 _ _ b13) a15 (by simp) fun L6 x6 H16 n16 s16 e16 a16 => ?_
      have D16 : Drawn p H H16 := (D12.trans D13).same (s1415.trans s16)
      (iterate 16 walk_at "tx1")
      refine ev_use (K := K) (d := (.list [.none, .tuple [], .tuple [.str (Str.ofString "k"), .str (Str.ofString "l")], .tuple [.str (Str.ofString "k")]] : PyData)) (by walk_at "ed") fun v17 H17 s17 d17 => ?_
      have p17 := D16.pool.same s17
      walk_at "tx"
      refine r_take p17 (by decide) (by decide) fun rf H18 rf0 rf1 D18 => ?_
      refine list_at d17 (by decide +kernel) D18 p17 rf0 (by show rf < ((4 : Nat) : Int); omega) fun vk dk mk ddk => ?_
      have fk : flatD dk = true ∧ Basic 1 dk ∧ fewD dk := keys_ok mk
      have nk : lsD npL dk = true := np_flat dk fk.1
      have big := Dd.drawn (.lst (s17 _ _ e16) (DdAll.same s17 _ _ a16)) rfl D18 p17
      walk_at "tx"
      refine a_tup (by simp) fun T6 H19 n19 s19 e19 => ?_
      walk_at "tx"
      refine a_lst (by simp) fun L7 H20 n20 s20 e20 => ?_
      walk_at "tx"
      have a20 : Dd K H20 (.ref L7) (.list [.tuple [.str "send", .str xa, .str "bob", dk]]) := .lst e20 (.cons (.tup (s20 _ _ e19) (.cons (.str _) (.cons (.str _) (.cons (.str _) (.cons (Dd.same (s19.trans s20) _ _ ddk) .nil))))) .nil)
      refine g_catN (Dd.same (s19.trans s20) _ _ big) a20 (by simp) fun L8 x8 H21 n21 s21 e21 a21 => ?_
      have D21 : Drawn p H H21 := (((D16.same s17).trans D18).same ((s19.trans s20).trans s21))
      walk_at "tx"
      refine r_take D21.pool (by decide) (by decide) fun rg H22 rg0 rg1 D22 => ?_
      have big2 := Dd.drawn (.lst e21 a21) (by simp [npD, lsD, lsAll, npL, nk]) D22 D21.pool
      walk_at "tx"
      refine a_tup (by simp) fun T7 H23 n23 s23 e23 => ?_
      walk_at "tx"
      refine a_tup (by simp) fun T8 H24 n24 s24 e24 => ?_
      walk_at "tx"
      refine a_lst (by simp) fun L9 H25 n25 s25 e25 => ?_
      walk_at "tx"
      have a25 : Dd K H25 (.ref L9) (.list [.tuple [.str "take", .str "bob", .str xa, .int rg], .tuple [.str "open", .str "h", .str "bob"]]) :=
        .lst e25 (.cons (.tup (s25 _ _ (s24 _ _ e23)) (.cons (.str _) (.cons (.str _) (.cons (.str _) (.cons (.int _) .nil))))) (.cons (.tup (s25 _ _ e24) (.cons (.str _) (.cons (.str _) (.cons (.str _) .nil)))) .nil))
      refine g_catN (Dd.same ((s23.trans s24).trans s25) _ _ big2) a25 (by simp) fun L10 x10 H26 n26 s26 e26 a26 => ?_
      have D26 : Drawn p H H26 := (D21.trans D22).same (((s23.trans s24).trans s25).trans s26)
      walk_at "tx"
      refine r_take D26.pool (by decide) (by decide) fun rh H27 rh0 rh1 D27 => ?_
      refine list_at (.lst e26 a26) (by simp [npD, lsD, lsAll, npL, nk]) D27 D26.pool rh0 (by simpa using rh1) fun ve de me dde => ?_
      have fe : flatD de = true ∧ Basic 3 de ∧ fewI de := by
        simp only [List.cons_append, List.nil_append, List.mem_cons, List.not_mem_nil, or_false] at me
        exact ev_ok la lb ld fk.1 fk.2.1 fk.2.2 me
      walk_at "tx"
      refine a_tup (by simp) fun T9 H28 n28 s28 e28 => ?_
      exact k _ (.tuple [.str "do", de]) _ ((StepF.do_ fe.2.1 fe.2.2).up (by omega)) (by simp [flatD, lsD, lsAll]; exact fe.1) rfl (.tup e28 (.cons (.str _) (.cons (Dd.same s28 _ _ dde) .nil))) ((D26.trans D27).same s28)
    · obtain ⟨m, rfl⟩ : ∃ m, n = m + 1 := ⟨n - 1, by omega⟩
      have eR := hR m rfl
      subst eR
      walk_at "tx"
      have em : (((m + 1 : Nat) : Int) - 1) = (m : Int) := by omega
      refine ⟨p, 1, by rw [em]; rfl, Nat.le_refl _, D5.pool, fun vi di H6 pf dvi D6 => ?_⟩
      have fi := pf.flat
      have bi := pf.basic
      have gi := pf.fit (by omega)
      have D06 := D05.trans D6
      have vd := vi
      walk_at "tx"
      refine r_dec (fun c1 => ?_) (fun c1 => ?_)
      · walk_at "tx"
        refine r_take D6.pool (by decide) (by decide) fun rd H7 rd0 rd1 D7 => ?_
        have dv7 := Dd.drawn dvi (np_flat _ fi) D7 D6.pool
        walk_at "tx"
        refine a_tup (by simp) fun T1 H8 n8 s8 e8 => ?_
        walk_at "tx"
        refine a_tup (by simp) fun T2 H9 n9 s9 e9 => ?_
        walk_at "tx"
        refine a_lst (by simp) fun L H10 n10 s10 e10 => ?_
        walk_at "tx"
        have al : DdAll K H10 [V.ref T1, V.ref T2] [.tuple [.str "repeat", .int (1 + rd), di], .tuple [.str "try", di]] :=
          .cons (.tup (s10 _ _ (s9 _ _ e8)) (.cons (.str _) (.cons (.int _) (.cons (Dd.same ((s8.trans s9).trans s10) _ _ dv7) .nil)))) (.cons (.tup (s10 _ _ e9) (.cons (.str _) (.cons (Dd.same ((s8.trans s9).trans s10) _ _ dv7) .nil))) .nil)
        obtain ⟨ve, de, ae, me, dde⟩ := al.at_ (r := rc - 6) (by omega) (by show rc - 6 < ((2 : Nat) : Int); omega)
        refine r_ixL e10 ae ?_
        have fin : StepF (4 + 3 * (m + 1)) de ∧ flatD de = true ∧ tupB de = true := by
          simp only [List.mem_cons, List.not_mem_nil, or_false] at me
          rcases me with rfl | rfl
          · exact ⟨(StepF.rep_ (basic_int.up (Nat.zero_le _)) bi gi).up (by omega), by simp [flatD, lsD, lsAll]; exact fi, rfl⟩
          · exact ⟨(StepF.try_ bi gi).up (by omega), by simp [flatD, lsD, lsAll]; exact fi, rfl⟩
        exact k _ de _ fin.1 fin.2.1 fin.2.2 dde ((D06.trans D7).same ((s8.trans s9).trans s10))
      · walk_at "tx"
        refine r_dec (fun c2 => ?_) (fun c2 => ?_)
        · walk_at "tx"
          refine a_tup (by simp) fun T1 H8 n8 s8 e8 => ?_
          exact k _ (.tuple [.str "try", di]) _ ((StepF.try_ bi gi).up (by omega)) (by simp [flatD, lsD, lsAll]; exact fi) rfl (.tup e8 (.cons (.str _) (.cons (Dd.same s8 _ _ dvi) .nil))) (D06.same s8)
        · walk_at "tx"
          refine r_dec (fun c3 => ?_) (fun c3 => ?_)
          · walk_at "tx"
            refine a_lst (by simp) fun L3 H7 n7 s7 e7 => ?_
            have p7 := D6.pool.same s7
            walk_at "tx"
            refine r_take p7 (by decide) (by decide) fun rd H8 rd0 rd1 D8 => ?_
            obtain ⟨ve, hve, mve⟩ := at_drawn (xs := [V.str "h", V.str "ann", V.str "g"]) rd0 (by show rd < ((3 : Nat) : Int); omega)
            refine r_ixL (D8.kept _ _ e7 (D6.pool.ne' n7)) hve ?_
            obtain ⟨xe, rfl, le⟩ := textB_all (n := 10) (by decide) mve
            have dv8 := Dd.drawn (Dd.same s7 _ _ dvi) (np_flat _ fi) D8 p7
            walk_at "tx"
            refine a_tup (by simp) fun T1 H9 n9 s9 e9 => ?_
            exact k _ (.tuple [.str "each", .str xe, di]) _ ((StepF.each_ ((basic_str (by omega)).up (Nat.zero_le _)) bi gi).up (by omega)) (by simp [flatD, lsD, lsAll]; exact fi) rfl (.tup e9 (.cons (.str _) (.cons (.str _) (.cons (Dd.same s9 _ _ dv8) .nil)))) (((D06.same s7).trans D8).same s9)
          · walk_at "tx"
            refine ⟨p, 0, by rw [em]; rfl, Nat.zero_le _, D6.pool, fun vo do' H7 pf2 dvo D7 => ?_⟩
            have dv7 := Dd.drawn dvi (np_flat _ fi) D7 D6.pool
            walk_at "tx"
            refine a_tup (by simp) fun T1 H8 n8 s8 e8 => ?_
            exact k _ (.tuple [.str "if", .str xa, .str xb, di, do']) _ ((StepF.if_ ((basic_str (by omega)).up (Nat.zero_le _)) ((basic_str (by omega)).up (Nat.zero_le _)) bi pf2.basic gi (pf2.fit (by omega))).up (by omega)) (by simp [flatD, lsD, lsAll]; exact ⟨fi, pf2.flat⟩) rfl (.tup e8 (.cons (.str _) (.cons (.str _) (.cons (.str _) (.cons (Dd.same s8 _ _ dv7) (.cons (Dd.same s8 _ _ dvo) .nil)))))) ((D06.trans D7).same s8)
end
end K75

set_option Elab.async false
set_option linter.all false
set_option maxRecDepth 100000
set_option maxHeartbeats 4000000
namespace K75
open PySem PySem.Spec PyProof.Rows L2 Tk
local macro_rules | `(tactic| walk_at "rd1") => `(tactic| first
  | with_reducible refine r_seq ?_
  | ((with_reducible refine r_var (v := ?vv) ?hrv ?_); (case hrv => rfl))
  | with_reducible refine r_c ?_
  | with_reducible refine r_op ?_
  | ((with_reducible refine r_ixL (xs := ?xx) (v := ?vv) ?hh ?he ?_); (case hh => first | assumption | exact upd_same); (case he => rfl))
  | with_reducible refine r_asg ?_
  | with_reducible refine r_sub ?_
  | ((with_reducible refine r_gTup (xs := ?xx) ?hh ?he ?_); (case hh => assumption); (case he => rfl))
  | with_reducible refine r_gCons ?_
  | with_reducible refine r_gNil ?_
  | ((with_reducible refine r_setL (xs := ?xx) (j := ?vv) ?hh ?he ?_); (case hh => first | assumption | exact upd_same); (case he => rfl))
  | with_reducible refine r_pow15 ?_
  | with_reducible refine r_pow18 ?_
  | with_reducible refine r_repr ?_
  | with_reducible refine iteT ?_
  | with_reducible refine iteF ?_
  | with_reducible refine r_cons ?_
  | with_reducible refine r_nil ?_
  | with_reducible refine r_call ?_
  | with_reducible refine r_cb ?_
  | with_reducible refine r_ret ?_
  | with_reducible refine r_gName ?_
  | with_reducible refine r_next ?_
  | with_reducible refine r_ifS ?_
  | with_reducible refine r_un ?_
  | with_reducible refine r_U ?_
  | with_reducible refine r_max2 ?_
  | with_reducible refine r_min2 ?_
  | with_reducible refine r_sl ?_
  | with_reducible refine r_noPart ?_
  | with_reducible refine r_part ?_
  | with_reducible refine r_inti ?_
  | with_reducible refine r_lc ?_
  | with_reducible refine r_for ?_
  | with_reducible refine r_rng1 ?_
  | with_reducible refine r_iList ?_
  | with_reducible refine r_iTup ?_
  | with_reducible refine r_iStr ?_
  | with_reducible refine r_strx ?_
  | ((with_reducible refine r_j ?hh ?hi ?_); (case hh => omega); (case hi => omega))
  | with_reducible refine r_m1 ?_
  | with_reducible refine r_test ?_
  | with_reducible refine r_B ?_
  | with_reducible refine r_not ?_
  | with_reducible refine r_and ?_
  | with_reducible refine r_or ?_
  | with_reducible refine r_andV ?_
  | with_reducible refine r_orV ?_
  | with_reducible refine r_notV ?_
  | with_reducible refine r_if ?_
  | with_reducible refine r_chain ?_
  | with_reducible refine r_lst ?_
  | with_reducible refine r_tup ?_
  | with_reducible refine r_k ?_
  | ((with_reducible refine r_isiS (d := ?dd) ?hh ?_); (case hh => assumption))
  | ((with_reducible refine r_isiT (d := ?dd) ?hh ?_); (case hh => assumption))
  | ((with_reducible refine r_isiI (d := ?dd) ?hh ?_); (case hh => assumption))
  | ((with_reducible refine r_isiB (d := ?dd) ?hh ?_); (case hh => assumption))
  | ((with_reducible refine r_lenS ?hh ?_); (case hh => assumption))
  | ((with_reducible refine r_lenT (xs := ?dd) ?hh ?_); (case hh => assumption))
  | ((with_reducible refine r_ixT (xs := ?xx) (v := ?vv) ?hh ?he ?_); (case hh => assumption); (case he => rfl))
  | with_reducible refine r_isN ?_
  | with_reducible refine r_I0 ?_
  | with_reducible refine g_addI ?_
  | ((with_reducible refine r_mod ?hh ?_); (case hh => first | decide | omega))
  | ((with_reducible refine r_div ?hh ?hi ?_); (case hh => first | decide | omega); (case hi => first | decide | omega))
  | ((with_reducible refine g_mulB ?hh ?hi ?_); (case hh => omega); (case hi => omega))
  | with_reducible refine g_ltI ?_
  | with_reducible refine g_leI ?_
  | with_reducible refine g_gtI ?_
  | with_reducible refine g_geI ?_
  | with_reducible refine g_eqI ?_
  | with_reducible refine g_neI ?_
  | with_reducible refine g_eqS ?_
  | with_reducible refine g_neS ?_
  | with_reducible refine g_leS ?_
  | with_reducible refine g_ltS ?_)
local macro_rules | `(tactic| walk_at "rd") => `(tactic| repeat (walk_at "rd1"))
local macro_rules | `(tactic| walk_at "ed") => `(tactic| repeat first
  | exact ed_int
  | exact ed_str
  | exact ed_bl
  | exact ed_non
  | exact ed_nil
  | exact ed_dct
  | exact ed_neg
  | with_reducible apply ed_cons
  | with_reducible apply ed_tup
  | with_reducible apply ed_lst
  | exact Nat.le_of_ble_eq_true rfl)
local macro_rules | `(tactic| walk_at "tx1") => `(tactic| first
  | walk_at "rd1"
  | with_reducible refine r_callS ?_
  | with_reducible refine r_zipA ?_
  | with_reducible refine r_par ?_
  | with_reducible refine r_pair ?_
  | with_reducible refine r_pow6 ?_
  | with_reducible refine r_m0 ?_
  | with_reducible refine r_bm ?_
  | with_reducible refine r_isS ?_
  | with_reducible refine r_told ?_
  | with_reducible refine r_js ?_
  | with_reducible refine r_jsNil ?_
  | with_reducible refine r_repl ?_
  | ((with_reducible refine r_gLst (xs := ?xx) ?hh ?he ?_); (case hh => assumption); (case he => rfl))
  | ((with_reducible refine r_lenL (xs := ?xx) ?hh ?_); (case hh => assumption)))
local macro_rules | `(tactic| walk_at "tx") => `(tactic| repeat (walk_at "tx1"))
section
variable {t1 t2 t3 t4 t5 t6 : Tok} {P : Program} {w : World} {K : PySem.W.Frag} {mg : Str → Option Value} {base : Heap}
/-! ### written data with variables in it -/
def EvB (K : PySem.W.Frag) (H0 : Hp) (te : TE) (σ : L2.St) (d : PyData) : Prop := ∀ (H : Hp) (Q : VK), Same H0 H → (∀ v H', Same H H' → Dd K H' v d → Q v H') → te σ H Q
def EvBA (K : PySem.W.Frag) (H0 : Hp) (ta : TA) (σ : L2.St) (ds : List PyData) : Prop := ∀ (H : Hp) (Q : List V → Hp → Prop), Same H0 H → (∀ vs H', Same H H' → DdAll K H' vs ds → Q vs H') → ta σ H Q
section
variable {H0 : Hp} {te : TE} {ta : TA} {σ : L2.St} {d : PyData} {ds : List PyData} {v : V}
theorem eb_of (h : EvD K te σ d) : EvB K H0 te σ d := fun H Q _ q => h H Q q
theorem eb_var {i : Nat} (e : σ[i]? = some (some v)) (dv : Dd K H0 v d) : EvB K H0 (tVar i) σ d := fun H Q s q => ⟨v, e, q v H (Same.refl H) (Dd.same s _ _ dv)⟩
theorem eb_nil : EvBA K H0 tNil σ [] := fun H Q _ q => q _ H (Same.refl H) .nil
theorem eb_cons (h : EvB K H0 te σ d) (t : EvBA K H0 ta σ ds) : EvBA K H0 (tCons te ta) σ (d :: ds) := fun H Q s q =>
  h H _ s fun v H1 s1 dv => t H1 _ (s.trans s1) fun vs H2 s2 dvs => q _ H2 (s1.trans s2) (.cons (Dd.same s2 d v dv) dvs)
theorem eb_tup (h : EvBA K H0 ta σ ds) (hl : ds.length ≤ 100000) : EvB K H0 (tTup ta) σ (.tuple ds) := fun H Q s q =>
  h H _ s fun vs H1 s1 dvs => ⟨sz_of (by rw [dvs.length]; exact hl), fun p hp => q _ _ (s1.trans (Same.new hp)) (.tup upd_same (DdAll.same (Same.new hp) ds vs dvs))⟩
theorem eb_lst (h : EvBA K H0 ta σ ds) (hl : ds.length ≤ 100000) : EvB K H0 (tLst ta) σ (.list ds) := fun H Q s q =>
  h H _ s fun vs H1 s1 dvs => ⟨sz_of (by rw [dvs.length]; exact hl), fun p hp => q _ _ (s1.trans (Same.new hp)) (.lst upd_same (DdAll.same (Same.new hp) ds vs dvs))⟩
theorem eb_list (h : EvB K H0 te σ (.tuple ds)) : EvB K H0 (tCB (rListOf K) (tCons te tNil)) σ (.list ds) := fun H Q s q =>
  h H _ s fun v H1 s1 dv => by
    cases dv with
    | tup e al => exact r_listOfT e fun l hl => q _ _ (s1.trans (Same.new hl)) (.lst upd_same (DdAll.same (Same.new hl) _ _ al))
theorem eb_use {H : Hp} {Q : VK} (h : EvB K H0 te σ d) (s : Same H0 H) (q : ∀ v H', Same H H' → Dd K H' v d → Q v H') : te σ H Q := h H Q s q
end
local macro_rules | `(tactic| walk_at "eb") => `(tactic| repeat first
  | exact eb_of ed_int
  | exact eb_of ed_str
  | exact eb_of ed_bl
  | exact eb_of ed_non
  | exact eb_nil
  | exact eb_of ed_dct
  | exact eb_of ed_neg
  | exact eb_var rfl (by assumption)
  | with_reducible apply eb_cons
  | with_reducible apply eb_tup
  | with_reducible apply eb_lst
  | apply eb_list
  | exact Nat.le_of_ble_eq_true rfl)
/-! ### quick looks -/
mutual
def okB : PyData → Bool
  | .str x => decide (x.length ≤ 100000)
  | .list xs => decide (xs.length ≤ 100000) && okBs xs
  | .tuple xs => decide (xs.length ≤ 100000) && okBs xs
  | _ => true
def okBs : List PyData → Bool
  | [] => true
  | x :: xs => okB x && okBs xs
end
mutual
theorem okB_ok : ∀ d : PyData, okB d = true → okD d
  | .none, _ => True.intro
  | .bool _, _ => True.intro
  | .int _, _ => True.intro
  | .str x, h => show x.length ≤ 100000 from of_decide_eq_true h
  | .list xs, h => by
    have h : (decide (xs.length ≤ 100000) && okBs xs) = true := h
    rw [Bool.and_eq_true] at h
    exact ⟨of_decide_eq_true h.1, okBs_ok xs h.2⟩
  | .tuple xs, h => by
    have h : (decide (xs.length ≤ 100000) && okBs xs) = true := h
    rw [Bool.and_eq_true] at h
    exact ⟨of_decide_eq_true h.1, okBs_ok xs h.2⟩
  | .dict _, _ => True.intro
theorem okBs_ok : ∀ ds : List PyData, okBs ds = true → okAll ds
  | [], _ => True.intro
  | d :: ds, h => by
    have h : (okB d && okBs ds) = true := h
    rw [Bool.and_eq_true] at h
    exact ⟨okB_ok d h.1, okBs_ok ds h.2⟩
end
def basicB (m : Nat) (d : PyData) : Bool := okB d && (d.plain && decide (d.depth ≤ m))
theorem basicB_ok {m : Nat} {d : PyData} (h : basicB m d = true) : Basic m d := by
  unfold basicB at h
  rw [Bool.and_eq_true, Bool.and_eq_true] at h
  exact ⟨okB_ok d h.1, h.2.1, of_decide_eq_true h.2.2⟩
def fewDB : PyData → Bool
  | .tuple es => decide (es.length ≤ 60)
  | _ => true
def fewIB : PyData → Bool
  | .tuple ds => ds.all fewDB
  | _ => true
theorem fewIB_ok {d : PyData} (h : fewIB d = true) : fewI d := by
  cases d with
  | tuple ds =>
    intro x m
    have := List.all_eq_true.mp (show ds.all fewDB = true from h) x m
    cases x with
    | tuple es => exact (show es.length ≤ 60 from of_decide_eq_true this)
    | _ => exact True.intro
  | _ => exact True.intro
def doB : PyData → Bool
  | .tuple [.str x, e] => x != "do" || fewIB e
  | _ => true
def headB : PyData → Bool
  | .tuple (d0 :: _) => scalD d0
  | _ => true
mutual
def stepFB : Nat → PyData → Bool
  | 0, _ => false
  | k + 1, d => (basicB 20 d && doB d) && (headB d && (plansD d).all (fitB k))
def fitB : Nat → PyData → Bool
  | 0, _ => false
  | k + 1, .tuple ss => basicB 30 (.tuple ss) && ss.all (stepFB k)
  | _ + 1, d => basicB 30 d
end
theorem quick : ∀ k : Nat, (∀ d, stepFB k d = true → StepF 20 d) ∧ (∀ d, fitB k d = true → ∀ n, Fit n d) := by
  intro k
  induction k with
  | zero => exact ⟨fun d h => (by unfold stepFB at h; cases h), fun d h => (by unfold fitB at h; cases h)⟩
  | succ k ih =>
    refine ⟨fun d h => ?_, fun d h => ?_⟩
    · unfold stepFB at h
      rw [Bool.and_eq_true, Bool.and_eq_true, Bool.and_eq_true] at h
      obtain ⟨⟨h1, h2⟩, h3, h4⟩ := h
      have b := basicB_ok h1
      refine ⟨b, ⟨⟨b.ok, fun e z => ?_⟩, fun d0 r z => ?_⟩, fun q m n => ih.2 q (List.all_eq_true.mp h4 q m) n⟩
      · subst z
        exact fewIB_ok (by simpa [doB] using h2)
      · subst z
        exact h3
    · cases d with
      | tuple ss =>
        unfold fitB at h
        rw [Bool.and_eq_true] at h
        have b := (basicB_ok h.1).up (show 30 ≤ 60 by decide)
        intro n
        cases n with
        | zero => exact b
        | succ n => exact ⟨b, fun ss' e s m => by
            cases e
            have f := ih.1 s (List.all_eq_true.mp h.2 s m)
            exact ⟨f.ask, fun q z => f.pls q z n⟩⟩
      | _ => exact fit_flat ((basicB_ok (by unfold fitB at h; exact h)).up (by decide)) (fun ss z => by cases z)
/-! ### the odd steps -/
def planC : PyData := (.tuple [.tuple [.str (Str.ofString "do"), .tuple [.str (Str.ofString "save"), .str (Str.ofString "ann")]]] : PyData)
def odd1 : List PyData := ([.none, .int (5), .tuple [], .tuple [.str (Str.ofString "do")], .tuple [.str (Str.ofString "do"), .tuple [.str (Str.ofString "save")]], .tuple [.str (Str.ofString "do"), .none], .tuple [.str (Str.ofString "do"), .tuple [.str (Str.ofString "save"), .str (Str.ofString "ann")], .tuple []], .list [.str (Str.ofString "try"), .tuple [.tuple [.str (Str.ofString "do"), .tuple [.str (Str.ofString "save"), .str (Str.ofString "ann")]]]], .tuple [.str (Str.ofString "try")]] : List PyData)
def odd2 : List PyData := ([.tuple [.str (Str.ofString "try"), .tuple []], .tuple [.str (Str.ofString "try"), .list [.tuple [.str (Str.ofString "do"), .tuple [.str (Str.ofString "save"), .str (Str.ofString "ann")]]]], .tuple [.str (Str.ofString "try"), .none], .tuple [.str (Str.ofString "try"), .tuple [.tuple [.str (Str.ofString "do"), .tuple [.str (Str.ofString "save"), .str (Str.ofString "ann")]]], .tuple []], .tuple [.str (Str.ofString "repeat"), .int (0), .tuple [.tuple [.str (Str.ofString "do"), .tuple [.str (Str.ofString "save"), .str (Str.ofString "ann")]]]], .tuple [.str (Str.ofString "each"), .str (Str.ofString "h"), .tuple []]] : List PyData)
def odd3 : List PyData := ([.tuple [.str (Str.ofString "repeat"), .int (21), .tuple [.tuple [.str (Str.ofString "do"), .tuple [.str (Str.ofString "save"), .str (Str.ofString "ann")]]]], .tuple [.str (Str.ofString "repeat"), .int (20), .tuple [.tuple [.str (Str.ofString "do"), .tuple [.str (Str.ofString "save"), .str (Str.ofString "ann")]]]], .tuple [.str (Str.ofString "repeat"), .bool true, .tuple [.tuple [.str (Str.ofString "do"), .tuple [.str (Str.ofString "save"), .str (Str.ofString "ann")]]]], .tuple [.str (Str.ofString "repeat"), .int (1), .tuple []], .tuple [.str (Str.ofString "repeat"), .tuple [.tuple [.str (Str.ofString "do"), .tuple [.str (Str.ofString "save"), .str (Str.ofString "ann")]]]]] : List PyData)
def odd4 : List PyData := ([.tuple [.str (Str.ofString "each"), .str (Str.ofString "H"), .tuple [.tuple [.str (Str.ofString "do"), .tuple [.str (Str.ofString "save"), .str (Str.ofString "ann")]]]], .tuple [.str (Str.ofString "each"), .str (Str.ofString ""), .tuple [.tuple [.str (Str.ofString "do"), .tuple [.str (Str.ofString "save"), .str (Str.ofString "ann")]]]], .tuple [.str (Str.ofString "each"), .int (5), .tuple [.tuple [.str (Str.ofString "do"), .tuple [.str (Str.ofString "save"), .str (Str.ofString "ann")]]]], .tuple [.str (Str.ofString "each"), .str (Str.ofString "abcdefghi"), .tuple [.tuple [.str (Str.ofString "do"), .tuple [.str (Str.ofString "save"), .str (Str.ofString "ann")]]]], .tuple [.int (5), .tuple [.tuple [.str (Str.ofString "do"), .tuple [.str (Str.ofString "save"), .str (Str.ofString "ann")]]]]] : List PyData)
def odd5 : List PyData := ([.tuple [.str (Str.ofString "if"), .str (Str.ofString "ann"), .str (Str.ofString "k"), .tuple [.tuple [.str (Str.ofString "do"), .tuple [.str (Str.ofString "save"), .str (Str.ofString "ann")]]], .tuple []], .tuple [.str (Str.ofString "if"), .str (Str.ofString "ann"), .str (Str.ofString "k"), .tuple [], .tuple [.tuple [.str (Str.ofString "do"), .tuple [.str (Str.ofString "save"), .str (Str.ofString "ann")]]]], .tuple [.str (Str.ofString "if"), .str (Str.ofString "ann"), .str (Str.ofString "k"), .tuple [.tuple [.str (Str.ofString "do"), .tuple [.str (Str.ofString "save"), .str (Str.ofString "ann")]]]], .tuple [.str (Str.ofString "else"), .tuple [.tuple [.str (Str.ofString "do"), .tuple [.str (Str.ofString "save"), .str (Str.ofString "ann")]]]]] : List PyData)
def odd6 : List PyData := ([.tuple [.str (Str.ofString "if"), .str (Str.ofString ""), .str (Str.ofString "k"), .tuple [.tuple [.str (Str.ofString "do"), .tuple [.str (Str.ofString "save"), .str (Str.ofString "ann")]]], .tuple []], .tuple [.str (Str.ofString "if"), .str (Str.ofString "ann"), .int (5), .tuple [.tuple [.str (Str.ofString "do"), .tuple [.str (Str.ofString "save"), .str (Str.ofString "ann")]]], .tuple []], .str (Str.ofString "do"), .tuple [.str (Str.ofString "if"), .str (Str.ofString "ann"), .str (Str.ofString "k"), .tuple [.tuple [.str (Str.ofString "do"), .tuple [.str (Str.ofString "save"), .str (Str.ofString "ann")]]], .none]] : List PyData)
def odds : List PyData := ((((odd1 ++ odd2) ++ odd3) ++ odd4) ++ odd5) ++ odd6
theorem odds_fit : ∀ d ∈ odds, StepF 20 d := fun d h => (quick 8).1 d (List.all_eq_true.mp (show odds.all (stepFB 8) = true by decide +kernel) d h)
def spOdd (K : PySem.W.Frag) : Sp := fun vs H Q _ => ∃ p : Addr, vs = [.ref p] ∧ PoolAt H p ∧ ∀ v d H', d ∈ odds → Dd K H' v d → Drawn p H H' → Q v H'
abbrev s_L_odd : Stmt := top 31
abbrev n_L_odd : List Str := ["_law_pool_here", "_law_plan_here", "_law_some"]
abbrev p_L_odd : List Str := ["_law_pool_here"]
theorem sc_L_odd : FnScope n_L_odd p_L_odd (defScope s_L_odd) := ⟨rfl, rfl, rfl, by decide +kernel, rfl, by decide +kernel, by decide +kernel⟩
theorem ok_L_odd (T : Txt mg t1 t2 t3 t4 t5 t6) {f : Addr} {fd : FuncData} (F : Fun K "_law_odd" "_law_odd" s_L_odd f fd) (K_L_take : Cal P w K mg base CX0 1 "_law_take" p_L_take spTake) : FnOk P w K mg base CX0 2 f fd p_L_odd (spOdd K) := by
  refine F.ok sc_L_odd (fun vs H Q E h => by obtain ⟨p, rfl, _⟩ := h; rfl) (fun cdv A outer s H vs Q E hr h => ?_)
  obtain ⟨p, rfl, hp, k⟩ := h
  have hu := hr.units
  refine ⟨_, (pss_cons (ps_set (i := 1) sc_L_odd.nd rfl (by first | exact Or.inl rfl | exact Or.inr rfl) (pe_tup (pa_cons (pe_tup (pa_cons pe_str (pa_cons (pe_tup (pa_cons pe_str (pa_cons pe_str pa_nil))) pa_nil))) pa_nil)))
      (pss_cons (ps_set (i := 2) sc_L_odd.nd rfl (by first | exact Or.inl rfl | exact Or.inr rfl) (pe_lst (pa_cons pe_non (pa_cons pe_int (pa_cons (pe_tup pa_nil) (pa_cons (pe_tup (pa_cons pe_str pa_nil)) (pa_cons (pe_tup (pa_cons pe_str (pa_cons (pe_tup (pa_cons pe_str pa_nil)) pa_nil))) (pa_cons (pe_tup (pa_cons pe_str (pa_cons pe_non pa_nil))) (pa_cons (pe_tup (pa_cons pe_str (pa_cons (pe_tup (pa_cons pe_str (pa_cons pe_str pa_nil))) (pa_cons (pe_tup pa_nil) pa_nil)))) (pa_cons (pe_lst (pa_cons pe_str (pa_cons (pv 1) pa_nil))) (pa_cons (pe_tup (pa_cons pe_str pa_nil)) pa_nil)))))))))))
      (pss_cons (ps_set (i := 2) sc_L_odd.nd rfl (by first | exact Or.inl rfl | exact Or.inr rfl) (pe_op k_add (pv 2) (pe_lst (pa_cons (pe_tup (pa_cons pe_str (pa_cons (pe_tup pa_nil) pa_nil))) (pa_cons (pe_tup (pa_cons pe_str (pa_cons (pe_callTy k_listOf (by rfl) T.z_list (by decide +kernel) (pa_cons (pv 1) pa_nil)) pa_nil))) (pa_cons (pe_tup (pa_cons pe_str (pa_cons pe_non pa_nil))) (pa_cons (pe_tup (pa_cons pe_str (pa_cons (pv 1) (pa_cons (pe_tup pa_nil) pa_nil)))) (pa_cons (pe_tup (pa_cons pe_str (pa_cons pe_int (pa_cons (pv 1) pa_nil)))) (pa_cons (pe_tup (pa_cons pe_str (pa_cons pe_str (pa_cons (pe_tup pa_nil) pa_nil)))) pa_nil)))))))))
      (pss_cons (ps_set (i := 2) sc_L_odd.nd rfl (by first | exact Or.inl rfl | exact Or.inr rfl) (pe_op k_add (pv 2) (pe_lst (pa_cons (pe_tup (pa_cons pe_str (pa_cons pe_int (pa_cons (pv 1) pa_nil)))) (pa_cons (pe_tup (pa_cons pe_str (pa_cons pe_int (pa_cons (pv 1) pa_nil)))) (pa_cons (pe_tup (pa_cons pe_str (pa_cons pe_bl (pa_cons (pv 1) pa_nil)))) (pa_cons (pe_tup (pa_cons pe_str (pa_cons pe_int (pa_cons (pe_tup pa_nil) pa_nil)))) (pa_cons (pe_tup (pa_cons pe_str (pa_cons (pv 1) pa_nil))) pa_nil))))))))
      (pss_cons (ps_set (i := 2) sc_L_odd.nd rfl (by first | exact Or.inl rfl | exact Or.inr rfl) (pe_op k_add (pv 2) (pe_lst (pa_cons (pe_tup (pa_cons pe_str (pa_cons pe_str (pa_cons (pv 1) pa_nil)))) (pa_cons (pe_tup (pa_cons pe_str (pa_cons pe_str (pa_cons (pv 1) pa_nil)))) (pa_cons (pe_tup (pa_cons pe_str (pa_cons pe_int (pa_cons (pv 1) pa_nil)))) (pa_cons (pe_tup (pa_cons pe_str (pa_cons pe_str (pa_cons (pv 1) pa_nil)))) (pa_cons (pe_tup (pa_cons pe_int (pa_cons (pv 1) pa_nil))) pa_nil))))))))
      (pss_cons (ps_set (i := 2) sc_L_odd.nd rfl (by first | exact Or.inl rfl | exact Or.inr rfl) (pe_op k_add (pv 2) (pe_lst (pa_cons (pe_tup (pa_cons pe_str (pa_cons pe_str (pa_cons pe_str (pa_cons (pv 1) (pa_cons (pe_tup pa_nil) pa_nil)))))) (pa_cons (pe_tup (pa_cons pe_str (pa_cons pe_str (pa_cons pe_str (pa_cons (pe_tup pa_nil) (pa_cons (pv 1) pa_nil)))))) (pa_cons (pe_tup (pa_cons pe_str (pa_cons pe_str (pa_cons pe_str (pa_cons (pv 1) pa_nil))))) (pa_cons (pe_tup (pa_cons pe_str (pa_cons (pv 1) pa_nil))) pa_nil)))))))
      (pss_one (ps_ret (pe_ix k_ix (pe_op k_add (pv 2) (pe_lst (pa_cons (pe_tup (pa_cons pe_str (pa_cons pe_str (pa_cons pe_str (pa_cons (pv 1) (pa_cons (pe_tup pa_nil) pa_nil)))))) (pa_cons (pe_tup (pa_cons pe_str (pa_cons pe_str (pa_cons pe_int (pa_cons (pv 1) (pa_cons (pe_tup pa_nil) pa_nil)))))) (pa_cons pe_str (pa_cons (pe_tup (pa_cons pe_str (pa_cons pe_str (pa_cons pe_str (pa_cons (pv 1) (pa_cons pe_non pa_nil)))))) pa_nil)))))) (pe_cal K_L_take (hr.mono (by decide)) pass0 (pa_cons (pv 0) (pa_cons pe_int pa_nil))) (fun _ _ => rfl)))))))))), ?_⟩
  (iterate 2 walk_at "tx1")
  refine ev_use (K := K) (d := planC) (by unfold planC; walk_at "ed") fun v1 H1 s1 d1 => ?_
  (iterate 3 walk_at "tx1")
  refine eb_use (K := K) (H0 := H1) (d := .list odd1) (by unfold odd1; unfold planC at d1; walk_at "eb") (Same.refl H1) fun v2 H2 s2 e2 => ?_
  have d2 := Dd.same s2 _ _ d1
  (iterate 5 walk_at "tx1")
  unfold planC at d2
  refine eb_use (K := K) (H0 := H2) (d := .list odd2) (by unfold odd2; walk_at "eb") (Same.refl H2) fun v3 H3 s3 e3 => ?_
  refine g_cat (Dd.same s3 _ _ e2) e3 (by decide) fun v4 H4 s4 e4 => ?_
  have d4 := Dd.same (s3.trans s4) _ _ d2
  (iterate 5 walk_at "tx1")
  refine eb_use (K := K) (H0 := H4) (d := .list odd3) (by unfold odd3; walk_at "eb") (Same.refl H4) fun v5 H5 s5 e5 => ?_
  refine g_cat (Dd.same s5 _ _ e4) e5 (by decide) fun v6 H6 s6 e6 => ?_
  have d6 := Dd.same (s5.trans s6) _ _ d4
  (iterate 5 walk_at "tx1")
  refine eb_use (K := K) (H0 := H6) (d := .list odd4) (by unfold odd4; walk_at "eb") (Same.refl H6) fun v7 H7 s7 e7 => ?_
  refine g_cat (Dd.same s7 _ _ e6) e7 (by decide) fun v8 H8 s8 e8 => ?_
  have d8 := Dd.same (s7.trans s8) _ _ d6
  (iterate 5 walk_at "tx1")
  refine eb_use (K := K) (H0 := H8) (d := .list odd5) (by unfold odd5; walk_at "eb") (Same.refl H8) fun v9 H9 s9 e9 => ?_
  refine g_cat (Dd.same s9 _ _ e8) e9 (by decide) fun v10 H10 s10 e10 => ?_
  have d10 := Dd.same (s9.trans s10) _ _ d8
  (iterate 5 walk_at "tx1")
  refine eb_use (K := K) (H0 := H10) (d := .list odd6) (by unfold odd6; walk_at "eb") (Same.refl H10) fun v11 H11 s11 e11 => ?_
  refine g_cat (Dd.same s11 _ _ e10) e11 (by decide) fun v12 H12 s12 e12 => ?_
  have d12 := Dd.same (s11.trans s12) _ _ d10
  have p12 := hp.same ((((((s1.trans s2).trans (s3.trans s4)).trans (s5.trans s6)).trans (s7.trans s8)).trans (s9.trans s10)).trans (s11.trans s12))
  walk_at "tx"
  refine r_take p12 (by decide) (by decide) fun r HR r0 r1 DR => ?_
  refine list_at e12 (by decide +kernel) DR p12 r0 (by show r < ((33 : Nat) : Int); omega) fun ve de me dde => ?_
  exact k ve de HR me dde ((Drawn.of hp ((((((s1.trans s2).trans (s3.trans s4)).trans (s5.trans s6)).trans (s7.trans s8)).trans (s9.trans s10)).trans (s11.trans s12))).trans DR)
/-! ### deeper -/
def spDeeper (K : PySem.W.Frag) : Sp := fun vs H Q _ => ∃ (v : V) (d : PyData) (m : Nat), vs = [v, .int (m : Int)] ∧ m ≤ 7 ∧ Dd K H v d ∧ StepF 3 d ∧ flatD d = true ∧ ∀ v' d' H', Same H H' → Dd K H' v' d' → StepF 17 d' → flatD d' = true → Q v' H'
abbrev s_L_deeper : Stmt := top 32
abbrev n_L_deeper : List Str := ["_law_step_here", "_law_many", "_law_turn"]
abbrev p_L_deeper : List Str := ["_law_step_here", "_law_many"]
theorem sc_L_deeper : FnScope n_L_deeper p_L_deeper (defScope s_L_deeper) := ⟨rfl, rfl, rfl, by decide +kernel, rfl, by decide +kernel, by decide +kernel⟩
theorem ok_L_deeper (T : Txt mg t1 t2 t3 t4 t5 t6) {f : Addr} {fd : FuncData} (F : Fun K "_law_deeper" "_law_deeper" s_L_deeper f fd) : FnOk P w K mg base CX0 1 f fd p_L_deeper (spDeeper K) := by
  refine F.ok sc_L_deeper (fun vs H Q E h => by obtain ⟨v, d, m, rfl, _⟩ := h; rfl) (fun cdv A outer s H vs Q E hr h => ?_)
  obtain ⟨v, d, m, rfl, hm, hd, sf, fl, k⟩ := h
  have hu := hr.units
  refine ⟨_, (pss_cons (ps_for PassesOwn.never rfl (pi_range1 rfl T.z_range (pa_cons (pv 1) pa_nil)) (pg_name (i := 2) sc_L_deeper.nd rfl (by first | exact Or.inl rfl | exact Or.inr rfl))
      (pss_one (ps_set (i := 0) sc_L_deeper.nd rfl (by first | exact Or.inl rfl | exact Or.inr rfl) (pe_ix k_ix (pe_lst (pa_cons (pe_tup (pa_cons pe_str (pa_cons (pe_tup (pa_cons (pv 0) pa_nil)) pa_nil))) (pa_cons (pe_tup (pa_cons pe_str (pa_cons pe_str (pa_cons pe_str (pa_cons (pe_tup (pa_cons (pe_tup (pa_cons pe_str (pa_cons (pe_tup (pa_cons pe_str (pa_cons pe_str pa_nil))) pa_nil))) pa_nil)) (pa_cons (pe_tup (pa_cons (pv 0) pa_nil)) pa_nil)))))) pa_nil))) (pe_op op_mod (pe_callTy call_int1 (by rfl) T.z_int (by decide +kernel) (pa_cons (pv 2) pa_nil)) pe_int) (fun _ _ => rfl)))))
      (pss_one (ps_ret (pv 0)))), ?_⟩
  walk_at "tx"
  refine for_range (lo := 0) (n := (m : Int).toNat) (fun i σ H1 => ∃ (v1 : V) (d1 : PyData) (o : Option V), σ = [some v1, some (.int (m : Int)), o] ∧ Same H H1 ∧ Dd K H1 v1 d1 ∧ StepF (3 + 2 * i) d1 ∧ flatD d1 = true) ⟨v, d, _, rfl, Same.refl H, hd, sf, fl⟩ ?_ ?_
  · rintro i σ H1 hi ⟨v1, d1, o, rfl, s1, e1, f1, g1⟩
    (iterate 3 walk_at "tx1")
    have hi : i < m := by simpa using hi
    refine eb_use (K := K) (H0 := H1) (d := .list [.tuple [.str "try", .tuple [d1]], .tuple [.str "if", .str "ann", .str "k", planC, .tuple [d1]]]) (by unfold planC; walk_at "eb") (Same.refl H1) fun v2 H2 s2 e2 => ?_
    walk_at "tx"
    refine .inl ⟨_, rfl, ?_⟩
    walk_at "tx"
    cases e2 with
    | lst eL al =>
    obtain ⟨ve, de, ae, me, dde⟩ := al.at_ (r := (0 + (i : Int)) % 2) (Int.emod_nonneg _ (by decide)) (Int.emod_lt_of_pos _ (by decide))
    refine r_ixL eL ae ?_
    have b1 : Basic (3 + 2 * i + 1) (.tuple [d1]) := Basic.tup (fun x z => by rw [List.mem_singleton.mp z]; exact f1.ba) (by simp)
    have t1 : ∀ n, Fit n (.tuple [d1]) := fun n => fit_plan (m := 3 + 2 * i) (fun x z => by rw [List.mem_singleton.mp z]; exact f1) (by simp) (by omega) n
    have fin : StepF (3 + 2 * (i + 1)) de ∧ flatD de = true := by
      simp only [List.mem_cons, List.not_mem_nil, or_false] at me
      rcases me with rfl | rfl
      · exact ⟨(StepF.try_ b1 t1).up (by omega), by simp [flatD, lsD, lsAll]; exact g1⟩
      · have pb : Basic (3 + 2 * i + 1) planC := (basicB_ok (m := 3) (by decide +kernel)).up (by omega)
        have pf : ∀ n, Fit n planC := (quick 8).2 planC (by decide +kernel)
        exact ⟨(StepF.if_ ((basic_str (by decide)).up (Nat.zero_le _)) ((basic_str (by decide)).up (Nat.zero_le _)) pb b1 pf t1).up (by omega), by simp [flatD, lsD, lsAll, planC]; exact g1⟩
    walk_at "tx"
    exact ⟨ve, de, _, rfl, s1.trans s2, dde, fin.1, fin.2⟩
  · rintro σ H1 ⟨v1, d1, o, rfl, s1, e1, f1, g1⟩
    walk_at "tx"
    exact k v1 d1 H1 s1 e1 (f1.up (by omega)) g1
end
end K75

set_option Elab.async false
set_option linter.all false
set_option maxRecDepth 100000
set_option maxHeartbeats 4000000
namespace K75
open PySem PySem.Spec PyProof.Rows L2 Tk
local macro_rules | `(tactic| walk_at "rd1") => `(tactic| first
  | with_reducible refine r_seq ?_
  | ((with_reducible refine r_var (v := ?vv) ?hrv ?_); (case hrv => rfl))
  | with_reducible refine r_c ?_
  | with_reducible refine r_op ?_
  | ((with_reducible refine r_ixL (xs := ?xx) (v := ?vv) ?hh ?he ?_); (case hh => first | assumption | exact upd_same); (case he => rfl))
  | with_reducible refine r_asg ?_
  | with_reducible refine r_sub ?_
  | ((with_reducible refine r_gTup (xs := ?xx) ?hh ?he ?_); (case hh => assumption); (case he => rfl))
  | with_reducible refine r_gCons ?_
  | with_reducible refine r_gNil ?_
  | ((with_reducible refine r_setL (xs := ?xx) (j := ?vv) ?hh ?he ?_); (case hh => first | assumption | exact upd_same); (case he => rfl))
  | with_reducible refine r_pow15 ?_
  | with_reducible refine r_pow18 ?_
  | with_reducible refine r_repr ?_
  | with_reducible refine iteT ?_
  | with_reducible refine iteF ?_
  | with_reducible refine r_cons ?_
  | with_reducible refine r_nil ?_
  | with_reducible refine r_call ?_
  | with_reducible refine r_cb ?_
  | with_reducible refine r_ret ?_
  | with_reducible refine r_gName ?_
  | with_reducible refine r_next ?_
  | with_reducible refine r_ifS ?_
  | with_reducible refine r_un ?_
  | with_reducible refine r_U ?_
  | with_reducible refine r_max2 ?_
  | with_reducible refine r_min2 ?_
  | with_reducible refine r_sl ?_
  | with_reducible refine r_noPart ?_
  | with_reducible refine r_part ?_
  | with_reducible refine r_inti ?_
  | with_reducible refine r_lc ?_
  | with_reducible refine r_for ?_
  | with_reducible refine r_rng1 ?_
  | with_reducible refine r_iList ?_
  | with_reducible refine r_iTup ?_
  | with_reducible refine r_iStr ?_
  | with_reducible refine r_strx ?_
  | ((with_reducible refine r_j ?hh ?hi ?_); (case hh => omega); (case hi => omega))
  | with_reducible refine r_m1 ?_
  | with_reducible refine r_test ?_
  | with_reducible refine r_B ?_
  | with_reducible refine r_not ?_
  | with_reducible refine r_and ?_
  | with_reducible refine r_or ?_
  | with_reducible refine r_andV ?_
  | with_reducible refine r_orV ?_
  | with_reducible refine r_notV ?_
  | with_reducible refine r_if ?_
  | with_reducible refine r_chain ?_
  | with_reducible refine r_lst ?_
  | with_reducible refine r_tup ?_
  | with_reducible refine r_k ?_
  | ((with_reducible refine r_isiS (d := ?dd) ?hh ?_); (case hh => assumption))
  | ((with_reducible refine r_isiT (d := ?dd) ?hh ?_); (case hh => assumption))
  | ((with_reducible refine r_isiI (d := ?dd) ?hh ?_); (case hh => assumption))
  | ((with_reducible refine r_isiB (d := ?dd) ?hh ?_); (case hh => assumption))
  | ((with_reducible refine r_lenS ?hh ?_); (case hh => assumption))
  | ((with_reducible refine r_lenT (xs := ?dd) ?hh ?_); (case hh => assumption))
  | ((with_reducible refine r_ixT (xs := ?xx) (v := ?vv) ?hh ?he ?_); (case hh => assumption); (case he => rfl))
  | with_reducible refine r_isN ?_
  | with_reducible refine r_I0 ?_
  | with_reducible refine g_addI ?_
  | ((with_reducible refine r_mod ?hh ?_); (case hh => first | decide | omega))
  | ((with_reducible refine r_div ?hh ?hi ?_); (case hh => first | decide | omega); (case hi => first | decide | omega))
  | ((with_reducible refine g_mulB ?hh ?hi ?_); (case hh => omega); (case hi => omega))
  | with_reducible refine g_ltI ?_
  | with_reducible refine g_leI ?_
  | with_reducible refine g_gtI ?_
  | with_reducible refine g_geI ?_
  | with_reducible refine g_eqI ?_
  | with_reducible refine g_neI ?_
  | with_reducible refine g_eqS ?_
  | with_reducible refine g_neS ?_
  | with_reducible refine g_leS ?_
  | with_reducible refine g_ltS ?_)
local macro_rules | `(tactic| walk_at "rd") => `(tactic| repeat (walk_at "rd1"))
local macro_rules | `(tactic| walk_at "ed") => `(tactic| repeat first
  | exact ed_int
  | exact ed_str
  | exact ed_bl
  | exact ed_non
  | exact ed_nil
  | exact ed_dct
  | exact ed_neg
  | with_reducible apply ed_cons
  | with_reducible apply ed_tup
  | with_reducible apply ed_lst
  | exact Nat.le_of_ble_eq_true rfl)
local macro_rules | `(tactic| walk_at "tx1") => `(tactic| first
  | walk_at "rd1"
  | with_reducible refine r_callS ?_
  | with_reducible refine r_zipA ?_
  | with_reducible refine r_par ?_
  | with_reducible refine r_pair ?_
  | with_reducible refine r_pow6 ?_
  | with_reducible refine r_m0 ?_
  | with_reducible refine r_bm ?_
  | with_reducible refine r_isS ?_
  | with_reducible refine r_told ?_
  | with_reducible refine r_js ?_
  | with_reducible refine r_jsNil ?_
  | with_reducible refine r_repl ?_
  | ((with_reducible refine r_gLst (xs := ?xx) ?hh ?he ?_); (case hh => assumption); (case he => rfl))
  | ((with_reducible refine r_lenL (xs := ?xx) ?hh ?_); (case hh => assumption)))
local macro_rules | `(tactic| walk_at "tx") => `(tactic| repeat (walk_at "tx1"))
section
variable {t1 t2 t3 t4 t5 t6 : Tok} {P : Program} {w : World} {K : PySem.W.Frag} {mg : Str → Option Value} {base : Heap}
/-! ### data with the empty dict in it, behind draws -/
mutual
def npE : PyData → Bool
  | .list xs => npL xs && npEs xs
  | .tuple xs => npEs xs
  | .dict [] => true
  | .dict (_ :: _) => false
  | .none => true
  | .bool _ => true
  | .int _ => true
  | .str _ => true
def npEs : List PyData → Bool
  | [] => true
  | x :: xs => npE x && npEs xs
end
section
variable {H H' : Hp} {p : Addr}
mutual
theorem drawnE (D : Drawn p H H') (hp : PoolAt H p) : ∀ (d : PyData) (v : V), npE d = true → Dd K H v d → Dd K H' v d
  | .none, _, _, h => by cases h; exact .non
  | .bool b, _, _, h => by cases h; exact .bl b
  | .int i, _, _, h => by cases h; exact .int i
  | .str x, _, _, h => by cases h; exact .str x
  | .list ds, _, n, h => by
    have n : (npL ds && npEs ds) = true := n
    rw [Bool.and_eq_true] at n
    cases h with
    | lst e a =>
      refine .lst (D.kept _ _ e fun z => ?_) (drawnEs D hp ds _ n.2 a)
      subst z
      obtain ⟨x, y, q, _⟩ := hp
      rw [q] at e
      cases e
      cases a with
      | cons h1 a =>
        cases a with
        | cons h2 a =>
          cases a
          cases h1
          cases h2
          exact nomatch n.1
  | .tuple ds, _, n, h => by
    cases h with
    | tup e a =>
      refine .tup (D.kept _ _ e fun z => ?_) (drawnEs D hp ds _ n a)
      subst z
      obtain ⟨x, y, q, _⟩ := hp
      rw [q] at e
      cases e
  | .dict [], _, _, h => by
    cases h with
    | dct e =>
      refine .dct (D.kept _ _ e fun z => ?_)
      subst z
      obtain ⟨x, y, q, _⟩ := hp
      rw [q] at e
      cases e
  | .dict (_ :: _), _, n, _ => nomatch n
theorem drawnEs (D : Drawn p H H') (hp : PoolAt H p) : ∀ (ds : List PyData) (vs : List V), npEs ds = true → DdAll K H vs ds → DdAll K H' vs ds
  | [], _, _, h => by cases h; exact .nil
  | d :: ds, _, n, h => by
    have n : (npE d && npEs ds) = true := n
    rw [Bool.and_eq_true] at n
    cases h with
    | cons h1 h2 => exact .cons (drawnE D hp d _ n.1 h1) (drawnEs D hp ds _ n.2 h2)
end
end
theorem npEs_iff : ∀ {ds : List PyData}, npEs ds = true ↔ ∀ d ∈ ds, npE d = true
  | [] => by simp [npEs]
  | d :: ds => by
    rw [npEs, Bool.and_eq_true, npEs_iff (ds := ds)]
    simp
mutual
theorem flat_npE : ∀ d : PyData, flatD d = true → npE d = true
  | .none, _ => rfl
  | .bool _, _ => rfl
  | .int _, _ => rfl
  | .str _, _ => rfl
  | .list ds, h => by
    have h : ((fun _ => false) ds && lsAll (fun _ => false) ds) = true := h
    cases h
  | .tuple ds, h => flat_npEs ds h
  | .dict _, h => nomatch h
theorem flat_npEs : ∀ ds : List PyData, lsAll (fun _ => false) ds = true → npEs ds = true
  | [], _ => rfl
  | d :: ds, h => by
    have h : (flatD d && lsAll (fun _ => false) ds) = true := h
    rw [Bool.and_eq_true] at h
    show (npE d && npEs ds) = true
    rw [flat_npE d h.1, flat_npEs ds h.2]
    rfl
end
theorem g_catL {l b : Addr} {xs zs : List V} {H : Hp} {Q : VK} (e1 : H l = some (.lst xs)) (e2 : H b = some (.lst zs)) (hl : xs.length + zs.length ≤ 100000) (q : ∀ p H', H p = none → Same H H' → H' p = some (.lst (xs ++ zs)) → Q (.ref p) H') : GAdd K (.ref l) (.ref b) H Q :=
  .inr (.inr (.inl ⟨l, b, xs, zs, rfl, rfl, e1, e2, by unfold sizeLine; omega, fun p hp => q p _ hp (Same.new hp) upd_same⟩))
theorem DdAll.find {H : Hp} {P : PyData → Prop} : ∀ {vs : List V} {ds : List PyData} {v : V}, DdAll K H vs ds → (∀ d ∈ ds, P d) → v ∈ vs → ∃ d, Dd K H v d ∧ P d
  | _, _, _, .nil, _, h => by cases h
  | _, _, v, .cons h t, o, m => by
    rcases List.mem_cons.mp m with e | m
    · subst e
      exact ⟨_, h, o _ (List.mem_cons_self ..)⟩
    · exact DdAll.find t (fun d hd => o d (List.mem_cons_of_mem _ hd)) m
/-- what the law asks about -/
structure Thing (d : PyData) : Prop where
  np : npE d = true
  p : AskP 6 d
  c : AskC 6 d
theorem Thing.of {d : PyData} (n : npE d = true) (f : ∀ n, Fit n d) : Thing d := ⟨n, fit_askP (f 6), fit_askC (f 6)⟩
def saveC : PyData := (.tuple [.str (Str.ofString "do"), .tuple [.str (Str.ofString "save"), .str (Str.ofString "ann")]] : PyData)
abbrev s_law : Stmt := top 33
abbrev n_law : List Str := ["_law_script", "_law_k", "_law_pool_here", "_law_plan_here", "_law_some", "_law_save", "_law_turn", "_law_at", "_law_other", "_law_thing"]
abbrev p_law : List Str := ["_law_script"]
theorem sc_law : FnScope n_law p_law (defScope s_law) := ⟨rfl, rfl, rfl, by decide +kernel, rfl, by decide +kernel, by decide +kernel⟩
theorem ok_law (T : Txt mg t1 t2 t3 t4 t5 t6) {f : Addr} {fd : FuncData} (F : Fun K "law" "law" s_law f fd) (K_L_pool : Cal P w K mg base CX0 20 "_law_pool" p_L_pool (spPool K)) (K_L_take : Cal P w K mg base CX0 20 "_law_take" p_L_take spTake)
    (K_L_plan : Cal P w K mg base CX0 20 "_law_plan" p_L_plan (spPlanL K 3)) (K_L_odd : Cal P w K mg base CX0 20 "_law_odd" p_L_odd (spOdd K)) (K_L_deeper : Cal P w K mg base CX0 20 "_law_deeper" p_L_deeper (spDeeper K))
    (K_is_plan : Cal P w K mg base CX0 20 "is_plan" p_is_plan (spPlan K)) (K_L_count : Cal P w K mg base CX0 20 "_law_count" p_L_count (spCount K 6)) (K_L_same : Cal P w K mg base CX0 20 "_law_same" p_L_same spSame) :
    FnOk P w K mg base CX0 21 f fd p_law (spLaw K) := by
  refine F.ok sc_law (fun vs H Q E h => spLaw_len h) (fun cdv A outer s H vs Q E hr h => ?_)
  obtain ⟨a, ns, rfl, hS, hl, k⟩ := h
  have hu := hr.units
  refine ⟨_, (pss_cons (ps_for PassesOwn.never rfl (pi_range1 rfl T.z_range (pa_cons (pe_callB (c_max2 rfl) (by rfl) T.z_max (by decide +kernel) (pa_cons pe_int (pa_cons (pe_callB (c_min2 rfl) (by rfl) T.z_min (by decide +kernel) (pa_cons (pe_callB k_len (by rfl) T.z_len (by decide +kernel) (pa_cons (pv 0) pa_nil)) (pa_cons pe_int pa_nil))) pa_nil))) pa_nil)) (pg_name (i := 1) sc_law.nd rfl (by first | exact Or.inl rfl | exact Or.inr rfl))
      (pss_cons (ps_set (i := 2) sc_law.nd rfl (by first | exact Or.inl rfl | exact Or.inr rfl) (pe_cal K_L_pool (hr.mono (by decide)) pass0 (pa_cons (pv 0) (pa_cons (pv 1) pa_nil))))
      (pss_cons (ps_set (i := 3) sc_law.nd rfl (by first | exact Or.inl rfl | exact Or.inr rfl) (pe_cal K_L_plan (hr.mono (by decide)) pass0 (pa_cons (pv 2) (pa_cons pe_int (pa_cons pe_int pa_nil)))))
      (pss_cons (ps_par (i := 4) (j := 5) rfl sc_law.nd rfl rfl (by decide) rfl rfl (pa_cons (pe_lst (pa_cons (pv 3) (pa_cons (pe_callTy k_listOf (by rfl) T.z_list (by decide +kernel) (pa_cons (pv 3) pa_nil)) (pa_cons (pe_op k_add (pe_slice k_slice (pv 3) po_none (po_some pe_int)) (pv 3)) (pa_cons pe_non (pa_cons pe_int (pa_cons pe_str (pa_cons pe_dnewK pa_nil)))))))) (pa_cons (pe_tup (pa_cons pe_str (pa_cons (pe_tup (pa_cons pe_str (pa_cons pe_str pa_nil))) pa_nil))) pa_nil)) (by rfl))
      (pss_cons (ps_for PassesOwn.never rfl (pi_range1 rfl T.z_range (pa_cons pe_int pa_nil)) (pg_name (i := 6) sc_law.nd rfl (by first | exact Or.inl rfl | exact Or.inr rfl))
      (pss_cons (ps_par (i := 7) (j := 8) rfl sc_law.nd rfl rfl (by decide) rfl rfl (pa_cons (pe_cal K_L_take (hr.mono (by decide)) pass0 (pa_cons (pv 2) (pa_cons (pe_op k_add (pe_callB k_len (by rfl) T.z_len (by decide +kernel) (pa_cons (pv 3) pa_nil)) pe_int) pa_nil))) (pa_cons (pe_cal K_L_odd (hr.mono (by decide)) pass0 (pa_cons (pv 2) pa_nil)) pa_nil)) (by rfl))
      (pss_cons (ps_set (i := 4) sc_law.nd rfl (by first | exact Or.inl rfl | exact Or.inr rfl) (pe_op k_add (pv 4) (pe_lst (pa_cons (pe_op k_add (pe_slice k_slice (pv 3) po_none (po_some (pv 7))) (pe_slice k_slice (pv 3) (po_some (pe_op k_add (pv 7) pe_int)) po_none)) (pa_cons (pe_op k_add (pe_op k_add (pe_slice k_slice (pv 3) po_none (po_some (pv 7))) (pe_tup (pa_cons (pv 8) pa_nil))) (pe_slice k_slice (pv 3) (po_some (pv 7)) po_none)) (pa_cons (pe_tup (pa_cons (pe_tup (pa_cons pe_str (pa_cons (pe_tup (pa_cons (pv 5) (pa_cons (pv 8) pa_nil))) pa_nil))) pa_nil)) pa_nil))))))
      (pss_one (ps_expr (pe_bm PySem.F.plainAttrs_list PySem.F.slot_list_append PySem.F.type_list_append mt_append (pv 4) (pa_cons (pe_op k_add (pe_op k_add (pe_slice k_slice (pv 3) po_none (po_some (pv 7))) (pe_tup (pa_cons (pe_cal K_L_deeper (hr.mono (by decide)) pass0 (pa_cons (pv 5) (pa_cons (pe_cal K_L_take (hr.mono (by decide)) pass0 (pa_cons (pv 2) (pa_cons pe_int pa_nil))) pa_nil))) pa_nil))) (pe_slice k_slice (pv 3) (po_some (pe_op k_add (pv 7) pe_int)) po_none)) pa_nil)))))))
      (pss_cons (ps_set (i := 4) sc_law.nd rfl (by first | exact Or.inl rfl | exact Or.inr rfl) (pe_op k_add (pv 4) (pe_lst (pa_cons (pe_op op_repT (pe_tup (pa_cons (pv 5) pa_nil)) pe_int) (pa_cons (pe_op op_repT (pe_tup (pa_cons (pv 5) pa_nil)) pe_int) (pa_cons (pe_tup (pa_cons (pe_tup (pa_cons pe_str (pa_cons (pe_op op_repT (pe_tup (pa_cons (pv 5) pa_nil)) pe_int) pa_nil))) pa_nil)) (pa_cons (pe_tup (pa_cons (pe_tup (pa_cons pe_str (pa_cons (pe_op op_repT (pe_tup (pa_cons (pv 5) pa_nil)) pe_int) pa_nil))) pa_nil)) pa_nil)))))))
      (pss_one (ps_for PassesOwn.never rfl (k_list (pv 4)) (pg_name (i := 9) sc_law.nd rfl (by first | exact Or.inl rfl | exact Or.inr rfl))
      (pss_one (ps_if (pt_not (pt_val (pe_cal K_L_same (hr.mono (by decide)) pass0 (pa_cons (pe_cal K_is_plan (hr.mono (by decide)) pass0 (pa_cons (pv 9) pa_nil)) (pa_cons (pe_cmpR o_le (pe_cal K_L_count (hr.mono (by decide)) pass0 (pa_cons (pv 9) (pa_cons pe_int (pa_cons pe_int pa_nil)))) pe_int (nomark _)) pa_nil))))) (pss_one (ps_ret pe_bl)) pss_nil))))))))))
      (pss_one (ps_ret pe_bl))), ?_⟩
  walk_at "tx"
  refine r_lenQ hS ?_
  walk_at "tx"
  rw [List.length_map]
  obtain ⟨n, en, hn⟩ := turns_of 2 ns.length (by decide)
  rw [show (2 : Int) = ((2 : Nat) : Int) from rfl, en]
  walk_at "tx"
  refine for_range (lo := 0) (n := (n : Int).toNat) (fun i σ H1 => ∃ o1 o2 o3 o4 o5 o6 o7 o8 o9, σ = [some (.ref a), o1, o2, o3, o4, o5, o6, o7, o8, o9] ∧ Same H H1) ⟨_, _, _, _, _, _, _, _, _, rfl, Same.refl H⟩ ?_ ?_
  · rintro i σ H1 hi ⟨o1, o2, o3, o4, o5, o6, o7, o8, o9, rfl, s1⟩
    walk_at "tx"
    refine r_pool (s1.seq hS) hl (by omega) (by omega) fun p H2 hp s2 p2 => ?_
    have hpn : H p = none := by
      cases z : H p with
      | none => rfl
      | some o => rw [s1 _ _ z] at hp; cases hp
    walk_at "tx"
    refine ⟨p, 0, rfl, by decide, p2, fun vp dp H3 pf dvp D3 => ?_⟩
    obtain ⟨ss, rfl, l3, hss⟩ := pf
    have fpl : flatD (.tuple ss) = true := lsAll_iff.mpr fun d z => (hss d z).2.1
    have D03 : Drawn p H2 H3 := D3
    cases dvp with
    | tup ep al =>
    rename_i ap ys
    have lys := al.length
    walk_at "tx"
    refine r_listOfT ep fun L1 nL1 => ?_
    have sL1 : Same H3 (upd H3 L1 (.lst ys)) := Same.new nL1
    have eL1 : upd H3 L1 (.lst ys) L1 = some (.lst ys) := upd_same
    generalize upd H3 L1 (.lst ys) = H4 at sL1 eL1 ⊢
    have d4 : Dd K H4 (.ref ap) (.tuple ss) := .tup (sL1 _ _ ep) (DdAll.same sL1 _ _ al)
    have l4 : Dd K H4 (.ref L1) (.list ss) := .lst eL1 (DdAll.same sL1 _ _ al)
    walk_at "tx"
    refine g_slD d4 fun v5 H5 s5 d5 => ?_
    walk_at "tx"
    refine g_catD d5 (Dd.same s5 _ _ d4) (by have := cutD_len ss none (some 1); omega) fun v6 H6 s6 d6 => ?_
    walk_at "tx"
    refine ev_use (K := K) ed_dct fun v7 H7 s7 d7 => ?_
    walk_at "tx"
    refine a_lst (by simp) fun L8 H8 n8 s8 e8 => ?_
    walk_at "tx1"
    refine ev_use (K := K) (d := saveC) (by unfold saveC; walk_at "ed") fun v9 H9 s9 d9 => ?_
    have npl : npL ss = true := by
      match ss, hss with
      | [], _ => rfl
      | [x], _ => cases x <;> rfl
      | [x, y], h => cases x <;> first | rfl | exact nomatch (h _ (List.mem_cons_self ..)).2.2
      | _ :: _ :: _ :: _, _ => rename_i x y z r _; cases x <;> first | rfl | (cases y <;> rfl)
    have hst : ∀ s ∈ ss, StepF 13 s := fun s z => (hss s z).1
    have tpl : Thing (.tuple ss) := .of (flat_npE _ fpl) (fit_plan hst (by omega) (by decide))
    have bpl : Basic 14 (.tuple ss) := Basic.tup (fun d z => (hst d z).ba) (by omega)
    have fcut : ∀ lo hi, ∀ s ∈ cutD ss lo hi, StepF 13 s ∧ flatD s = true := fun lo hi s z => ⟨hst s (cutD_mem z), (hss s (cutD_mem z)).2.1⟩
    have lcut : ∀ lo hi, (cutD ss lo hi).length ≤ 3 := fun lo hi => Nat.le_trans (cutD_len ss lo hi) l3
    have things0 : ∀ d ∈ [PyData.tuple ss, .list ss, .tuple (cutD ss none (some 1) ++ ss), .none, .int 5, .str "try", .dict []], Thing d := by
      intro d hd
      simp only [List.mem_cons, List.not_mem_nil, or_false] at hd
      rcases hd with rfl | rfl | rfl | rfl | rfl | rfl | rfl
      · exact tpl
      · refine .of ?_ (fit_flat ((show Basic 14 (.list ss) from ⟨bpl.ok, bpl.pl, bpl.dp⟩).up (by decide)) fun _ z => by cases z)
        show (npL ss && npEs ss) = true
        rw [npl, flat_npEs ss fpl]
        rfl
      · refine .of (flat_npE _ (lsAll_iff.mpr fun s z => ?_)) (fit_plan (m := 13) (fun s z => ?_) ?_ (by decide))
        · rcases List.mem_append.mp z with z | z
          · exact (fcut _ _ s z).2
          · exact (hss s z).2.1
        · rcases List.mem_append.mp z with z | z
          · exact (fcut _ _ s z).1
          · exact hst s z
        · rw [List.length_append]
          have := lcut none (some 1)
          omega
      · exact .of rfl ((quick 2).2 _ (by decide +kernel))
      · exact .of rfl ((quick 2).2 _ (by decide +kernel))
      · exact .of rfl ((quick 2).2 _ (by decide +kernel))
      · exact ⟨rfl, ⟨True.intro, fun ss e => nomatch e⟩, fun ss e => nomatch e⟩
    have s49 := (((s5.trans s6).trans s7).trans s8).trans s9
    have D09 := (D03.same sL1).same s49
    have a8 : DdAll K H8 [.ref ap, .ref L1, v6, .non, .int 5, .str "try", v7] [.tuple ss, .list ss, .tuple (cutD ss none (some 1) ++ ss), .none, .int 5, .str "try", .dict []] :=
      .cons (Dd.same (((s5.trans s6).trans s7).trans s8) _ _ d4) (.cons (Dd.same (((s5.trans s6).trans s7).trans s8) _ _ l4) (.cons (Dd.same (s7.trans s8) _ _ d6) (.cons .non (.cons (.int 5) (.cons (.str "try") (.cons (Dd.same s8 _ _ d7) .nil))))))
    walk_at "tx"
    refine for_range (lo := 0) (n := (6 : Int).toNat) (fun j σ H' => ∃ (L : Addr) (ds : List PyData) (o6 o7 o8 o9 : Option V), σ = [some (.ref a), some (.int (0 + (i : Int))), some (.ref p), some (.ref ap), some (.ref L), some v9, o6, o7, o8, o9] ∧ Drawn p H2 H' ∧ Dd K H' (.ref L) (.list (.tuple ss :: ds)) ∧ (∀ d ∈ PyData.tuple ss :: ds, Thing d) ∧ ds.length ≤ 6 + 4 * j ∧ Dd K H' (.ref ap) (.tuple ss) ∧ Dd K H' v9 saveC)
      ⟨L8, _, _, _, _, _, rfl, D09, .lst (s9 _ _ e8) (DdAll.same s9 _ _ a8), things0, by simp, Dd.same s49 _ _ d4, d9⟩ ?_ ?_
    · rintro j σ H10 hj ⟨L, ds, o6', o7', o8', o9', rfl, D10, dl, hds, ldsq, dpl, dsv⟩
      have hj : j < 6 := hj
      have npds : npE (.list (.tuple ss :: ds)) = true := by
        show (npL (.tuple ss :: ds) && npEs (.tuple ss :: ds)) = true
        rw [npEs_iff.mpr fun d z => (hds d z).np, Bool.and_true]
        cases ds with
        | nil => rfl
        | cons _ _ => rfl
      have dpl0 := dpl
      cases dpl0 with
      | tup ep10 al10 =>
      rename_i ys10
      have lys10 := al10.length
      walk_at "tx"
      refine r_take D10.pool (by omega) (by omega) fun r H11 r0 r1 D11 => ?_
      walk_at "tx"
      refine ⟨p, rfl, D11.pool, fun vo od H12 mo ddo D12 => ?_⟩
      have D112 := D11.trans D12
      have dl12 := drawnE D112 D10.pool _ _ npds dl
      have dp12 := drawnE D112 D10.pool _ _ tpl.np dpl
      have ds12 := drawnE D112 D10.pool _ _ rfl dsv
      have fo := odds_fit od mo
      have no : npE od = true := List.all_eq_true.mp (show odds.all npE = true by decide +kernel) od mo
      walk_at "tx"
      refine g_slD dp12 fun v13 H13 s13 d13 => ?_
      walk_at "tx"
      have dp13 := Dd.same s13 _ _ dp12
      refine g_slD dp13 fun v14 H14 s14 d14 => ?_
      walk_at "tx"
      have lA : ∀ a b c d, (cutD ss a b).length + (cutD ss c d).length ≤ 6 := fun a b c d => by have := lcut a b; have := lcut c d; omega
      refine g_catD (Dd.same s14 _ _ d13) d14 (by have := lA none (some r) (some (r + 1)) none; omega) fun v15 H15 s15 d15 => ?_
      walk_at "tx"
      have dp15 := Dd.same (s14.trans s15) _ _ dp13
      refine g_slD dp15 fun v16 H16 s16 d16 => ?_
      walk_at "tx"
      refine a_tup (by simp) fun T17 H17 n17 s17 e17 => ?_
      walk_at "tx"
      have do17 := Dd.same (((s13.trans s14).trans (s15.trans s16)).trans s17) _ _ ddo
      refine g_catD (Dd.same s17 _ _ d16) (.tup e17 (.cons do17 .nil)) (by have := lcut none (some r); simp; omega) fun v18 H18 s18 d18 => ?_
      walk_at "tx"
      have dp18 := Dd.same ((s16.trans s17).trans s18) _ _ dp15
      refine g_slD dp18 fun v19 H19 s19 d19 => ?_
      walk_at "tx"
      refine g_catD (Dd.same s19 _ _ d18) d19 (by have := lA none (some r) (some r) none; simp only [List.length_append, List.length_singleton]; omega) fun v20 H20 s20 d20 => ?_
      walk_at "tx"
      refine a_tup (by simp) fun T21 H21 n21 s21 e21 => ?_
      walk_at "tx"
      refine a_tup (by simp) fun T22 H22 n22 s22 e22 => ?_
      walk_at "tx"
      refine a_tup (by simp) fun T23 H23 n23 s23 e23 => ?_
      walk_at "tx"
      refine a_lst (by simp) fun L24 H24 n24 s24 e24 => ?_
      walk_at "tx"
      have s1318 := ((s13.trans s14).trans (s15.trans s16)).trans (s17.trans s18)
      have s1920 := s19.trans s20
      have s2124 := (s21.trans s22).trans (s23.trans s24)
      have s1324 := (s1318.trans s1920).trans s2124
      have do21 := Dd.same ((s1318.trans s1920).trans s21) _ _ ddo
      have sv21 := Dd.same ((s1318.trans s1920).trans s21) _ _ ds12
      have c23 : Dd K H23 (.ref T23) (.tuple [.tuple [.str "try", .tuple [saveC, od]]]) :=
        .tup e23 (.cons (.tup (s23 _ _ e22) (.cons (.str _) (.cons (.tup (s23 _ _ (s22 _ _ e21)) (.cons (Dd.same (s22.trans s23) _ _ sv21) (.cons (Dd.same (s22.trans s23) _ _ do21) .nil))) .nil))) .nil)
      have a24 : DdAll K H24 [v15, v20, .ref T23] [.tuple (cutD ss none (some r) ++ cutD ss (some (r + 1)) none), .tuple ((cutD ss none (some r) ++ [od]) ++ cutD ss (some r) none), .tuple [.tuple [.str "try", .tuple [saveC, od]]]] :=
        .cons (Dd.same (((s16.trans s17).trans (s18.trans s1920)).trans s2124) _ _ d15) (.cons (Dd.same s2124 _ _ d20) (.cons (Dd.same s24 _ _ c23) .nil))
      have dl24 := Dd.same s1324 _ _ dl12
      have dp24 := Dd.same s1324 _ _ dp12
      have sv24 := Dd.same s1324 _ _ ds12
      have D24 : Drawn p H2 H24 := (D10.trans D112).same s1324
      have p24 := D24.pool
      cases dl24 with
      | lst eL24 aL24 =>
      rename_i xsL
      have lxs := aL24.length
      rw [List.length_cons] at lxs
      refine g_catL eL24 e24 (by rw [lxs]; simp; omega) fun L25 H25 n25 s25 e25 => ?_
      have items24 := aL24.append a24
      have bst : ∀ s ∈ (cutD ss none (some r) ++ [od]) ++ cutD ss (some r) none, StepF 20 s ∧ npE s = true := by
        intro s z
        rcases List.mem_append.mp z with z | z
        · rcases List.mem_append.mp z with z | z
          · exact ⟨(fcut _ _ s z).1.up (by decide), flat_npE _ (fcut _ _ s z).2⟩
          · rw [List.mem_singleton.mp z]
            exact ⟨fo, no⟩
        · exact ⟨(fcut _ _ s z).1.up (by decide), flat_npE _ (fcut _ _ s z).2⟩
      have svf : StepF 20 saveC := (quick 8).1 saveC (by decide +kernel)
      have cst : ∀ s ∈ [saveC, od], StepF 20 s := by
        intro s z
        simp only [List.mem_cons, List.not_mem_nil, or_false] at z
        rcases z with rfl | rfl
        · exact svf
        · exact fo
      have new3 : ∀ d ∈ [PyData.tuple (cutD ss none (some r) ++ cutD ss (some (r + 1)) none), .tuple ((cutD ss none (some r) ++ [od]) ++ cutD ss (some r) none), .tuple [.tuple [.str "try", .tuple [saveC, od]]]], Thing d := by
        intro d hd
        simp only [List.mem_cons, List.not_mem_nil, or_false] at hd
        rcases hd with rfl | rfl | rfl
        · have it : ∀ s ∈ cutD ss none (some r) ++ cutD ss (some (r + 1)) none, StepF 13 s ∧ flatD s = true := fun s z => by
            rcases List.mem_append.mp z with z | z <;> exact fcut _ _ s z
          exact .of (flat_npE _ (lsAll_iff.mpr fun s z => (it s z).2)) (fit_plan (m := 13) (fun s z => (it s z).1) (by have := lA none (some r) (some (r + 1)) none; rw [List.length_append]; omega) (by decide))
        · refine .of (npEs_iff.mpr fun s z => (bst s z).2) (fit_plan (m := 20) (fun s z => (bst s z).1) ?_ (by decide))
          have := lA none (some r) (some r) none
          simp only [List.length_append, List.length_singleton]
          omega
        · refine .of (by simp [npE, npEs, no, saveC]) (fit_plan (m := 22) (fun s z => ?_) (by simp) (by decide))
          rw [List.mem_singleton.mp z]
          exact StepF.try_ (Basic.tup (fun d z => (cst d z).ba) (by simp)) (fit_plan (m := 20) cst (by simp) (by decide))
      have things24 : ∀ d ∈ (PyData.tuple ss :: ds) ++ [PyData.tuple (cutD ss none (some r) ++ cutD ss (some (r + 1)) none), .tuple ((cutD ss none (some r) ++ [od]) ++ cutD ss (some r) none), .tuple [.tuple [.str "try", .tuple [saveC, od]]]], Thing d := by
        intro d hd
        rcases List.mem_append.mp hd with hd | hd
        · exact hds d hd
        · exact new3 d hd
      walk_at "tx"
      dsimp only
      refine r_drop ?_
      refine r_bm ?_
      walk_at "tx"
      refine ⟨.inl ⟨rfl, _, SqL.of e25⟩, ?_⟩
      walk_at "tx"
      have dp25 := Dd.same s25 _ _ dp24
      refine g_slD dp25 fun v26 H26 s26 d26 => ?_
      walk_at "tx"
      have p26 := (p24.same s25).same s26
      refine r_take p26 (by decide) (by decide) fun rt H27 rt0 rt1 D27 => ?_
      obtain ⟨mt, rfl⟩ := Int.eq_ofNat_of_zero_le rt0
      have sv27 := drawnE D27 p26 _ _ rfl (Dd.same (s25.trans s26) _ _ sv24)
      have f26 : flatD (.tuple (cutD ss none (some r))) = true := lsAll_iff.mpr fun s z => (fcut _ _ s z).2
      have d27 := Dd.drawn d26 (np_flat _ f26) D27 p26
      have dp27 := drawnE D27 p26 _ _ tpl.np (Dd.same s26 _ _ dp25)
      walk_at "tx"
      refine ⟨v9, saveC, mt, rfl, by omega, sv27, ?_, by decide +kernel, fun vd dd H28 s28 ddd sfd fld => ?_⟩
      · exact StepF.do_ (m := 2) (basicB_ok (by decide +kernel)) (fewIB_ok (by decide +kernel))
      walk_at "tx"
      refine a_tup (by simp) fun T29 H29 n29 s29 e29 => ?_
      walk_at "tx"
      refine g_catD (Dd.same (s28.trans s29) _ _ d27) (.tup e29 (.cons (Dd.same s29 _ _ ddd) .nil)) (by have := lcut none (some r); simp; omega) fun v30 H30 s30 d30 => ?_
      walk_at "tx"
      refine g_slD (Dd.same ((s28.trans s29).trans s30) _ _ dp27) fun v31 H31 s31 d31 => ?_
      walk_at "tx"
      refine g_catD (Dd.same s31 _ _ d30) d31 (by have := lA none (some r) (some (r + 1)) none; simp only [List.length_append, List.length_singleton]; omega) fun v32 H32 s32 d32 => ?_
      walk_at "tx"
      have s2832 := (s28.trans s29).trans ((s30.trans s31).trans s32)
      have D2432 : Drawn p H24 H32 := (((Drawn.of p24 s25).same s26).trans D27).same s2832
      have nLp : L25 ≠ p := fun z => by
        obtain ⟨x, y, q, _⟩ := p24
        rw [z, q] at n25
        cases n25
      have e32 : H32 L25 = some (.lst (xsL ++ [v15, v20, .ref T23])) := s2832 _ _ (D27.kept _ _ (s26 _ _ e25) nLp)
      refine ⟨L25, _, v32, rfl, rfl, e32, sz_lt (by rw [List.length_append, lxs]; simp; omega), ?_⟩
      have D2433 : Drawn p H24 (upd H32 L25 (.lst ((xsL ++ [v15, v20, .ref T23]) ++ [v32]))) := by
        refine ⟨fun b o e n => ?_, ?_⟩
        · rw [upd_ne (ne_of_none e n25)]
          exact D2432.kept b o e n
        · obtain ⟨x, y, q, z⟩ := D2432.pool
          exact ⟨x, y, by rw [upd_ne (Ne.symm nLp)]; exact q, z⟩
      have bt : But L25 H32 (upd H32 L25 (.lst ((xsL ++ [v15, v20, .ref T23]) ++ [v32]))) := fun b o e n => by rw [upd_ne n]; exact e
      have it : ∀ s ∈ (cutD ss none (some r) ++ [dd]) ++ cutD ss (some (r + 1)) none, StepF 17 s ∧ flatD s = true := by
        intro s z
        rcases List.mem_append.mp z with z | z
        · rcases List.mem_append.mp z with z | z
          · exact ⟨(fcut _ _ s z).1.up (by decide), (fcut _ _ s z).2⟩
          · rw [List.mem_singleton.mp z]
            exact ⟨sfd, fld⟩
        · exact ⟨(fcut _ _ s z).1.up (by decide), (fcut _ _ s z).2⟩
      have f32 : flatD (.tuple ((cutD ss none (some r) ++ [dd]) ++ cutD ss (some (r + 1)) none)) = true := lsAll_iff.mpr fun s z => (it s z).2
      have t32 : Thing (.tuple ((cutD ss none (some r) ++ [dd]) ++ cutD ss (some (r + 1)) none)) := .of (flat_npE _ f32) (fit_plan (m := 17) (fun s z => (it s z).1) (by have := lA none (some r) (some (r + 1)) none; simp only [List.length_append, List.length_singleton]; omega) (by decide))
      have d33 := Dd.but d32 f32 bt ⟨_, e32⟩
      have np24 := npEs_iff.mpr fun d z => (things24 d z).np
      have i33 := drawnEs D2433 p24 _ _ np24 items24
      refine ⟨L25, (ds ++ [PyData.tuple (cutD ss none (some r) ++ cutD ss (some (r + 1)) none), .tuple ((cutD ss none (some r) ++ [od]) ++ cutD ss (some r) none), .tuple [.tuple [.str "try", .tuple [saveC, od]]]]) ++ [PyData.tuple ((cutD ss none (some r) ++ [dd]) ++ cutD ss (some (r + 1)) none)], _, _, _, _, rfl, D24.trans D2433, .lst upd_same (i33.append (.cons d33 .nil)), fun d z => ?_, ?_, drawnE D2433 p24 _ _ tpl.np dp24, drawnE D2433 p24 _ _ rfl sv24⟩
      · rcases List.mem_append.mp (show d ∈ ((PyData.tuple ss :: ds) ++ _) ++ [_] from z) with z | z
        · exact things24 d z
        · rw [List.mem_singleton.mp z]
          exact t32
      · simp only [List.length_append, List.length_cons, List.length_nil]
        omega
    · rintro σ H10 ⟨L, ds, o6', o7', o8', o9', rfl, D10, dl, hds, ldsq, dpl, dsv⟩
      walk_at "tx"
      have svf : StepF 20 saveC := (quick 8).1 saveC (by decide +kernel)
      have rst : ∀ n, ∀ s ∈ List.replicate n saveC, StepF 20 s := fun n s z => by rw [(List.mem_replicate.mp z).2]; exact svf
      have rep : ∀ (n : Nat) (v : V) (H : Hp), Dd K H v saveC → DdAll K H (List.replicate n [v]).flatten (List.replicate n saveC) := by
        intro n v H h
        induction n with
        | zero => exact .nil
        | succ n ih => exact .cons h ih
      refine a_tup (by simp) fun T1 H11 n11 s11 e11 => ?_
      walk_at "tx"
      refine ⟨T1, 200, [v9], rfl, rfl, SqT.of e11, by simp, by decide, by decide, by simp, fun R1 m1 => ?_⟩
      have z1 : Same H11 (upd H11 R1 (.tup (List.replicate (200 : Int).toNat [v9]).flatten)) := Same.new m1
      have g1 : upd H11 R1 (.tup (List.replicate (200 : Int).toNat [v9]).flatten) R1 = some (.tup (List.replicate (200 : Int).toNat [v9]).flatten) := upd_same
      generalize upd H11 R1 (.tup (List.replicate (200 : Int).toNat [v9]).flatten) = H12 at z1 g1 ⊢
      walk_at "tx"
      refine a_tup (by simp) fun T2 H13 n13 s13 e13 => ?_
      walk_at "tx"
      refine ⟨T2, 201, [v9], rfl, rfl, SqT.of e13, by simp, by decide, by decide, by simp, fun R2 m2 => ?_⟩
      have z2 : Same H13 (upd H13 R2 (.tup (List.replicate (201 : Int).toNat [v9]).flatten)) := Same.new m2
      have g2 : upd H13 R2 (.tup (List.replicate (201 : Int).toNat [v9]).flatten) R2 = some (.tup (List.replicate (201 : Int).toNat [v9]).flatten) := upd_same
      generalize upd H13 R2 (.tup (List.replicate (201 : Int).toNat [v9]).flatten) = H14 at z2 g2 ⊢
      walk_at "tx"
      refine a_tup (by simp) fun T3 H15 n15 s15 e15 => ?_
      walk_at "tx"
      refine ⟨T3, 199, [v9], rfl, rfl, SqT.of e15, by simp, by decide, by decide, by simp, fun R3 m3 => ?_⟩
      have z3 : Same H15 (upd H15 R3 (.tup (List.replicate (199 : Int).toNat [v9]).flatten)) := Same.new m3
      have g3 : upd H15 R3 (.tup (List.replicate (199 : Int).toNat [v9]).flatten) R3 = some (.tup (List.replicate (199 : Int).toNat [v9]).flatten) := upd_same
      generalize upd H15 R3 (.tup (List.replicate (199 : Int).toNat [v9]).flatten) = H16 at z3 g3 ⊢
      walk_at "tx"
      refine a_tup (by simp) fun T4 H17 n17 s17 e17 => ?_
      walk_at "tx"
      refine a_tup (by simp) fun T5 H18 n18 s18 e18 => ?_
      walk_at "tx"
      refine a_tup (by simp) fun T6 H19 n19 s19 e19 => ?_
      walk_at "tx"
      refine ⟨T6, 200, [v9], rfl, rfl, SqT.of e19, by simp, by decide, by decide, by simp, fun R4 m4 => ?_⟩
      have z4 : Same H19 (upd H19 R4 (.tup (List.replicate (200 : Int).toNat [v9]).flatten)) := Same.new m4
      have g4 : upd H19 R4 (.tup (List.replicate (200 : Int).toNat [v9]).flatten) R4 = some (.tup (List.replicate (200 : Int).toNat [v9]).flatten) := upd_same
      generalize upd H19 R4 (.tup (List.replicate (200 : Int).toNat [v9]).flatten) = H20 at z4 g4 ⊢
      walk_at "tx"
      refine a_tup (by simp) fun T7 H21 n21 s21 e21 => ?_
      walk_at "tx"
      refine a_tup (by simp) fun T8 H22 n22 s22 e22 => ?_
      walk_at "tx"
      refine a_lst (by simp) fun L23 H23 n23 s23 e23 => ?_
      walk_at "tx"
      have k1 := (z1.trans s13).trans z2
      have k2 := (s15.trans z3).trans (s17.trans s18)
      have k3 := (s19.trans z4).trans (s21.trans s22)
      have k13 := (k1.trans k2).trans (k3.trans s23)
      have sv1 := Dd.same s11 _ _ dsv
      have sv2 := Dd.same (z1.trans s13) _ _ sv1
      have sv3 := Dd.same (z2.trans s15) _ _ sv2
      have sv4 := Dd.same ((z3.trans (s17.trans s18)).trans s19) _ _ sv3
      have f1 : Dd K H23 (.ref R1) (.tuple (List.replicate 200 saveC)) := Dd.same (((s13.trans z2).trans k2).trans (k3.trans s23)) _ _ (.tup g1 (DdAll.same z1 _ _ (rep 200 v9 _ sv1)))
      have f2 : Dd K H23 (.ref R2) (.tuple (List.replicate 201 saveC)) := Dd.same (k2.trans (k3.trans s23)) _ _ (.tup g2 (DdAll.same z2 _ _ (rep 201 v9 _ sv2)))
      have f3 : Dd K H16 (.ref R3) (.tuple (List.replicate 199 saveC)) := .tup g3 (DdAll.same z3 _ _ (rep 199 v9 _ sv3))
      have f4 : Dd K H20 (.ref R4) (.tuple (List.replicate 200 saveC)) := .tup g4 (DdAll.same z4 _ _ (rep 200 v9 _ sv4))
      have f5 : Dd K H23 (.ref T5) (.tuple [.tuple [.str "try", .tuple (List.replicate 199 saveC)]]) :=
        Dd.same (k3.trans s23) _ _ (.tup e18 (.cons (.tup (s18 _ _ e17) (.cons (.str _) (.cons (Dd.same (s17.trans s18) _ _ f3) .nil))) .nil))
      have f6 : Dd K H23 (.ref T8) (.tuple [.tuple [.str "try", .tuple (List.replicate 200 saveC)]]) :=
        Dd.same s23 _ _ (.tup e22 (.cons (.tup (s22 _ _ e21) (.cons (.str _) (.cons (Dd.same (s21.trans s22) _ _ f4) .nil))) .nil))
      have a23 : DdAll K H23 [.ref R1, .ref R2, .ref T5, .ref T8] [.tuple (List.replicate 200 saveC), .tuple (List.replicate 201 saveC), .tuple [.tuple [.str "try", .tuple (List.replicate 199 saveC)]], .tuple [.tuple [.str "try", .tuple (List.replicate 200 saveC)]]] := .cons f1 (.cons f2 (.cons f5 (.cons f6 .nil)))
      have dl23 := Dd.same (s11.trans k13) _ _ dl
      cases dl23 with
      | lst eL23 aL23 =>
      rename_i xsL
      have lxs := aL23.length
      rw [List.length_cons] at lxs
      have ldsq : ds.length ≤ 6 + 4 * 6 := ldsq
      refine g_catL eL23 e23 (by rw [lxs]; simp; omega) fun L24 H24 n24 s24 e24 => ?_
      have i24 := DdAll.same s24 _ _ (aL23.append a23)
      have nrep : ∀ n, npE (.tuple (List.replicate n saveC)) = true := fun n => npEs_iff.mpr fun s z => by rw [(List.mem_replicate.mp z).2]; rfl
      have brep : ∀ n, n ≤ 1000 → Basic 21 (.tuple (List.replicate n saveC)) := fun n hn => Basic.tup (fun s z => (rst n s z).ba) (by rw [List.length_replicate]; exact hn)
      have frep : ∀ n, n ≤ 1000 → ∀ q, Fit q (.tuple (List.replicate n saveC)) := fun n hn => fit_plan (m := 20) (rst n) (by rw [List.length_replicate]; exact hn) (by decide)
      have ttry : ∀ n, n ≤ 1000 → Thing (.tuple [.tuple [.str "try", .tuple (List.replicate n saveC)]]) := fun n hn => by
        refine .of ?_ (fit_plan (m := 22) (fun s z => ?_) (by simp) (by decide))
        · have := nrep n
          simp only [npE, npEs, Bool.and_true, Bool.true_and]
          exact this
        · rw [List.mem_singleton.mp z]
          exact StepF.try_ (brep n hn) (frep n hn)
      have all24 : ∀ d ∈ (PyData.tuple ss :: ds) ++ [PyData.tuple (List.replicate 200 saveC), .tuple (List.replicate 201 saveC), .tuple [.tuple [.str "try", .tuple (List.replicate 199 saveC)]], .tuple [.tuple [.str "try", .tuple (List.replicate 200 saveC)]]], Thing d := by
        intro d hd
        rcases List.mem_append.mp hd with hd | hd
        · exact hds d hd
        · simp only [List.mem_cons, List.not_mem_nil, or_false] at hd
          rcases hd with rfl | rfl | rfl | rfl
          · exact .of (nrep 200) (frep 200 (by decide))
          · exact .of (nrep 201) (frep 201 (by decide))
          · exact ttry 199 (by decide)
          · exact ttry 200 (by decide)
      have back : Same H H24 := D10.back (s1.trans s2) hpn |>.trans ((s11.trans k13).trans s24)
      walk_at "tx"
      refine ⟨L24, rfl, ⟨_, SqL.of e24⟩, ?_⟩
      refine for_data e24 (fun σ => ∃ o4 o6 o7 o8 o9, σ = [some (.ref a), some (.int (0 + (i : Int))), some (.ref p), some (.ref ap), o4, some v9, o6, o7, o8, o9]) ⟨_, _, _, _, _, rfl⟩ ?_ ?_
      · rintro v hv σ H25 ⟨o4, o6, o7, o8, o9, rfl⟩ s25
        obtain ⟨d, ddv, td⟩ := DdAll.find i24 all24 hv
        have d25 := Dd.same s25 _ _ ddv
        walk_at "tx"
        refine ⟨v, d, rfl, d25, td.p, fun H26 s26 => ?_⟩
        walk_at "tx"
        refine ⟨v, d, H26, 0, rfl, Same.refl _, Dd.same s26 _ _ d25, td.c, fun H27 s27 => ?_⟩
        walk_at "tx"
        refine ⟨_, _, rfl, ?_⟩
        refine ⟨_, rfl, ?_⟩
        have pc : (planD d == decide (((cntD 6 d 0 : Nat) : Int) ≤ 200)) = true := by
          rw [← plan_count d, beq_iff_eq]
          apply decide_eq_decide.mpr
          omega
        rw [pc]
        refine iteF ?_
        walk_at "tx"
        exact ⟨⟨_, _, _, _, _, rfl⟩, ((s25.trans s26).trans s27)⟩
      · rintro σ H25 ⟨o4, o6, o7, o8, o9, rfl⟩ s25
        walk_at "tx"
        exact ⟨_, _, _, _, _, _, _, _, _, rfl, back.trans s25⟩
  · rintro σ H1 ⟨o1, o2, o3, o4, o5, o6, o7, o8, o9, rfl, s1⟩
    walk_at "tx"
    exact k _
end
end K75

set_option Elab.async false
set_option linter.all false
set_option maxRecDepth 100000
set_option maxHeartbeats 4000000
namespace K75
open PySem PySem.Spec PyProof.Rows L2 Tk
theorem obj_mk {K : PySem.W.Frag} {b : Addr} {xs : List Str} (h : ∃ (gd : Option Addr) (its : Array Value) (n : Nat) (sl : Array (Option Value)), K.lookup b = some ⟨.type "tuple", gd, .seq its n, sl⟩ ∧ its.size ≤ sizeLine ∧ StrsAre its.toList xs) :
    ∃ (o : Obj) (its : Array Value) (n : Nat), K.lookup b = some o ∧ o.cls = .type "tuple" ∧ o.data = .seq its n ∧ its.size ≤ sizeLine ∧ StrsAre its.toList xs := by
  obtain ⟨gd, its, n, sl, h1, h2, h3⟩ := h
  exact ⟨_, its, n, h1, rfl, rfl, h2, h3⟩
theorem fn_false {P : Program} {w : World} {K : PySem.W.Frag} {mg : Str → Option Value} {base : Heap} {CX : CXT} {k : Nat} {f : Addr} {fd : FuncData} {ps : List Str} : FnOk P w K mg base CX k f fd ps (fun _ _ _ _ => False) :=
  ⟨fun _ _ _ _ h => h.elim, fun _ _ _ _ _ _ _ _ _ _ _ _ _ h => h.elim⟩
theorem all_mk {l : PySem.W.OpenLaw} {w : World} {K : PySem.W.Frag} {h : Heap} {mg : Str → Option Value} {fa : Addr} {t1 t2 t3 t4 t5 t6 : Tok} (X : K.In h) (G : h.Ns mainGlobals mg) (hfa : mg "law" = some (.ref fa))
    {od0 an0 : Option Addr} {sl0 : Array (Option Value)} {oc0 kV0 dc0 pm0 cd0 ct0 : Value} {f0 : Addr}
    {od1 an1 : Option Addr} {sl1 : Array (Option Value)} {oc1 kV1 dc1 pm1 cd1 ct1 : Value} {f1 : Addr}
    {od2 an2 : Option Addr} {sl2 : Array (Option Value)} {oc2 kV2 dc2 pm2 cd2 ct2 : Value} {f2 : Addr}
    {od3 an3 : Option Addr} {sl3 : Array (Option Value)} {oc3 kV3 dc3 pm3 cd3 ct3 : Value} {f3 : Addr}
    {od4 an4 : Option Addr} {sl4 : Array (Option Value)} {oc4 kV4 dc4 pm4 cd4 ct4 : Value} {f4 : Addr}
    {od5 an5 : Option Addr} {sl5 : Array (Option Value)} {oc5 kV5 dc5 pm5 cd5 ct5 : Value} {f5 : Addr}
    {od6 an6 : Option Addr} {sl6 : Array (Option Value)} {oc6 kV6 dc6 pm6 cd6 ct6 : Value} {f6 : Addr}
    {od7 an7 : Option Addr} {sl7 : Array (Option Value)} {oc7 kV7 dc7 pm7 cd7 ct7 : Value} {f7 : Addr}
    {od8 an8 : Option Addr} {sl8 : Array (Option Value)} {oc8 kV8 dc8 pm8 cd8 ct8 : Value} {f8 : Addr}
    {od9 an9 : Option Addr} {sl9 : Array (Option Value)} {oc9 kV9 dc9 pm9 cd9 ct9 : Value} {f9 : Addr}
    {od10 an10 : Option Addr} {sl10 : Array (Option Value)} {oc10 kV10 dc10 pm10 cd10 ct10 : Value} {f10 : Addr}
    {od11 an11 : Option Addr} {sl11 : Array (Option Value)} {oc11 kV11 dc11 pm11 cd11 ct11 : Value} {f11 : Addr}
    {od12 an12 : Option Addr} {sl12 : Array (Option Value)} {oc12 kV12 dc12 pm12 cd12 ct12 : Value} {f12 : Addr}
    {od13 an13 : Option Addr} {sl13 : Array (Option Value)} {oc13 kV13 dc13 pm13 cd13 ct13 : Value} {f13 : Addr}
    {od14 an14 : Option Addr} {sl14 : Array (Option Value)} {oc14 kV14 dc14 pm14 cd14 ct14 : Value} {f14 : Addr}
    {od15 an15 : Option Addr} {sl15 : Array (Option Value)} {oc15 kV15 dc15 pm15 cd15 ct15 : Value} {f15 : Addr}
    {od16 an16 : Option Addr} {sl16 : Array (Option Value)} {oc16 kV16 dc16 pm16 cd16 ct16 : Value} {f16 : Addr}
    {od17 an17 : Option Addr} {sl17 : Array (Option Value)} {oc17 kV17 dc17 pm17 cd17 ct17 : Value} {f17 : Addr}
    {od18 an18 : Option Addr} {sl18 : Array (Option Value)} {oc18 kV18 dc18 pm18 cd18 ct18 : Value} {f18 : Addr}
    {od19 an19 : Option Addr} {sl19 : Array (Option Value)} {oc19 kV19 dc19 pm19 cd19 ct19 : Value} {f19 : Addr}
    {od20 an20 : Option Addr} {sl20 : Array (Option Value)} {oc20 kV20 dc20 pm20 cd20 ct20 : Value} {f20 : Addr}
    {od21 an21 : Option Addr} {sl21 : Array (Option Value)} {oc21 kV21 dc21 pm21 cd21 ct21 : Value} {f21 : Addr}
    {od22 an22 : Option Addr} {sl22 : Array (Option Value)} {oc22 kV22 dc22 pm22 cd22 ct22 : Value} {f22 : Addr}
    {DF : Addr} {fes : Array DictEntry} {fn : Nat}
    (a0 : PySem.W.nsIn K mainGlobals "is_word" = some (some (.ref f0))) (l0 : K.lookup f0 = some ⟨oc0, od0, .func (PySem.W.fnOf "is_word" "is_word" (defArgs s_is_word) (defBody s_is_word) (defScope s_is_word) .none kV0 dc0 pm0 an0 cd0 ct0), sl0⟩) (c0 : PySem.W.codeIn K cd0 "is_word" = true) (k0 : PySem.W.keepIn K (.ref f0) = true)
    (a1 : PySem.W.nsIn K mainGlobals "is_value" = some (some (.ref f1))) (l1 : K.lookup f1 = some ⟨oc1, od1, .func (PySem.W.fnOf "is_value" "is_value" (defArgs s_is_value) (defBody s_is_value) (defScope s_is_value) .none kV1 dc1 pm1 an1 cd1 ct1), sl1⟩) (c1 : PySem.W.codeIn K cd1 "is_value" = true) (k1 : PySem.W.keepIn K (.ref f1) = true)
    (a2 : PySem.W.nsIn K mainGlobals "is_number" = some (some (.ref f2))) (l2 : K.lookup f2 = some ⟨oc2, od2, .func (PySem.W.fnOf "is_number" "is_number" (defArgs s_is_number) (defBody s_is_number) (defScope s_is_number) .none kV2 dc2 pm2 an2 cd2 ct2), sl2⟩) (c2 : PySem.W.codeIn K cd2 "is_number" = true) (k2 : PySem.W.keepIn K (.ref f2) = true)
    (a3 : PySem.W.nsIn K mainGlobals "_is_index" = some (some (.ref f3))) (l3 : K.lookup f3 = some ⟨oc3, od3, .func (PySem.W.fnOf "_is_index" "_is_index" (defArgs s_is_index) (defBody s_is_index) (defScope s_is_index) .none kV3 dc3 pm3 an3 cd3 ct3), sl3⟩) (c3 : PySem.W.codeIn K cd3 "_is_index" = true) (k3 : PySem.W.keepIn K (.ref f3) = true)
    (a4 : PySem.W.nsIn K mainGlobals "_are_keys" = some (some (.ref f4))) (l4 : K.lookup f4 = some ⟨oc4, od4, .func (PySem.W.fnOf "_are_keys" "_are_keys" (defArgs s_are_keys) (defBody s_are_keys) (defScope s_are_keys) .none kV4 dc4 pm4 an4 cd4 ct4), sl4⟩) (c4 : PySem.W.codeIn K cd4 "_are_keys" = true) (k4 : PySem.W.keepIn K (.ref f4) = true)
    (a5 : PySem.W.nsIn K mainGlobals "_is_part" = some (some (.ref f5))) (l5 : K.lookup f5 = some ⟨oc5, od5, .func (PySem.W.fnOf "_is_part" "_is_part" (defArgs s_is_part) (defBody s_is_part) (defScope s_is_part) .none kV5 dc5 pm5 an5 cd5 ct5), sl5⟩) (c5 : PySem.W.codeIn K cd5 "_is_part" = true) (k5 : PySem.W.keepIn K (.ref f5) = true)
    (a6 : PySem.W.nsIn K mainGlobals "is_event" = some (some (.ref f6))) (l6 : K.lookup f6 = some ⟨oc6, od6, .func (PySem.W.fnOf "is_event" "is_event" (defArgs s_is_event) (defBody s_is_event) (defScope s_is_event) .none kV6 dc6 pm6 an6 cd6 ct6), sl6⟩) (c6 : PySem.W.codeIn K cd6 "is_event" = true) (k6 : PySem.W.keepIn K (.ref f6) = true)
    (a7 : PySem.W.nsIn K mainGlobals "_is_full" = some (some (.ref f7))) (l7 : K.lookup f7 = some ⟨oc7, od7, .func (PySem.W.fnOf "_is_full" "_is_full" (defArgs s_is_full) (defBody s_is_full) (defScope s_is_full) .none kV7 dc7 pm7 an7 cd7 ct7), sl7⟩) (c7 : PySem.W.codeIn K cd7 "_is_full" = true) (k7 : PySem.W.keepIn K (.ref f7) = true)
    (a8 : PySem.W.nsIn K mainGlobals "_is_count" = some (some (.ref f8))) (l8 : K.lookup f8 = some ⟨oc8, od8, .func (PySem.W.fnOf "_is_count" "_is_count" (defArgs s_is_count) (defBody s_is_count) (defScope s_is_count) .none kV8 dc8 pm8 an8 cd8 ct8), sl8⟩) (c8 : PySem.W.codeIn K cd8 "_is_count" = true) (k8 : PySem.W.keepIn K (.ref f8) = true)
    (a9 : PySem.W.nsIn K mainGlobals "_is_step" = some (some (.ref f9))) (l9 : K.lookup f9 = some ⟨oc9, od9, .func (PySem.W.fnOf "_is_step" "_is_step" (defArgs s_is_step) (defBody s_is_step) (defScope s_is_step) .none kV9 dc9 pm9 an9 cd9 ct9), sl9⟩) (c9 : PySem.W.codeIn K cd9 "_is_step" = true) (k9 : PySem.W.keepIn K (.ref f9) = true)
    (a10 : PySem.W.nsIn K mainGlobals "_plans_in" = some (some (.ref f10))) (l10 : K.lookup f10 = some ⟨oc10, od10, .func (PySem.W.fnOf "_plans_in" "_plans_in" (defArgs s_plans_in) (defBody s_plans_in) (defScope s_plans_in) .none kV10 dc10 pm10 an10 cd10 ct10), sl10⟩) (c10 : PySem.W.codeIn K cd10 "_plans_in" = true) (k10 : PySem.W.keepIn K (.ref f10) = true)
    (a11 : PySem.W.nsIn K mainGlobals "is_plan" = some (some (.ref f11))) (l11 : K.lookup f11 = some ⟨oc11, od11, .func (PySem.W.fnOf "is_plan" "is_plan" (defArgs s_is_plan) (defBody s_is_plan) (defScope s_is_plan) .none kV11 dc11 pm11 an11 cd11 ct11), sl11⟩) (c11 : PySem.W.codeIn K cd11 "is_plan" = true) (k11 : PySem.W.keepIn K (.ref f11) = true)
    (a12 : PySem.W.nsIn K mainGlobals "_law_pool" = some (some (.ref f12))) (l12 : K.lookup f12 = some ⟨oc12, od12, .func (PySem.W.fnOf "_law_pool" "_law_pool" (defArgs s_L_pool) (defBody s_L_pool) (defScope s_L_pool) .none kV12 dc12 pm12 an12 cd12 ct12), sl12⟩) (c12 : PySem.W.codeIn K cd12 "_law_pool" = true) (k12 : PySem.W.keepIn K (.ref f12) = true)
    (a13 : PySem.W.nsIn K mainGlobals "_law_take" = some (some (.ref f13))) (l13 : K.lookup f13 = some ⟨oc13, od13, .func (PySem.W.fnOf "_law_take" "_law_take" (defArgs s_L_take) (defBody s_L_take) (defScope s_L_take) .none kV13 dc13 pm13 an13 cd13 ct13), sl13⟩) (c13 : PySem.W.codeIn K cd13 "_law_take" = true) (k13 : PySem.W.keepIn K (.ref f13) = true)
    (a14 : PySem.W.nsIn K mainGlobals "_law_step" = some (some (.ref f14))) (l14 : K.lookup f14 = some ⟨oc14, od14, .func (PySem.W.fnOf "_law_step" "_law_step" (defArgs s_L_step) (defBody s_L_step) (defScope s_L_step) .none kV14 dc14 pm14 an14 cd14 ct14), sl14⟩) (c14 : PySem.W.codeIn K cd14 "_law_step" = true) (k14 : PySem.W.keepIn K (.ref f14) = true)
    (a15 : PySem.W.nsIn K mainGlobals "_law_plan" = some (some (.ref f15))) (l15 : K.lookup f15 = some ⟨oc15, od15, .func (PySem.W.fnOf "_law_plan" "_law_plan" (defArgs s_L_plan) (defBody s_L_plan) (defScope s_L_plan) .none kV15 dc15 pm15 an15 cd15 ct15), sl15⟩) (c15 : PySem.W.codeIn K cd15 "_law_plan" = true) (k15 : PySem.W.keepIn K (.ref f15) = true)
    (a16 : PySem.W.nsIn K mainGlobals "_law_same" = some (some (.ref f16))) (l16 : K.lookup f16 = some ⟨oc16, od16, .func (PySem.W.fnOf "_law_same" "_law_same" (defArgs s_L_same) (defBody s_L_same) (defScope s_L_same) .none kV16 dc16 pm16 an16 cd16 ct16), sl16⟩) (c16 : PySem.W.codeIn K cd16 "_law_same" = true) (k16 : PySem.W.keepIn K (.ref f16) = true)
    (a17 : PySem.W.nsIn K mainGlobals "_law_is_word" = some (some (.ref f17))) (l17 : K.lookup f17 = some ⟨oc17, od17, .func (PySem.W.fnOf "_law_is_word" "_law_is_word" (defArgs s_L_is_word) (defBody s_L_is_word) (defScope s_L_is_word) .none kV17 dc17 pm17 an17 cd17 ct17), sl17⟩) (c17 : PySem.W.codeIn K cd17 "_law_is_word" = true) (k17 : PySem.W.keepIn K (.ref f17) = true)
    (a18 : PySem.W.nsIn K mainGlobals "_law_inner" = some (some (.ref f18))) (l18 : K.lookup f18 = some ⟨oc18, od18, .func (PySem.W.fnOf "_law_inner" "_law_inner" (defArgs s_L_inner) (defBody s_L_inner) (defScope s_L_inner) .none kV18 dc18 pm18 an18 cd18 ct18), sl18⟩) (c18 : PySem.W.codeIn K cd18 "_law_inner" = true) (k18 : PySem.W.keepIn K (.ref f18) = true)
    (a19 : PySem.W.nsIn K mainGlobals "_law_count" = some (some (.ref f19))) (l19 : K.lookup f19 = some ⟨oc19, od19, .func (PySem.W.fnOf "_law_count" "_law_count" (defArgs s_L_count) (defBody s_L_count) (defScope s_L_count) .none kV19 dc19 pm19 an19 cd19 ct19), sl19⟩) (c19 : PySem.W.codeIn K cd19 "_law_count" = true) (k19 : PySem.W.keepIn K (.ref f19) = true)
    (a20 : PySem.W.nsIn K mainGlobals "_law_odd" = some (some (.ref f20))) (l20 : K.lookup f20 = some ⟨oc20, od20, .func (PySem.W.fnOf "_law_odd" "_law_odd" (defArgs s_L_odd) (defBody s_L_odd) (defScope s_L_odd) .none kV20 dc20 pm20 an20 cd20 ct20), sl20⟩) (c20 : PySem.W.codeIn K cd20 "_law_odd" = true) (k20 : PySem.W.keepIn K (.ref f20) = true)
    (a21 : PySem.W.nsIn K mainGlobals "_law_deeper" = some (some (.ref f21))) (l21 : K.lookup f21 = some ⟨oc21, od21, .func (PySem.W.fnOf "_law_deeper" "_law_deeper" (defArgs s_L_deeper) (defBody s_L_deeper) (defScope s_L_deeper) .none kV21 dc21 pm21 an21 cd21 ct21), sl21⟩) (c21 : PySem.W.codeIn K cd21 "_law_deeper" = true) (k21 : PySem.W.keepIn K (.ref f21) = true)
    (a22 : PySem.W.nsIn K mainGlobals "law" = some (some (.ref f22))) (l22 : K.lookup f22 = some ⟨oc22, od22, .func (PySem.W.fnOf "law" "law" (defArgs s_law) (defBody s_law) (defScope s_law) .none kV22 dc22 pm22 an22 cd22 ct22), sl22⟩) (c22 : PySem.W.codeIn K cd22 "law" = true) (k22 : PySem.W.keepIn K (.ref f22) = true)
    (f_a : PySem.W.nsIn K mainGlobals "FORMS" = some (some (.ref DF)))
    (f_l : K.lookup DF = some ⟨.type "dict", none, .dict fes fn, #[]⟩)
    (f_s : (DF == sysModules) = false)
    (f_r : RowsAt K w.params fes.toList formsT)
    (z_len : PySem.W.nsIn K mainGlobals "len" = some none)
    (z_all : PySem.W.nsIn K mainGlobals "all" = some none)
    (z_isinstance : PySem.W.nsIn K mainGlobals "isinstance" = some none)
    (z_str : PySem.W.nsIn K mainGlobals "str" = some none)
    (z_tuple : PySem.W.nsIn K mainGlobals "tuple" = some none)
    (z_int : PySem.W.nsIn K mainGlobals "int" = some none)
    (z_bool : PySem.W.nsIn K mainGlobals "bool" = some none)
    (z_list : PySem.W.nsIn K mainGlobals "list" = some none)
    (z_set : PySem.W.nsIn K mainGlobals "set" = some none)
    (z_sorted : PySem.W.nsIn K mainGlobals "sorted" = some none)
    (z_zip : PySem.W.nsIn K mainGlobals "zip" = some none)
    (z_range : PySem.W.nsIn K mainGlobals "range" = some none)
    (z_max : PySem.W.nsIn K mainGlobals "max" = some none)
    (z_min : PySem.W.nsIn K mainGlobals "min" = some none)
    (g_LONGEST_WORD : PySem.W.nsIn K mainGlobals "LONGEST_WORD" = some (some (.int 8 t1)))
    (g_LONGEST_VALUE : PySem.W.nsIn K mainGlobals "LONGEST_VALUE" = some (some (.int 40 t2)))
    (g_GREATEST_NUMBER : PySem.W.nsIn K mainGlobals "GREATEST_NUMBER" = some (some (.int 1000000000000000 t3)))
    (g_DEEPEST : PySem.W.nsIn K mainGlobals "DEEPEST" = some (some (.int 6 t4)))
    (g_MOST_STEPS : PySem.W.nsIn K mainGlobals "MOST_STEPS" = some (some (.int 200 t5)))
    (g_MOST_TIMES : PySem.W.nsIn K mainGlobals "MOST_TIMES" = some (some (.int 20 t6))) :
    ∃ fd : FuncData, (∀ (s : Shared) (v : Value), BindsTo s fd ⟨[v], []⟩ [("_law_script", v)]) ∧ ∀ base : Heap, K.In base → base.Ns mainGlobals mg → FnOk l.prog w K mg base CX0 21 fa fd ["_law_script"] (spLaw K) := by
  have e := hfa.symm.trans (PySem.W.mg_of X G a22)
  cases e
  have T : Txt mg t1 t2 t3 t4 t5 t6 := ⟨PySem.W.mg_none_of X G z_len, PySem.W.mg_none_of X G z_all, PySem.W.mg_none_of X G z_isinstance, PySem.W.mg_none_of X G z_str, PySem.W.mg_none_of X G z_tuple, PySem.W.mg_none_of X G z_int, PySem.W.mg_none_of X G z_bool, PySem.W.mg_none_of X G z_list, PySem.W.mg_none_of X G z_set, PySem.W.mg_none_of X G z_sorted, PySem.W.mg_none_of X G z_zip, PySem.W.mg_none_of X G z_range, PySem.W.mg_none_of X G z_max, PySem.W.mg_none_of X G z_min, PySem.W.mg_of X G g_LONGEST_WORD, PySem.W.mg_of X G g_LONGEST_VALUE, PySem.W.mg_of X G g_GREATEST_NUMBER, PySem.W.mg_of X G g_DEEPEST, PySem.W.mg_of X G g_MOST_STEPS, PySem.W.mg_of X G g_MOST_TIMES⟩
  have hDF := PySem.W.mg_of X G f_a
  have hTab : TabK K w.params DF formsT := ⟨fes, fn, f_l, f_s, f_r⟩
  have F_is_word := fun_mk (st := s_is_word) l0 c0 k0
  have b_is_word := F_is_word.binds (ps := p_is_word) fun _ _ _ _ _ _ us hl => match us, hl with | [_], _ => rfl
  have F_is_value := fun_mk (st := s_is_value) l1 c1 k1
  have b_is_value := F_is_value.binds (ps := p_is_value) fun _ _ _ _ _ _ us hl => match us, hl with | [_], _ => rfl
  have F_is_number := fun_mk (st := s_is_number) l2 c2 k2
  have b_is_number := F_is_number.binds (ps := p_is_number) fun _ _ _ _ _ _ us hl => match us, hl with | [_], _ => rfl
  have F_is_index := fun_mk (st := s_is_index) l3 c3 k3
  have b_is_index := F_is_index.binds (ps := p_is_index) fun _ _ _ _ _ _ us hl => match us, hl with | [_], _ => rfl
  have F_are_keys := fun_mk (st := s_are_keys) l4 c4 k4
  have b_are_keys := F_are_keys.binds (ps := p_are_keys) fun _ _ _ _ _ _ us hl => match us, hl with | [_], _ => rfl
  have F_is_part := fun_mk (st := s_is_part) l5 c5 k5
  have b_is_part := F_is_part.binds (ps := p_is_part) fun _ _ _ _ _ _ us hl => match us, hl with | [_, _], _ => rfl
  have F_is_event := fun_mk (st := s_is_event) l6 c6 k6
  have b_is_event := F_is_event.binds (ps := p_is_event) fun _ _ _ _ _ _ us hl => match us, hl with | [_], _ => rfl
  have F_is_full := fun_mk (st := s_is_full) l7 c7 k7
  have b_is_full := F_is_full.binds (ps := p_is_full) fun _ _ _ _ _ _ us hl => match us, hl with | [_], _ => rfl
  have F_is_count := fun_mk (st := s_is_count) l8 c8 k8
  have b_is_count := F_is_count.binds (ps := p_is_count) fun _ _ _ _ _ _ us hl => match us, hl with | [_], _ => rfl
  have F_is_step := fun_mk (st := s_is_step) l9 c9 k9
  have b_is_step := F_is_step.binds (ps := p_is_step) fun _ _ _ _ _ _ us hl => match us, hl with | [_], _ => rfl
  have F_plans_in := fun_mk (st := s_plans_in) l10 c10 k10
  have b_plans_in := F_plans_in.binds (ps := p_plans_in) fun _ _ _ _ _ _ us hl => match us, hl with | [_], _ => rfl
  have F_is_plan := fun_mk (st := s_is_plan) l11 c11 k11
  have b_is_plan := F_is_plan.binds (ps := p_is_plan) fun _ _ _ _ _ _ us hl => match us, hl with | [_], _ => rfl
  have F_L_pool := fun_mk (st := s_L_pool) l12 c12 k12
  have b_L_pool := F_L_pool.binds (ps := p_L_pool) fun _ _ _ _ _ _ us hl => match us, hl with | [_, _], _ => rfl
  have F_L_take := fun_mk (st := s_L_take) l13 c13 k13
  have b_L_take := F_L_take.binds (ps := p_L_take) fun _ _ _ _ _ _ us hl => match us, hl with | [_, _], _ => rfl
  have F_L_step := fun_mk (st := s_L_step) l14 c14 k14
  have b_L_step := F_L_step.binds (ps := p_L_step) fun _ _ _ _ _ _ us hl => match us, hl with | [_, _], _ => rfl
  have F_L_plan := fun_mk (st := s_L_plan) l15 c15 k15
  have b_L_plan := F_L_plan.binds (ps := p_L_plan) fun _ _ _ _ _ _ us hl => match us, hl with | [_, _, _], _ => rfl
  have F_L_same := fun_mk (st := s_L_same) l16 c16 k16
  have b_L_same := F_L_same.binds (ps := p_L_same) fun _ _ _ _ _ _ us hl => match us, hl with | [_, _], _ => rfl
  have F_L_is_word := fun_mk (st := s_L_is_word) l17 c17 k17
  have b_L_is_word := F_L_is_word.binds (ps := p_L_is_word) fun _ _ _ _ _ _ us hl => match us, hl with | [_], _ => rfl
  have F_L_inner := fun_mk (st := s_L_inner) l18 c18 k18
  have b_L_inner := F_L_inner.binds (ps := p_L_inner) fun _ _ _ _ _ _ us hl => match us, hl with | [_], _ => rfl
  have F_L_count := fun_mk (st := s_L_count) l19 c19 k19
  have b_L_count := F_L_count.binds (ps := p_L_count) fun _ _ _ _ _ _ us hl => match us, hl with | [_, _, _], _ => rfl
  have F_L_odd := fun_mk (st := s_L_odd) l20 c20 k20
  have b_L_odd := F_L_odd.binds (ps := p_L_odd) fun _ _ _ _ _ _ us hl => match us, hl with | [_], _ => rfl
  have F_L_deeper := fun_mk (st := s_L_deeper) l21 c21 k21
  have b_L_deeper := F_L_deeper.binds (ps := p_L_deeper) fun _ _ _ _ _ _ us hl => match us, hl with | [_, _], _ => rfl
  have F_law := fun_mk (st := s_law) l22 c22 k22
  have b_law := F_law.binds (ps := p_law) fun _ _ _ _ _ _ us hl => match us, hl with | [_], _ => rfl
  refine ⟨PySem.W.fnOf "law" "law" (defArgs s_law) (defBody s_law) (defScope s_law) .none kV22 dc22 pm22 an22 cd22 ct22, fun s v => .of_eq rfl, fun base _ _ => ?_⟩
  have K_is_word := Cal.of (PySem.W.mg_of X G a0) k0 b_is_word (ok_is_word (P := l.prog) (w := w) (base := base) (T := T) (F := F_is_word) )
  have K_is_value := Cal.of (PySem.W.mg_of X G a1) k1 b_is_value (ok_is_value (P := l.prog) (w := w) (base := base) (T := T) (F := F_is_value) )
  have K_is_number := Cal.of (PySem.W.mg_of X G a2) k2 b_is_number (ok_is_number (P := l.prog) (w := w) (base := base) (T := T) (F := F_is_number) )
  have K_is_index := Cal.of (PySem.W.mg_of X G a3) k3 b_is_index (ok_is_index (P := l.prog) (w := w) (base := base) (T := T) (F := F_is_index) )
  have K_are_keys := Cal.of (PySem.W.mg_of X G a4) k4 b_are_keys (ok_are_keys (P := l.prog) (w := w) (base := base) (T := T) (F := F_are_keys) (K_is_word := K_is_word.mono (by decide)))
  have K_is_part := Cal.of (PySem.W.mg_of X G a5) k5 b_is_part (ok_is_part (P := l.prog) (w := w) (base := base) (T := T) (F := F_is_part) (K_is_word := K_is_word.mono (by decide)) (K_is_value := K_is_value.mono (by decide)) (K_is_number := K_is_number.mono (by decide)) (K_is_index := K_is_index.mono (by decide)) (K_are_keys := K_are_keys.mono (by decide)))
  have K_is_event := Cal.of (PySem.W.mg_of X G a6) k6 b_is_event (ok_is_event (P := l.prog) (w := w) (base := base) (hDF := hDF) (hTab := hTab) (T := T) (F := F_is_event) (K_is_word := K_is_word.mono (by decide)) (K_is_part := K_is_part.mono (by decide)))
  have K_is_full := Cal.of (PySem.W.mg_of X G a7) k7 b_is_full (ok_is_full (P := l.prog) (w := w) (base := base) (T := T) (F := F_is_full) )
  have K_is_count := Cal.of (PySem.W.mg_of X G a8) k8 b_is_count (ok_is_count (P := l.prog) (w := w) (base := base) (T := T) (F := F_is_count) )
  have K_is_step := Cal.of (PySem.W.mg_of X G a9) k9 b_is_step (ok_is_step (P := l.prog) (w := w) (base := base) (T := T) (F := F_is_step) (K_is_word := K_is_word.mono (by decide)) (K_is_full := K_is_full.mono (by decide)) (K_is_event := K_is_event.mono (by decide)) (K_is_count := K_is_count.mono (by decide)))
  have K_plans_in := Cal.of (PySem.W.mg_of X G a10) k10 b_plans_in (ok_plans_in (P := l.prog) (w := w) (base := base) (T := T) (F := F_plans_in) )
  have K_is_plan := Cal.of (PySem.W.mg_of X G a11) k11 b_is_plan (ok_is_plan (P := l.prog) (w := w) (base := base) (T := T) (F := F_is_plan) (K_is_step := K_is_step.mono (by decide)) (K_plans_in := K_plans_in.mono (by decide)))
  have K_L_pool := Cal.of (PySem.W.mg_of X G a12) k12 b_L_pool (ok_L_pool (P := l.prog) (w := w) (base := base) (T := T) (F := F_L_pool) )
  have K_L_take := Cal.of (PySem.W.mg_of X G a13) k13 b_L_take (ok_L_take (P := l.prog) (w := w) (base := base) (T := T) (F := F_L_take) )
  have K_L_same := Cal.of (PySem.W.mg_of X G a16) k16 b_L_same (ok_L_same (P := l.prog) (w := w) (base := base) (T := T) (F := F_L_same) )
  have K_L_is_word := Cal.of (PySem.W.mg_of X G a17) k17 b_L_is_word (ok_L_is_word (P := l.prog) (w := w) (base := base) (T := T) (F := F_L_is_word) )
  have K_L_inner := Cal.of (PySem.W.mg_of X G a18) k18 b_L_inner (ok_L_inner (P := l.prog) (w := w) (base := base) (T := T) (F := F_L_inner) (K_L_is_word := K_L_is_word.mono (by decide)) (K_is_event := K_is_event.mono (by decide)))
  have K_L_odd := Cal.of (PySem.W.mg_of X G a20) k20 b_L_odd (ok_L_odd (P := l.prog) (w := w) (base := base) (T := T) (F := F_L_odd) (K_L_take := K_L_take.mono (by decide)))
  have K_L_deeper := Cal.of (PySem.W.mg_of X G a21) k21 b_L_deeper (ok_L_deeper (P := l.prog) (w := w) (base := base) (T := T) (F := F_L_deeper) )
  have Kp_no := Cal.of (PySem.W.mg_of X G a15) k15 b_L_plan (fn_false (P := l.prog) (w := w) (K := K) (mg := mg) (base := base) (CX := CX0) (k := 2) (ps := p_L_plan) (f := f15))
  have Ks_0 := Cal.of (PySem.W.mg_of X G a14) k14 b_L_step (ok_L_step (P := l.prog) (w := w) (base := base) (T := T) (k0 := 2) (by decide) F_L_step 0 _ (fun m e => by cases e) (by decide) (K_L_take := K_L_take) (K_L_plan := Kp_no))
  have Kp_0 := Cal.of (PySem.W.mg_of X G a15) k15 b_L_plan (ok_L_plan (P := l.prog) (w := w) (base := base) (T := T) (k0 := 3) (by decide) F_L_plan 0 (K_L_take := K_L_take) (K_L_step := Ks_0))
  have Ks_1 := Cal.of (PySem.W.mg_of X G a14) k14 b_L_step (ok_L_step (P := l.prog) (w := w) (base := base) (T := T) (k0 := 4) (by decide) F_L_step 1 _ (fun m e => by cases e; rfl) (by decide) (K_L_take := K_L_take) (K_L_plan := Kp_0))
  have Kp_1 := Cal.of (PySem.W.mg_of X G a15) k15 b_L_plan (ok_L_plan (P := l.prog) (w := w) (base := base) (T := T) (k0 := 5) (by decide) F_L_plan 1 (K_L_take := K_L_take) (K_L_step := Ks_1))
  have Ks_2 := Cal.of (PySem.W.mg_of X G a14) k14 b_L_step (ok_L_step (P := l.prog) (w := w) (base := base) (T := T) (k0 := 6) (by decide) F_L_step 2 _ (fun m e => by cases e; rfl) (by decide) (K_L_take := K_L_take) (K_L_plan := Kp_1))
  have Kp_2 := Cal.of (PySem.W.mg_of X G a15) k15 b_L_plan (ok_L_plan (P := l.prog) (w := w) (base := base) (T := T) (k0 := 7) (by decide) F_L_plan 2 (K_L_take := K_L_take) (K_L_step := Ks_2))
  have Ks_3 := Cal.of (PySem.W.mg_of X G a14) k14 b_L_step (ok_L_step (P := l.prog) (w := w) (base := base) (T := T) (k0 := 8) (by decide) F_L_step 3 _ (fun m e => by cases e; rfl) (by decide) (K_L_take := K_L_take) (K_L_plan := Kp_2))
  have Kp_3 := Cal.of (PySem.W.mg_of X G a15) k15 b_L_plan (ok_L_plan (P := l.prog) (w := w) (base := base) (T := T) (k0 := 9) (by decide) F_L_plan 3 (K_L_take := K_L_take) (K_L_step := Ks_3))
  have Kc_no := Cal.of (PySem.W.mg_of X G a19) k19 b_L_count (fn_false (P := l.prog) (w := w) (K := K) (mg := mg) (base := base) (CX := CX0) (k := 8) (ps := p_L_count) (f := f19))
  have Kc_0 := Cal.of (PySem.W.mg_of X G a19) k19 b_L_count (ok_L_count (P := l.prog) (w := w) (base := base) (T := T) (k0 := 8) (by decide) F_L_count 0 _ (fun m e => by cases e) (by decide) (K_L_inner := K_L_inner) (K_L_count := Kc_no))
  have Kc_1 := Cal.of (PySem.W.mg_of X G a19) k19 b_L_count (ok_L_count (P := l.prog) (w := w) (base := base) (T := T) (k0 := 9) (by decide) F_L_count 1 _ (fun m e => by cases e; rfl) (by decide) (K_L_inner := K_L_inner) (K_L_count := Kc_0))
  have Kc_2 := Cal.of (PySem.W.mg_of X G a19) k19 b_L_count (ok_L_count (P := l.prog) (w := w) (base := base) (T := T) (k0 := 10) (by decide) F_L_count 2 _ (fun m e => by cases e; rfl) (by decide) (K_L_inner := K_L_inner) (K_L_count := Kc_1))
  have Kc_3 := Cal.of (PySem.W.mg_of X G a19) k19 b_L_count (ok_L_count (P := l.prog) (w := w) (base := base) (T := T) (k0 := 11) (by decide) F_L_count 3 _ (fun m e => by cases e; rfl) (by decide) (K_L_inner := K_L_inner) (K_L_count := Kc_2))
  have Kc_4 := Cal.of (PySem.W.mg_of X G a19) k19 b_L_count (ok_L_count (P := l.prog) (w := w) (base := base) (T := T) (k0 := 12) (by decide) F_L_count 4 _ (fun m e => by cases e; rfl) (by decide) (K_L_inner := K_L_inner) (K_L_count := Kc_3))
  have Kc_5 := Cal.of (PySem.W.mg_of X G a19) k19 b_L_count (ok_L_count (P := l.prog) (w := w) (base := base) (T := T) (k0 := 13) (by decide) F_L_count 5 _ (fun m e => by cases e; rfl) (by decide) (K_L_inner := K_L_inner) (K_L_count := Kc_4))
  have Kc_6 := Cal.of (PySem.W.mg_of X G a19) k19 b_L_count (ok_L_count (P := l.prog) (w := w) (base := base) (T := T) (k0 := 14) (by decide) F_L_count 6 _ (fun m e => by cases e; rfl) (by decide) (K_L_inner := K_L_inner) (K_L_count := Kc_5))
  exact ok_law T (F := F_law) (K_L_pool := K_L_pool.mono (by decide)) (K_L_take := K_L_take.mono (by decide)) (K_L_plan := Kp_3.mono (by decide)) (K_L_odd := K_L_odd.mono (by decide)) (K_L_deeper := K_L_deeper.mono (by decide)) (K_is_plan := K_is_plan.mono (by decide)) (K_L_count := Kc_6.mono (by decide)) (K_L_same := K_L_same.mono (by decide))
theorem walk {l : PySem.W.OpenLaw} {q : Program} {loose : List Str} {XP : (Str → Option Value) → Heap → Prop} {YP : World → Heap → Prop} {d : DefRec} {K : Params → PySem.W.Frag} (hn : l.most = some 63) (hdf : d.params.defaults = [])
    (hY : ∀ (w : World) (h : Heap), YP w h → (K w.params).In h)
    (F : ∀ (w : World) (mg : Str → Option Value) (fa : Addr) (h : Heap), (K w.params).In h → h.Ns mainGlobals mg → mg d.name = some (.ref fa) →
      ∃ fd : FuncData, (∀ (s : Shared) (u : Value), BindsTo s fd ⟨[u], []⟩ [("_law_script", u)]) ∧ ∀ base : Heap, (K w.params).In base → base.Ns mainGlobals mg → FnOk l.prog w (K w.params) mg base CX0 21 fa fd ["_law_script"] (spLaw (K w.params))) :
    PySem.W.WalkO q loose XP YP l.row.toRowW d [] (fun f vs => PySem.call f vs) :=
  L2.walk_of (n := 63) (k := 21) (x := "_law_script") (CX := fun _ => CX0) (sp := fun w => spLaw (K w.params)) hn (by decide) hdf ⟨rfl, by decide, by decide⟩ hY F (fun _ _ a ns hl _ hS => ⟨a, ns, rfl, hS, hl, fun _ => rfl⟩) fun _ _ _ _ _ z => z
end K75
open PySem PySem.W PyProof.Rows
set_option maxRecDepth 100000 in
set_option maxHeartbeats 0 in
theorem PySem.Challenge.cw_tombkeeper_k75_plans_judged_holds : PySem.Challenge.rw_tombkeeper_k75_plans_judged.Holds := by
  w_on; o_law; k_head; (case hw => w_witness2)
  k_fill
  refine K75.walk (l := PySem.Challenge.rw_tombkeeper_k75_plans_judged) rfl rfl (fun w h Y => PySem.W.kIn_of Y) ?F
  case F =>
    intro w mg fa h KX G hmg
    refine' K75.all_mk KX G hmg ?a0 ?l0 ?c0 ?k0 ?a1 ?l1 ?c1 ?k1 ?a2 ?l2 ?c2 ?k2 ?a3 ?l3 ?c3 ?k3 ?a4 ?l4 ?c4 ?k4 ?a5 ?l5 ?c5 ?k5 ?a6 ?l6 ?c6 ?k6 ?a7 ?l7 ?c7 ?k7 ?a8 ?l8 ?c8 ?k8 ?a9 ?l9 ?c9 ?k9 ?a10 ?l10 ?c10 ?k10 ?a11 ?l11 ?c11 ?k11 ?a12 ?l12 ?c12 ?k12 ?a13 ?l13 ?c13 ?k13 ?a14 ?l14 ?c14 ?k14 ?a15 ?l15 ?c15 ?k15 ?a16 ?l16 ?c16 ?k16 ?a17 ?l17 ?c17 ?k17 ?a18 ?l18 ?c18 ?k18 ?a19 ?l19 ?c19 ?k19 ?a20 ?l20 ?c20 ?k20 ?a21 ?l21 ?c21 ?k21 ?a22 ?l22 ?c22 ?k22 ?f_a ?f_l ?f_s ?f_r ?z_len ?z_all ?z_isinstance ?z_str ?z_tuple ?z_int ?z_bool ?z_list ?z_set ?z_sorted ?z_zip ?z_range ?z_max ?z_min ?g_LONGEST_WORD ?g_LONGEST_VALUE ?g_GREATEST_NUMBER ?g_DEEPEST ?g_MOST_STEPS ?g_MOST_TIMES
    (case a0 => first | k_is | rfl)
    (case l0 => first | k_is | rfl)
    (case c0 => first | k_is | rfl)
    (case k0 => first | k_is | rfl)
    (case a1 => first | k_is | rfl)
    (case l1 => first | k_is | rfl)
    (case c1 => first | k_is | rfl)
    (case k1 => first | k_is | rfl)
    (case a2 => first | k_is | rfl)
    (case l2 => first | k_is | rfl)
    (case c2 => first | k_is | rfl)
    (case k2 => first | k_is | rfl)
    (case a3 => first | k_is | rfl)
    (case l3 => first | k_is | rfl)
    (case c3 => first | k_is | rfl)
    (case k3 => first | k_is | rfl)
    (case a4 => first | k_is | rfl)
    (case l4 => first | k_is | rfl)
    (case c4 => first | k_is | rfl)
    (case k4 => first | k_is | rfl)
    (case a5 => first | k_is | rfl)
    (case l5 => first | k_is | rfl)
    (case c5 => first | k_is | rfl)
    (case k5 => first | k_is | rfl)
    (case a6 => first | k_is | rfl)
    (case l6 => first | k_is | rfl)
    (case c6 => first | k_is | rfl)
    (case k6 => first | k_is | rfl)
    (case a7 => first | k_is | rfl)
    (case l7 => first | k_is | rfl)
    (case c7 => first | k_is | rfl)
    (case k7 => first | k_is | rfl)
    (case a8 => first | k_is | rfl)
    (case l8 => first | k_is | rfl)
    (case c8 => first | k_is | rfl)
    (case k8 => first | k_is | rfl)
    (case a9 => first | k_is | rfl)
    (case l9 => first | k_is | rfl)
    (case c9 => first | k_is | rfl)
    (case k9 => first | k_is | rfl)
    (case a10 => first | k_is | rfl)
    (case l10 => first | k_is | rfl)
    (case c10 => first | k_is | rfl)
    (case k10 => first | k_is | rfl)
    (case a11 => first | k_is | rfl)
    (case l11 => first | k_is | rfl)
    (case c11 => first | k_is | rfl)
    (case k11 => first | k_is | rfl)
    (case a12 => first | k_is | rfl)
    (case l12 => first | k_is | rfl)
    (case c12 => first | k_is | rfl)
    (case k12 => first | k_is | rfl)
    (case a13 => first | k_is | rfl)
    (case l13 => first | k_is | rfl)
    (case c13 => first | k_is | rfl)
    (case k13 => first | k_is | rfl)
    (case a14 => first | k_is | rfl)
    (case l14 => first | k_is | rfl)
    (case c14 => first | k_is | rfl)
    (case k14 => first | k_is | rfl)
    (case a15 => first | k_is | rfl)
    (case l15 => first | k_is | rfl)
    (case c15 => first | k_is | rfl)
    (case k15 => first | k_is | rfl)
    (case a16 => first | k_is | rfl)
    (case l16 => first | k_is | rfl)
    (case c16 => first | k_is | rfl)
    (case k16 => first | k_is | rfl)
    (case a17 => first | k_is | rfl)
    (case l17 => first | k_is | rfl)
    (case c17 => first | k_is | rfl)
    (case k17 => first | k_is | rfl)
    (case a18 => first | k_is | rfl)
    (case l18 => first | k_is | rfl)
    (case c18 => first | k_is | rfl)
    (case k18 => first | k_is | rfl)
    (case a19 => first | k_is | rfl)
    (case l19 => first | k_is | rfl)
    (case c19 => first | k_is | rfl)
    (case k19 => first | k_is | rfl)
    (case a20 => first | k_is | rfl)
    (case l20 => first | k_is | rfl)
    (case c20 => first | k_is | rfl)
    (case k20 => first | k_is | rfl)
    (case a21 => first | k_is | rfl)
    (case l21 => first | k_is | rfl)
    (case c21 => first | k_is | rfl)
    (case k21 => first | k_is | rfl)
    (case a22 => first | k_is | rfl)
    (case l22 => first | k_is | rfl)
    (case c22 => first | k_is | rfl)
    (case k22 => first | k_is | rfl)
    (case f_a => first | k_is | rfl)
    (case f_l => first | k_is | rfl)
    (case f_s => first | rfl | decide)
    (case f_r => ((iterate 17 (refine Tk.RowsAt.cons ⟨⟨_, rfl, rfl⟩, _, rfl, K75.obj_mk ⟨_, _, _, _, by k_is, by decide, by first | exact .cons _ _ .nil | exact .cons _ _ (.cons _ _ .nil) | exact .cons _ _ (.cons _ _ (.cons _ _ .nil))⟩⟩ ?_)); exact .nil))
    (case z_len => first | k_is | rfl)
    (case z_all => first | k_is | rfl)
    (case z_isinstance => first | k_is | rfl)
    (case z_str => first | k_is | rfl)
    (case z_tuple => first | k_is | rfl)
    (case z_int => first | k_is | rfl)
    (case z_bool => first | k_is | rfl)
    (case z_list => first | k_is | rfl)
    (case z_set => first | k_is | rfl)
    (case z_sorted => first | k_is | rfl)
    (case z_zip => first | k_is | rfl)
    (case z_range => first | k_is | rfl)
    (case z_max => first | k_is | rfl)
    (case z_min => first | k_is | rfl)
    (case g_LONGEST_WORD => first | k_is | rfl)
    (case g_LONGEST_VALUE => first | k_is | rfl)
    (case g_GREATEST_NUMBER => first | k_is | rfl)
    (case g_DEEPEST => first | k_is | rfl)
    (case g_MOST_STEPS => first | k_is | rfl)
    (case g_MOST_TIMES => first | k_is | rfl)
