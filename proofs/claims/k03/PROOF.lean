import PyProof.Rows.All
import Wide.All
import OpenK.AllK
import Wide.FinOn
import PyProof.EqAt
import PyProof.EqKinds
import PyProof.TupleCall
import HandS.ForMost
import HandS.IsInst
import HandS.Wide
import HandS.TupLe
import HandS.Style
import HandS.TupAny
import HandS.Walk
import HandS.ForExc
import HandS.ExcInit
import HandS.ExcField
import HandS.ExcIs
import HandS.TryMany
import PyProof.ReprRoads
import HandS.Codes
import HandS.ReplaceList
import HandS.StrSplit
import HandS.ReplaceDef
import HandS.ReplaceLit
import HandS.FStr
import HandS.StrMore
import HandS.Lambda
import HandS.TryOnly
import KE.DataEq
import OpenK.KMeth
import OpenK.KOps
import HandS.More
import HandS.SlotsOwn
import HandS.SetFor
import HandS.Zip
import PyProof.Rows.SortStr
import PyProof.Rows.SortShellK
import HandS.Strs
import PyProof.StrLawsRepr
import KE.KRevSl
import HandS.Defaults
import HandS.MakeKw
import HandS.MakeKwOnly
import KE.KExcIs
import KE.KExcInit
import PySem.Challenge.RW_tombkeeper_k03_exceptions_apart
set_option Elab.async false
set_option linter.all false
set_option maxRecDepth 100000
set_option maxHeartbeats 4000000
namespace Tk
open PySem PySem.Spec PyProof.Rows L2

/-! ### a def that callers may use: its place, its promise -/
structure Cal (P : Program) (w : World) (K : PySem.W.Frag) (mg : Str → Option Value) (base : Heap) (CX : CXT) (k : Nat) (x : Str) (ps : List Str) (sp : Sp) : Prop where
  ex : ∃ (f : Addr) (fd : FuncData), mg x = some (.ref f) ∧ PySem.W.keepIn K (.ref f) = true ∧ Binds K fd ps [] ∧ FnOk P w K mg base CX k f fd ps sp
theorem Cal.mono {P : Program} {w : World} {K : PySem.W.Frag} {mg : Str → Option Value} {base : Heap} {CX : CXT} {j k : Nat} {x : Str} {ps : List Str} {sp : Sp} (C : Cal P w K mg base CX j x ps sp) (h : j ≤ k) : Cal P w K mg base CX k x ps sp := by
  obtain ⟨f, fd, hm, hk, hb, F⟩ := C.ex
  exact ⟨f, fd, hm, hk, hb, F.mono h⟩
theorem Cal.of {P : Program} {w : World} {K : PySem.W.Frag} {mg : Str → Option Value} {base : Heap} {CX : CXT} {k : Nat} {x : Str} {ps : List Str} {sp : Sp} {f : Addr} {fd : FuncData} (hm : mg x = some (.ref f)) (hk : PySem.W.keepIn K (.ref f) = true) (hb : Binds K fd ps []) (F : FnOk P w K mg base CX k f fd ps sp) : Cal P w K mg base CX k x ps sp :=
  ⟨f, fd, hm, hk, hb, F⟩
section
variable {X : Cx} {k : Nat} {ps : List Str} {sp : Sp} {CX : CXT} {x : Str} {p pos : Pos} {e : Expr} {es : List Expr} {t : TA} {E : XK}
theorem pe_cal (C : Cal X.prog X.w X.K X.mg X.base CX k x ps sp) (hr : Room k X.A) (hx : Passes CX X E) (ha : PA X (e :: es) t) (hg : Gl X x := by rfl)
    (hdb : (x == ("__debug__" : Str)) = false := by decide) (he : starEach (e :: es) X.env = (false, eval e X.env) :: starEach es X.env := by rfl) (hpl : (backTo pos (starEach es X.env)).any (·.1) = false := by rfl) :
    PE X (.Call (.Name x p) (e :: es) [] pos) (tCall sp [] E t) := by
  obtain ⟨f, fd, hm, hk, hb, F⟩ := C.ex
  exact pe_call F hr hg hm hk hb .nil hx ha hdb he hpl
theorem pe_cal0 (C : Cal X.prog X.w X.K X.mg X.base CX k x ps sp) (hr : Room k X.A) (hx : Passes CX X E) (hg : Gl X x := by rfl)
    (hdb : (x == ("__debug__" : Str)) = false := by decide) :
    PE X (.Call (.Name x p) [] [] pos) (tCall sp [] E tNil) := by
  obtain ⟨f, fd, hm, hk, hb, F⟩ := C.ex
  exact pe_call0 F hr hg hm hk hb .nil hx hdb
end

def AllocL (xs : List V) (H : Hp) (Q : VK) : Prop := xs.length ≤ sizeLine ∧ ∀ p, H p = none → Q (.ref p) (upd H p (.lst xs))
def AllocT (xs : List V) (H : Hp) (Q : VK) : Prop := xs.length ≤ sizeLine ∧ ∀ p, H p = none → Q (.ref p) (upd H p (.tup xs))
/-! ### readings, a construct at a time -/
section
variable {σ : L2.St} {H : Hp} {Q : VK} {D : Ends} {v : V} {i : Nat} {ta tb tc te : TE} {t u : TS} {r : R2} {K : PySem.W.Frag}
theorem r_var (h : σ[i]? = some (some v)) (q : Q v H) : tVar i σ H Q := ⟨v, h, q⟩
theorem r_c (q : Q v H) : tC v σ H Q := q
theorem r_op (h : ta σ H fun x H1 => tb σ H1 fun y H2 => r x y H2 Q) : tOp r ta tb σ H Q := h
theorem r_seq (h : t { D with nx := u D } σ H) : tSeq t u D σ H := h
theorem r_ret (h : te σ H D.rt) : tRet te D σ H := h
theorem r_retN (h : D.rt .non H) : tRetN D σ H := h
theorem r_set (h : te σ H fun x H1 => D.nx (σ.set i (some x)) H1) : tAsg te (gName i) D σ H := h
theorem r_drop (h : te σ H fun _ H1 => D.nx σ H1) : tDrop te D σ H := h
theorem r_next (h : D.nx σ H) : tNext D σ H := h
theorem r_ifS {c : TT} (h : c σ H fun b H1 => if b = true then t D σ H1 else u D σ H1) : tIfS c t u D σ H := h
theorem r_cons {tr : TA} {R : List V → Hp → Prop} (h : ta σ H fun x H1 => tr σ H1 fun xs H2 => R (x :: xs) H2) : tCons ta tr σ H R := h
theorem r_nil {R : List V → Hp → Prop} (h : R [] H) : tNil σ H R := h
theorem r_call {sp : Sp} {E : XK} {a : TA} (h : a σ H fun vs H1 => sp (vs ++ []) H1 Q E) : tCall sp [] E a σ H Q := h
theorem r_cb {f : List V → Hp → VK → Prop} {a : TA} (h : a σ H fun vs H1 => f vs H1 Q) : tCB f a σ H Q := h
theorem r_test {R : Bool → Hp → Prop} (h : te σ H fun x H1 => ∃ k, x = .bl k ∧ R k H1) : tTest te σ H R := h
theorem r_B {R : Bool → Hp → Prop} (h : te σ H fun x H1 => ∃ k, x = .bl k ∧ R k H1) : tB te σ H R := h
theorem r_not {c : TT} {R : Bool → Hp → Prop} (h : c σ H fun b H1 => R (!b) H1) : tNot c σ H R := h
theorem r_and {a b : TT} {R : Bool → Hp → Prop} (h : a σ H fun c H1 => if c = true then b σ H1 R else R false H1) : tAnd a b σ H R := h
theorem r_or {a b : TT} {R : Bool → Hp → Prop} (h : a σ H fun c H1 => if c = true then R true H1 else b σ H1 R) : tOr a b σ H R := h
theorem r_andV (h : ta σ H fun x H1 => ∃ c, x = .bl c ∧ if c = true then tb σ H1 Q else Q (.bl false) H1) : tAndV ta tb σ H Q := h
theorem r_orV (h : ta σ H fun x H1 => ∃ c, x = .bl c ∧ if c = true then Q (.bl true) H1 else tb σ H1 Q) : tOrV ta tb σ H Q := h
theorem r_notV (h : ta σ H fun x H1 => ∃ c, x = .bl c ∧ Q (.bl (!c)) H1) : tNotV ta σ H Q := h
theorem r_if {c : TT} (h : c σ H fun b H1 => if b = true then ta σ H1 Q else tb σ H1 Q) : tIf c ta tb σ H Q := h
theorem r_chain {r' : R2} (h : ta σ H fun x H1 => tb σ H1 fun y H2 => r x y H2 fun z H3 => ∃ k, z = .bl k ∧
    (if k = true then tc σ H3 fun w' H4 => r' y w' H4 Q else Q (.bl false) H3)) : tChain r r' ta tb tc σ H Q := h
/-- a made list, a made tuple: the heap behind is a letter -/
theorem r_lst {a : TA} (h : a σ H fun xs H1 => AllocL xs H1 Q) : tLst a σ H Q := h
theorem r_tup {a : TA} (h : a σ H fun xs H1 => AllocT xs H1 Q) : tTup a σ H Q := h
/-- the bool that a test hands on -/
theorem r_k {b : Bool} {R : Bool → Prop} (h : R b) : ∃ k, V.bl b = V.bl k ∧ R k := ⟨b, rfl, h⟩
theorem r_k2 {b : Bool} {R : Bool → Hp → Prop} (h : R b H) : ∃ k, V.bl b = V.bl k ∧ R k H := ⟨b, rfl, h⟩
theorem r_I0 {g : Int → Int → V} {a b : Int} (h : Q (g a b) H) : rI0 g (.int a) (.int b) H Q := ⟨a, b, rfl, rfl, h⟩
theorem r_I {C : Int → Int → Prop} {g : Int → Int → V} {a b : Int} (c : C a b) (h : Q (g a b) H) : rI C g (.int a) (.int b) H Q := ⟨a, b, rfl, rfl, c, h⟩
end
theorem Same.new {H : Hp} {p : Addr} {o : HO} (h : H p = none) : Same H (upd H p o) := fun a u e => by
  rw [upd_ne (ne_of_none e h)]
  exact e
/-- an object that H does not know may change -/
theorem Same.mut {H H' : Hp} {p : Addr} {o : HO} (e : Same H H') (h : H p = none) : Same H (upd H' p o) := fun a u ha => by
  rw [upd_ne (ne_of_none ha h)]
  exact e a u ha

/-! ### data -/
/- what is read of a value: none, bools, ints, texts, tuples, lists, the empty dict (lists and dicts: as they stand now) -/
mutual
inductive Dd (K : PySem.W.Frag) (H : Hp) : V → PyData → Prop
  | non : Dd K H .non .none
  | bl (b : Bool) : Dd K H (.bl b) (.bool b)
  | int (i : Int) : Dd K H (.int i) (.int i)
  | str (x : Str) : Dd K H (.str x) (.str x)
  | lst {a : Addr} {xs : List V} {ds : List PyData} : H a = some (.lst xs) → DdAll K H xs ds → Dd K H (.ref a) (.list ds)
  | tup {a : Addr} {xs : List V} {ds : List PyData} : H a = some (.tup xs) → DdAll K H xs ds → Dd K H (.ref a) (.tuple ds)
  | dct {a : Addr} : H a = some (.dK []) → Dd K H (.ref a) (.dict [])
inductive DdAll (K : PySem.W.Frag) (H : Hp) : List V → List PyData → Prop
  | nil : DdAll K H [] []
  | cons {v : V} {vs : List V} {d : PyData} {ds : List PyData} : Dd K H v d → DdAll K H vs ds → DdAll K H (v :: vs) (d :: ds)
end
mutual
theorem Dd.same {K : PySem.W.Frag} {H H' : Hp} (s : Same H H') : ∀ (d : PyData) (v : V), Dd K H v d → Dd K H' v d
  | .none, _, h => by cases h; exact .non
  | .bool b, _, h => by cases h; exact .bl b
  | .int i, _, h => by cases h; exact .int i
  | .str x, _, h => by cases h; exact .str x
  | .list ds, _, h => by
    cases h with
    | lst e a => exact .lst (s _ _ e) (DdAll.same s ds _ a)
  | .tuple ds, _, h => by
    cases h with
    | tup e a => exact .tup (s _ _ e) (DdAll.same s ds _ a)
  | .dict _, _, h => by
    cases h with
    | dct e => exact .dct (s _ _ e)
theorem DdAll.same {K : PySem.W.Frag} {H H' : Hp} (s : Same H H') : ∀ (ds : List PyData) (vs : List V), DdAll K H vs ds → DdAll K H' vs ds
  | [], _, h => by cases h; exact .nil
  | d :: ds, _, h => by
    cases h with
    | cons h1 h2 => exact .cons (Dd.same s d _ h1) (DdAll.same s ds _ h2)
end
theorem Dd.same' {K : PySem.W.Frag} {H H' : Hp} {v : V} {d : PyData} (h : Dd K H v d) (s : Same H H') : Dd K H' v d := Dd.same s d v h
theorem DdAll.length {K : PySem.W.Frag} {H : Hp} : ∀ {vs : List V} {ds : List PyData}, DdAll K H vs ds → vs.length = ds.length
  | _, _, .nil => rfl
  | _, _, .cons _ t => by rw [List.length_cons, List.length_cons, DdAll.length t]
/-- the name of its type -/
def tyN : PyData → String
  | .none => "NoneType"
  | .bool _ => "bool"
  | .int _ => "int"
  | .str _ => "str"
  | .list _ => "list"
  | .tuple _ => "tuple"
  | .dict _ => "dict"
theorem Dd.ty {K : PySem.W.Frag} {H : Hp} {v : V} {d : PyData} (h : Dd K H v d) : TyX K H v (.type (tyN d)) := by
  cases h with
  | non => exact .base .non
  | bl b => exact .base (.bl b)
  | int i => exact .base (.int i)
  | str x => exact .base (.str x)
  | lst e a => exact .base (.lst e)
  | tup e a => exact .base (.tup e)
  | dct e => exact .base (.dK e)
/-- isinstance(x, T) of data -/
def isN (a T : String) : Bool := (kitB a T).getD false
def isOf (d : PyData) (T : String) : Bool := isN (tyN d) T
def TyNames : List String := ["str", "tuple", "int", "bool", "list", "dict"]
theorem kitB_all : ∀ a ∈ ["NoneType", "bool", "int", "str", "list", "tuple", "dict"], ∀ T ∈ TyNames, kitB a T = some (isN a T) := by decide +kernel
theorem isOf_kit {K : PySem.W.Frag} (d : PyData) {T : String} (hT : T ∈ TyNames) : PySem.W.kitOne K (.type (tyN d)) (.type T) = some (isOf d T) :=
  kit_ty (kitB_all (tyN d) (by cases d <;> simp [tyN]) T hT)
theorem isN_str : isN "NoneType" "str" = false ∧ isN "bool" "str" = false ∧ isN "int" "str" = false ∧ isN "str" "str" = true ∧ isN "list" "str" = false ∧ isN "tuple" "str" = false ∧ isN "dict" "str" = false := by decide +kernel
theorem isN_tuple : isN "NoneType" "tuple" = false ∧ isN "bool" "tuple" = false ∧ isN "int" "tuple" = false ∧ isN "str" "tuple" = false ∧ isN "list" "tuple" = false ∧ isN "tuple" "tuple" = true ∧ isN "dict" "tuple" = false := by decide +kernel
theorem isN_int : isN "NoneType" "int" = false ∧ isN "bool" "int" = true ∧ isN "int" "int" = true ∧ isN "str" "int" = false ∧ isN "list" "int" = false ∧ isN "tuple" "int" = false ∧ isN "dict" "int" = false := by decide +kernel
theorem isN_bool : isN "NoneType" "bool" = false ∧ isN "bool" "bool" = true ∧ isN "int" "bool" = false ∧ isN "str" "bool" = false ∧ isN "list" "bool" = false ∧ isN "tuple" "bool" = false ∧ isN "dict" "bool" = false := by decide +kernel
theorem r_isi {K : PySem.W.Frag} {H : Hp} {v : V} {d : PyData} {T : String} {Q : VK} (h : Dd K H v d) (hT : T ∈ TyNames) (q : Q (.bl (isOf d T)) H) : rIsi K [v, .ty T] H Q :=
  ⟨v, .ty T, _, _, _, rfl, .ty T, h.ty, isOf_kit d hT, q⟩
/-! ### repr of bools -/
section
variable {X : Cx}
def reprB (b : Bool) : Str := if b then "True" else "False"
theorem call_repr_bl : CallR X (.builtin "repr") (fun xs H Q => ∃ b, xs = [.bl b] ∧ Q (.str (reprB b)) H) := by
  intro pins s σ H xs us Q I r h
  obtain ⟨b, rfl, q⟩ := h
  obtain ⟨u, rfl, ru⟩ := vals1 r
  obtain rfl : u = Value.bool b := ru
  exact PySem.P.repr_of_bool ⟨.str (reprB b), H, I.tok _, ⟨_, rfl⟩, q⟩
end
theorem reprB_inj {a b : Bool} : decide (V.str (reprB a) = V.str (reprB b)) = (a == b) := by
  cases a <;> cases b <;> decide +kernel
end Tk

set_option Elab.async false
set_option linter.all false
set_option maxRecDepth 100000
set_option maxHeartbeats 4000000
namespace Tk
open PySem PySem.Spec PyProof.Rows L2
/-! ### one rule a sign; its reading says which -/
def rMulS : R2 := fun x y H Q => ∃ z n, x = .str z ∧ y = .int n ∧ MulOk z n ∧ Q (.str (Txt.mul z n)) H
def GAdd (K : PySem.W.Frag) : R2 := fun x y H Q => rI0 (fun i j => .int (i + j)) x y H Q ∨ ((∃ i j, x = .str i ∧ y = .str j ∧ i.length + j.length ≤ sizeLine ∧ Q (.str (i ++ j)) H) ∨ (rCat x y H Q ∨ rCatA K x y H Q))
def GMul : R2 := fun x y H Q => rI CMulW (fun i j => .int (i * j)) x y H Q ∨ (rMulS x y H Q ∨ rRep x y H Q)
/-- any list == [] -/
def rEqNil (K : PySem.W.Frag) : R2 := fun x y H Q => ∃ p q xs, x = .ref p ∧ y = .ref q ∧ SqL K H p xs ∧ SqL K H q [] ∧ Q (.bl xs.isEmpty) H
def GEq (K : PySem.W.Frag) : R2 := fun x y H Q => rEq x y H Q ∨ (rEqD K x y H Q ∨ rEqNil K x y H Q)
def GNe (K : PySem.W.Frag) : R2 := fun x y H Q => rNe x y H Q ∨ rNeD K x y H Q
def sLt : R2 := fun x y H Q => ∃ i j, x = .str i ∧ y = .str j ∧ Q (.bl (decide (i.cps.toList < j.cps.toList))) H
def sLe : R2 := fun x y H Q => ∃ i j, x = .str i ∧ y = .str j ∧ Q (.bl (!decide (j.cps.toList < i.cps.toList))) H
def sGt : R2 := fun x y H Q => ∃ i j, x = .str i ∧ y = .str j ∧ Q (.bl (decide (j.cps.toList < i.cps.toList))) H
def sGe : R2 := fun x y H Q => ∃ i j, x = .str i ∧ y = .str j ∧ Q (.bl (!decide (i.cps.toList < j.cps.toList))) H
def GLt : R2 := fun x y H Q => rI0 (fun i j => .bl (decide (i < j))) x y H Q ∨ sLt x y H Q
def GLe : R2 := fun x y H Q => rI0 (fun i j => .bl (decide (i ≤ j))) x y H Q ∨ sLe x y H Q
def GGt : R2 := fun x y H Q => rI0 (fun i j => .bl (decide (j < i))) x y H Q ∨ sGt x y H Q
def GGe : R2 := fun x y H Q => rI0 (fun i j => .bl (decide (j ≤ i))) x y H Q ∨ sGe x y H Q
def rLen (K : PySem.W.Frag) : List V → Hp → VK → Prop := fun xs H Q => ∃ x n, xs = [x] ∧ LenV K x H n ∧ Q (.int n) H
def rRepr : List V → Hp → VK → Prop := fun xs H Q => ∃ b, xs = [.bl b] ∧ Q (.str (reprB b)) H
def rMax2 : List V → Hp → VK → Prop := fun xs H Q => ∃ i j, xs = [.int i, .int j] ∧ Q (.int (if j > i then j else i)) H
def rMin2 : List V → Hp → VK → Prop := fun xs H Q => ∃ i j, xs = [.int i, .int j] ∧ Q (.int (if j < i then j else i)) H
def rListOf (K : PySem.W.Frag) : List V → Hp → VK → Prop := fun xs H Q => ∃ p ys, xs = [.ref p] ∧ (SqL K H p ys ∨ SqT K H p ys) ∧ ∀ l, H l = none → Q (.ref l) (upd H l (.lst ys))
def rIsN : R2 := fun x y H Q => y = .non ∧ Q (.bl (decide (x = .non))) H
section
variable {X : Cx}
theorem c_len : CallR X (.builtin "len") (rLen X.K) := call_len
theorem c_repr : CallR X (.builtin "repr") rRepr := call_repr_bl
theorem c_max2 (hc : X.calm = true) : CallR X (.builtin "max") rMax2 := call_max2 hc
theorem c_min2 (hc : X.calm = true) : CallR X (.builtin "min") rMin2 := call_min2 hc
theorem c_listOf : CallR X (.type "list") (rListOf X.K) := call_list_of
theorem o_isN : OpR X (compareOp .Is) rIsN := op_isN
theorem op_mul_strI : OpR X (binaryOp .Mult) rMulS := by
  intro pins s σ H x y v u Q I rx ry h
  obtain ⟨z, n, rfl, rfl, hok, q⟩ := h
  obtain ⟨t, rfl⟩ := rx
  obtain ⟨t', rfl⟩ := ry
  exact SB.mul hok fun t2 k => ⟨.str _, H, I.tok _, ⟨_, rfl⟩, q⟩
theorem op_eqNil (hu : X.A.units < cLine) : OpR X (compareOp .Eq) (rEqNil X.K) := by
  intro pins s σ H x y v u Q I rx ry h
  obtain ⟨p, q, xs, rfl, rfl, hp, hq, k⟩ := h
  obtain rfl : v = Value.ref p := rx
  obtain rfl : u = Value.ref q := ry
  obtain ⟨its, r1, l1, _⟩ := I.list hp
  obtain ⟨jts, r2, l2, _⟩ := I.list hq
  cases r2
  cases r1 with
  | nil => exact SeqAt.eq_listAt (e := fun _ => true) l1.isList l2.isList rfl hu (fun j h1 => absurd h1 (Nat.not_lt_zero j)) ⟨.bl true, H, I, rfl, k⟩
  | cons r t => exact SeqAt.eq_list_lengthsAt l1.isList l2.isList (by simp) hu ⟨.bl false, H, I, rfl, k⟩
theorem o_add : OpR X (binaryOp .Add) (GAdd X.K) := OpR.or op_add (OpR.or op_add_str (OpR.or op_cat op_catA))
theorem o_mul : OpR X (binaryOp .Mult) GMul := OpR.or op_mulW (OpR.or op_mul_strI op_rep)
theorem o_fdiv : OpR X (binaryOp .FloorDiv) (rI CDivW fun i j => .int (i / j)) := op_fdivW
theorem o_eq (hu : X.A.units + 64 < cLine) : OpR X (compareOp .Eq) (GEq X.K) := OpR.or op_eq (OpR.or (op_eqD hu) (op_eqNil (Nat.lt_of_le_of_lt (Nat.le_add_right _ _) hu)))
theorem o_ne (hu : X.A.units + 64 < cLine) : OpR X (compareOp .NotEq) (GNe X.K) := OpR.or op_ne (op_neD hu)
theorem o_lt : OpR X (compareOp .Lt) GLt := OpR.or op_lt op_lt_str
theorem o_le : OpR X (compareOp .LtE) GLe := OpR.or op_le op_le_str
theorem o_gt : OpR X (compareOp .Gt) GGt := OpR.or op_gt op_gt_str
theorem o_ge : OpR X (compareOp .GtE) GGe := OpR.or op_ge op_ge_str
theorem o_slice : SlR X (fun x lo hi H Q => rSlL X.K x lo hi H Q ∨ (rSlS x lo hi H Q ∨ rSlA X.K x lo hi H Q)) := SlR.or sl_list (SlR.or sl_str sl_tupA)
end
section
variable {H : Hp} {Q : VK} {K : PySem.W.Frag} {a b : Int} {x y : Str}
theorem g_addI (q : Q (.int (a + b)) H) : GAdd K (.int a) (.int b) H Q := .inl ⟨a, b, rfl, rfl, q⟩
theorem g_addS (hl : x.length + y.length ≤ sizeLine) (q : Q (.str (x ++ y)) H) : GAdd K (.str x) (.str y) H Q := .inr (.inl ⟨x, y, rfl, rfl, hl, q⟩)
theorem g_mulI (hc : CMulW a b) (q : Q (.int (a * b)) H) : GMul (.int a) (.int b) H Q := .inl ⟨a, b, rfl, rfl, hc, q⟩
theorem g_mulS (hc : MulOk x a) (q : Q (.str (Txt.mul x a)) H) : GMul (.str x) (.int a) H Q := .inr (.inl ⟨x, a, rfl, rfl, hc, q⟩)
theorem g_mulB (ha : a.natAbs < 2 ^ 70) (hb : b.natAbs < 2 ^ 70) (q : Q (.int (a * b)) H) : GMul (.int a) (.int b) H Q := g_mulI (wide_mul ha hb (by decide) (by decide) (by decide)) q
theorem r_mod (hb : 0 < b) (q : Q (.int (a % b)) H) : rI (fun _ j => 0 < j) (fun i j => .int (i % j)) (.int a) (.int b) H Q := r_I (C := fun _ j => 0 < j) hb q
theorem r_div (hb : 0 < b) (h2 : b < 2 ^ 60) (q : Q (.int (a / b)) H) : rI CDivW (fun i j => .int (i / j)) (.int a) (.int b) H Q :=
  r_I (C := CDivW) (⟨hb, Nat.lt_of_lt_of_le (PySem.Flt.log2_lt_of (k := 60) (by decide) (by omega)) (by decide)⟩ : CDivW a b) q
theorem g_ltI (q : Q (.bl (decide (a < b))) H) : GLt (.int a) (.int b) H Q := .inl ⟨a, b, rfl, rfl, q⟩
theorem g_leI (q : Q (.bl (decide (a ≤ b))) H) : GLe (.int a) (.int b) H Q := .inl ⟨a, b, rfl, rfl, q⟩
theorem g_gtI (q : Q (.bl (decide (b < a))) H) : GGt (.int a) (.int b) H Q := .inl ⟨a, b, rfl, rfl, q⟩
theorem g_geI (q : Q (.bl (decide (b ≤ a))) H) : GGe (.int a) (.int b) H Q := .inl ⟨a, b, rfl, rfl, q⟩
theorem g_leS (q : Q (.bl (!decide (y.cps.toList < x.cps.toList))) H) : GLe (.str x) (.str y) H Q := .inr ⟨x, y, rfl, rfl, q⟩
theorem g_ltS (q : Q (.bl (decide (x.cps.toList < y.cps.toList))) H) : GLt (.str x) (.str y) H Q := .inr ⟨x, y, rfl, rfl, q⟩
theorem g_eqI (q : Q (.bl (decide (a = b))) H) : GEq K (.int a) (.int b) H Q := .inl ⟨rfl, by rw [dec_int, Bool.beq_eq_decide_eq]; exact q⟩
theorem g_neI (q : Q (.bl (!decide (a = b))) H) : GNe K (.int a) (.int b) H Q := .inl ⟨rfl, by rw [dec_int, Bool.beq_eq_decide_eq]; exact q⟩
theorem g_eqS (q : Q (.bl (decide (x = y))) H) : GEq K (.str x) (.str y) H Q := .inl ⟨rfl, by rw [dec_str, Bool.beq_eq_decide_eq]; exact q⟩
theorem g_neS (q : Q (.bl (!decide (x = y))) H) : GNe K (.str x) (.str y) H Q := .inl ⟨rfl, by rw [dec_str, Bool.beq_eq_decide_eq]; exact q⟩
end
section
variable {H : Hp} {Q : VK} {K : PySem.W.Frag} {p : Addr} {xs : List V} {i k : Int} {v : V} {j : Nat} {σ : L2.St} {D : Ends} {te to ti : TE}
theorem r_ixL (h : H p = some (.lst xs)) (e : atI xs i = some v) (q : Q v H) : rIx K (.ref p) (.int i) H Q := .inl ⟨p, xs, i, v, rfl, rfl, .of h, e, q⟩
theorem r_ixQ (h : SqL K H p xs) (e : atI xs i = some v) (q : Q v H) : rIx K (.ref p) (.int i) H Q := .inl ⟨p, xs, i, v, rfl, rfl, h, e, q⟩
theorem r_ixT (h : H p = some (.tup xs)) (e : atI xs i = some v) (q : Q v H) : rIx K (.ref p) (.int i) H Q := .inr (.inl ⟨p, xs, i, v, rfl, rfl, .of h, e, q⟩)
theorem r_lenS {x : Str} (h : x.length ≤ 100000) (q : Q (.int x.length) H) : rLen K [.str x] H Q := ⟨_, _, rfl, ⟨Nat.le_trans h (by decide), rfl⟩, q⟩
theorem r_lenT (h : H p = some (.tup xs)) (q : Q (.int (xs.length : Nat)) H) : rLen K [.ref p] H Q := ⟨_, _, rfl, .inr ⟨xs, SqT.of h, rfl⟩, q⟩
theorem r_lenQ (h : SqL K H p xs) (q : Q (.int (xs.length : Nat)) H) : rLen K [.ref p] H Q := ⟨_, _, rfl, .inl ⟨xs, h, rfl⟩, q⟩
theorem r_eqNil {q : Addr} (h : H p = some (.lst xs)) (h' : H q = some (.lst [])) (k : Q (.bl xs.isEmpty) H) : GEq K (.ref p) (.ref q) H Q := .inr (.inr ⟨p, q, xs, rfl, rfl, SqL.of h, SqL.of h', k⟩)
theorem r_repr {b : Bool} (q : Q (.str (reprB b)) H) : rRepr [.bl b] H Q := ⟨b, rfl, q⟩
theorem r_max2 {k : Int} (q : Q (.int (if k > i then k else i)) H) : rMax2 [.int i, .int k] H Q := ⟨i, k, rfl, q⟩
theorem r_min2 {k : Int} (q : Q (.int (if k < i then k else i)) H) : rMin2 [.int i, .int k] H Q := ⟨i, k, rfl, q⟩
theorem r_listOfT (h : H p = some (.tup xs)) (q : ∀ l, H l = none → Q (.ref l) (upd H l (.lst xs))) : rListOf K [.ref p] H Q := ⟨p, xs, rfl, .inr (SqT.of h), q⟩
theorem r_isN (q : Q (.bl (decide (v = .non))) H) : rIsN v .non H Q := ⟨rfl, q⟩
theorem r_asg {g : TG} (h : te σ H fun x H1 => g x σ H1 D.nx) : tAsg te g D σ H := h
theorem r_gName {n : Nat} {R : L2.St → Hp → Prop} (q : R (σ.set n (some v)) H) : gName n v σ H R := q
theorem r_gTup {n : Nat} {t : TGs} {R : L2.St → Hp → Prop} (h : H p = some (.tup xs)) (hl : xs.length = n) (q : t xs σ H R) : gTup K n t (.ref p) σ H R := ⟨p, xs, rfl, SqT.of h, hl, q⟩
theorem r_gCons {t : TG} {u : TGs} {ws : List V} {R : L2.St → Hp → Prop} (q : t v σ H fun σ' H' => u ws σ' H' R) : gCons t u (v :: ws) σ H R := ⟨v, ws, rfl, q⟩
theorem r_gNil {R : L2.St → Hp → Prop} (q : R σ H) : gNil [] σ H R := ⟨rfl, q⟩
theorem r_sub {t : TSet} {R : L2.St → Hp → Prop} (h : to σ H fun o H1 => ti σ H1 fun i H2 => t o i v H2 fun H3 => R σ H3) : gSub to ti t v σ H R := h
theorem r_setL {R : Hp → Prop} (h : H p = some (.lst xs)) (e : ixN xs.length k = some j) (q : R (upd H p (.lst (xs.set j v)))) : rSetL (.ref p) (.int k) v H R := ⟨p, xs, k, j, rfl, rfl, h, e, q⟩
theorem r_dec {c A B : Prop} {_i : Decidable c} (h1 : c → A) (h2 : ¬ c → B) : if decide c = true then A else B := by
  by_cases h : c
  · rw [decide_eq_true h]; exact iteT (h1 h)
  · rw [decide_eq_false h]; exact iteF (h2 h)
theorem r_decN {c A B : Prop} {_i : Decidable c} (h1 : ¬ c → A) (h2 : c → B) : if (!decide c) = true then A else B := by
  by_cases h : c
  · rw [decide_eq_true h]; exact iteF (h2 h)
  · rw [decide_eq_false h]; exact iteT (h1 h)
theorem r_bool {b : Bool} {A B : Prop} (h1 : b = true → A) (h2 : b = false → B) : if b = true then A else B := by
  cases b with
  | true => exact iteT (h1 rfl)
  | false => exact iteF (h2 rfl)
end
theorem sz_of {n : Nat} (h : n ≤ 100000) : n ≤ sizeLine := Nat.le_trans h (by decide)
theorem sz_lt {n : Nat} (h : n < 100000) : n < sizeLine := Nat.lt_of_lt_of_le h (by decide)
end Tk

set_option Elab.async false
set_option linter.all false
set_option maxRecDepth 100000
set_option maxHeartbeats 4000000
namespace Tk
open PySem PySem.Spec PyProof.Rows L2
theorem wipe1 (σ : L2.St) (s : Nat) : wipe σ [s] = σ.set s none := rfl
theorem wipe_set (σ : L2.St) (s : Nat) (v : Option V) : wipe ((wipe σ [s]).set s v) [s] = wipe σ [s] := by
  show ((σ.set s none).set s v).set s none = σ.set s none
  rw [List.set_set, List.set_set]
theorem wipe_slot (σ : L2.St) (s : Nat) (v : Option V) : (wipe σ [s]).set s v = σ.set s v := by
  show (σ.set s none).set s v = σ.set s v
  rw [List.set_set]
theorem take_succ_filter {α β : Type} {l : List α} {i : Nat} {x : α} (h : l[i]? = some x) (g : α → Bool) (f : α → β) :
    ((l.take (i + 1)).filter g).map f = ((l.take i).filter g).map f ++ (if g x = true then [f x] else []) := by
  rw [List.take_add_one, h, List.filter_append, List.map_append]
  cases hg : g x <;> simp [hg]
/-- what a comprehension asks, once it is known what it walks -/
def LcG (J : It) (g : TG) (tt : TT) (te : TE) (vs : List Nat) (σ : L2.St) (H1 : Hp) (Q : VK) : Prop := ∀ D, H1 D = none → ∃ W : Nat → Nat → Hp → Prop, (∃ m, W 0 m (upd H1 D (.lst []))) ∧ ∀ i m H, W i m H →
  (J.stop i H ∧ Q (.ref D) H) ∨ (J.go i H ∧ ∃ Nx : Hp → Prop, (∀ H', Nx H' → ∃ m', m' < m ∧ W (i + 1) m' H') ∧ ∀ x H', J.yld i H x H' → g x (wipe σ vs) H' fun σ2 H2 => wipe σ2 vs = wipe σ vs ∧ tt σ2 H2 fun b H3 =>
    if b = true then te σ2 H3 fun y H4 => ∃ acc, H4 D = some (.lst acc) ∧ acc.length < sizeLine ∧ Nx (upd H4 D (.lst (acc ++ [y]))) else Nx H3)
/-- what a for asks -/
def ForG (J : It) (g : TG) (tb : TS) (D : Ends) (σ : L2.St) (H1 : Hp) : Prop := ∃ W : Nat → Nat → L2.St → Hp → Prop, (∃ m, W 0 m σ H1) ∧ ∀ i m σ H, W i m σ H →
  (J.stop i H ∧ D.nx σ H) ∨ (J.go i H ∧ ∃ N : L2.St → Hp → Prop, (∀ σ' H', N σ' H' → ∃ m', m' < m ∧ W (i + 1) m' σ' H') ∧ ∀ x H', J.yld i H x H' → g x σ H' fun σ2 H2 => tb { D with nx := N, ct := N, bk := D.nx } σ2 H2)
section
variable {wi : TI} {g : TG} {tt : TT} {te tl : TE} {ta : TA} {tb : TS} {vs : List Nat} {σ : L2.St} {H : Hp} {Q : VK} {D : Ends} {K : PySem.W.Frag} {R : It → Hp → Prop}
theorem r_lc (h : wi σ H fun J H1 => LcG J g tt te vs σ H1 Q) : tLc wi g tt te vs σ H Q := h
theorem r_for (h : wi σ H fun J H1 => ForG J g tb D σ H1) : tFor wi g tb D σ H := h
theorem r_rng1 (h : ta σ H fun vs H1 => ∃ j : Int, vs = [.int j] ∧ -(2 ^ 62) ≤ j ∧ j < 2 ^ 62 ∧ R (Itr 0 j.toNat) H1) : iRng1 ta σ H R := h
theorem r_j {j lo hi : Int} {P : Int → Prop} (h0 : lo ≤ j) (h1 : j < hi) (q : P j) : ∃ j', [V.int j] = [V.int j'] ∧ lo ≤ j' ∧ j' < hi ∧ P j' := ⟨j, rfl, h0, h1, q⟩
theorem r_iList (h : tl σ H fun x H1 => ∃ a, x = .ref a ∧ (∃ xs, SqL K H1 a xs) ∧ R (Itl K a) H1) : iList K tl σ H R := h
theorem r_iStr (h : te σ H fun v H1 => ∃ x, v = .str x ∧ R (Its x) H1) : iStr te σ H R := h
theorem r_strx {x : Str} {P : Str → Prop} (q : P x) : ∃ y, V.str x = V.str y ∧ P y := ⟨x, rfl, q⟩
theorem r_iTup (h : tl σ H fun x H1 => ∃ a, x = .ref a ∧ (∃ xs, SqT K H1 a xs) ∧ R (Itt K a) H1) : iTup K tl σ H R := h
end
/-- a comprehension that only makes new things: tests and elements told item by item -/
theorem lc_pure {J : It} {G : Hp → Prop} {items : List V} {s : Nat} {tt : TT} {te : TE} {σ : L2.St} {H1 : Hp} {Qd : VK} (w : Walk J items.length G (YAt items)) (hG : ∀ H', Same H1 H' → G H') (hn : items.length ≤ 100000) (gb : V → Bool) (f : V → V)
    (ht : ∀ x ∈ items, ∀ (H2 : Hp) (R : Bool → Hp → Prop), Same H1 H2 → (∀ H3, Same H2 H3 → R (gb x) H3) → tt (σ.set s (some x)) H2 R)
    (he : ∀ x ∈ items, gb x = true → ∀ (H2 : Hp) (R : VK), Same H1 H2 → (∀ H3, Same H2 H3 → R (f x) H3) → te (σ.set s (some x)) H2 R)
    (hd : ∀ (D : Addr) (H' : Hp), H1 D = none → Same H1 H' → H' D = some (.lst ((items.filter gb).map f)) → Qd (.ref D) H') :
    LcG J (gName s) tt te [s] σ H1 Qd := by
  intro D hD
  refine lc_it (Qd := fun H' => Qd (.ref D) H') w (fun i H' => Same H1 H' ∧ H' D = some (.lst (((items.take i).filter gb).map f))) ⟨Same.new hD, by rw [upd_same]; rfl⟩ (fun i H' _ p => hG H' p.1) ?_ (fun H' p => hd D H' hD p.1 (by rw [p.2, List.take_length]))
  rintro i x H2 H2' hi ⟨p1, p2⟩ ⟨rfl, hx⟩
  have hm : x ∈ items := List.mem_of_getElem? hx
  have hl : (((items.take i).filter gb).map f).length ≤ items.length := by
    rw [List.length_map]
    refine Nat.le_trans (List.length_filter_le _ _) ?_
    rw [List.length_take]
    omega
  show wipe ((wipe σ [s]).set s (some x)) [s] = wipe σ [s] ∧ tt ((wipe σ [s]).set s (some x)) H2' _
  refine ⟨wipe_set σ s _, ?_⟩
  rw [wipe_slot]
  refine ht x hm H2' _ p1 fun H3 s3 => ?_
  cases hg : gb x with
  | true =>
    refine iteT ?_
    refine he x hm hg H3 _ (p1.trans s3) fun H4 s4 => ?_
    have e4 := s4 _ _ (s3 _ _ p2)
    refine ⟨_, e4, sz_lt (by have : i < items.length := hi; rw [List.length_map]; have := List.length_filter_le gb (items.take i); rw [List.length_take] at this; omega), ?_⟩
    refine ⟨Same.mut (p1.trans (s3.trans s4)) hD, ?_⟩
    rw [upd_same, take_succ_filter hx, hg, if_pos rfl]
  | false =>
    refine iteF ?_
    refine ⟨p1.trans s3, ?_⟩
    rw [s3 _ _ p2, take_succ_filter hx, hg, if_neg Bool.false_ne_true, List.append_nil]
theorem filt_true {α : Type} (l : List α) : l.filter (fun _ => true) = l := List.filter_eq_self.mpr fun _ _ => rfl
/-- a text's signs as values -/
abbrev signV (c : Nat) : V := .str ⟨#[c]⟩
def codeV : V → Nat
  | .str y => y.cps.getD 0 0
  | _ => 0
theorem codeV_sign (c : Nat) : codeV (signV c) = c := rfl
def signs (z : Str) : List V := z.cps.toList.map signV
theorem walk_signs {z : Str} : Walk (Its z) (signs z).length (fun _ => True) (YAt (signs z)) := by
  have e : (signs z).length = z.cps.size := by unfold signs; rw [List.length_map, Array.length_toList]
  rw [e]
  refine Walk.mono walk_str (fun _ h => h) fun i H x H' hi _ y => ?_
  obtain ⟨h1, c, h2, h3⟩ := y
  refine ⟨h1, ?_⟩
  unfold signs
  rw [List.getElem?_map, Array.getElem?_toList, h2, h3]
  rfl
theorem r_lcStr {s : Nat} {z : Str} {tt : TT} {te : TE} {σ : L2.St} {H : Hp} {Q : VK} (hn : z.length ≤ 100000) (gb : Nat → Bool) (f : V → V)
    (ht : ∀ c ∈ z.cps.toList, ∀ (H2 : Hp) (R : Bool → Hp → Prop), Same H H2 → (∀ H3, Same H2 H3 → R (gb c) H3) → tt (σ.set s (some (signV c))) H2 R)
    (he : ∀ c ∈ z.cps.toList, gb c = true → ∀ (H2 : Hp) (R : VK), Same H H2 → (∀ H3, Same H2 H3 → R (f (signV c)) H3) → te (σ.set s (some (signV c))) H2 R)
    (hd : ∀ (D : Addr) (H' : Hp), H D = none → Same H H' → H' D = some (.lst ((z.cps.toList.filter gb).map fun c => f (signV c))) → Q (.ref D) H') : LcG (Its z) (gName s) tt te [s] σ H Q := by
  have hl : (signs z).length ≤ 100000 := by unfold signs; rw [List.length_map, Array.length_toList]; exact hn
  have inj : ∀ c, gb c = (fun v => match v with | .str y => gb (y.cps.getD 0 0) | _ => false) (signV c) := fun c => rfl
  refine lc_pure (Qd := Q) walk_signs (fun _ _ => trivial) hl (fun v => match v with | .str y => gb (y.cps.getD 0 0) | _ => false) f ?_ ?_ ?_
  · intro x hx H2 R s2 k
    obtain ⟨c, hc, rfl⟩ := List.mem_map.mp hx
    exact ht c hc H2 R s2 k
  · intro x hx hg H2 R s2 k
    obtain ⟨c, hc, rfl⟩ := List.mem_map.mp hx
    exact he c hc hg H2 R s2 k
  · intro D H' h0 s2 e
    refine hd D H' h0 s2 ?_
    rw [e]
    unfold signs
    rw [List.filter_map, List.map_map]
    rfl
/-! ### signs between two -/
theorem sign_le {a c : Nat} : (!decide (([c] : List Nat) < [a])) = decide (a ≤ c) := by
  have h : ([c] : List Nat) < [a] ↔ c < a := by
    constructor
    · intro h
      cases h with
      | cons h => cases h
      | rel h => exact h
    · exact fun h => .rel h
  by_cases q : a ≤ c
  · rw [decide_eq_true q, decide_eq_false (fun z => by have := h.mp z; omega)]; rfl
  · rw [decide_eq_false q, decide_eq_true (h.mpr (by omega))]; rfl
theorem sign_ge {a c : Nat} : (!decide (([a] : List Nat) < [c])) = decide (c ≤ a) := sign_le (a := c) (c := a)
/-- lo <= sign <= hi -/
theorem r_between {s a b c : Nat} {lo hi : Str} {σ : L2.St} {H : Hp} {Q : VK} (hv : σ[s]? = some (some (signV c))) (h1 : lo.cps.toList = [a]) (h2 : hi.cps.toList = [b]) (q : Q (.bl (decide (a ≤ c) && decide (c ≤ b))) H) :
    tChain GLe GLe (tC (.str lo)) (tVar s) (tC (.str hi)) σ H Q := by
  refine ⟨_, hv, g_leS ?_⟩
  refine ⟨_, rfl, ?_⟩
  rw [h1]
  show if (!decide (([c] : List Nat) < [a])) = true then _ else _
  rw [sign_le]
  by_cases k1 : a ≤ c
  · rw [decide_eq_true k1] at q ⊢
    refine iteT (g_leS ?_)
    rw [h2]
    show Q (.bl (!decide (([b] : List Nat) < [c]))) H
    rw [sign_ge]
    exact q
  · rw [decide_eq_false k1] at q ⊢
    exact iteF q
theorem cps_a : (Str.ofString "a").cps.toList = [97] := by decide +kernel
theorem cps_z : (Str.ofString "z").cps.toList = [122] := by decide +kernel
theorem cps_sp : (Str.ofString " ").cps.toList = [32] := by decide +kernel
theorem cps_til : (Str.ofString "~").cps.toList = [126] := by decide +kernel
end Tk

set_option Elab.async false
set_option linter.all false
set_option maxRecDepth 100000
set_option maxHeartbeats 4000000
namespace Tk
open PySem PySem.Spec PyProof.Rows L2
/-! ### words, values, numbers, stamps, entries, as data -/
mutual
def okD : PyData → Prop
  | .str x => x.length ≤ 100000
  | .list xs => xs.length ≤ 100000 ∧ okAll xs
  | .tuple xs => xs.length ≤ 100000 ∧ okAll xs
  | _ => True
def okAll : List PyData → Prop
  | [] => True
  | x :: xs => okD x ∧ okAll xs
end
def lowB (c : Nat) : Bool := decide (97 ≤ c) && decide (c ≤ 122)
def shownB (c : Nat) : Bool := decide (32 ≤ c) && decide (c ≤ 126)
def wordS (x : Str) : Bool := (decide ((1 : Int) ≤ (x.length : Int)) && decide ((x.length : Int) ≤ 8)) && x.cps.toList.all lowB
def valueS (x : Str) : Bool := (!decide ((40 : Int) < (x.length : Int))) && x.cps.toList.all shownB
def wordD : PyData → Bool
  | .str x => wordS x
  | _ => false
def valueD : PyData → Bool
  | .str x => valueS x
  | _ => false
def numD : PyData → Bool
  | .int i => decide (1 ≤ i) && decide (i ≤ 1000000000000000)
  | _ => false
def stampD : PyData → Bool
  | .tuple [a, b] => numD a && wordD b
  | _ => false
def noneD : PyData → Bool
  | .none => true
  | _ => false
def entryD : PyData → Bool
  | .tuple [k, s, v] => wordD k && (stampD s && (noneD v || valueD v))
  | _ => false
/-- a def that tells something of data -/
def spD (K : PySem.W.Frag) (f : PyData → Bool) : Sp := fun vs H Q _ => ∃ (v : V) (d : PyData), vs = [v] ∧ Dd K H v d ∧ okD d ∧ ∀ H', Same H H' → Q (.bl (f d)) H'
theorem spD_len {K : PySem.W.Frag} {f : PyData → Bool} {vs : List V} {H : Hp} {Q : VK} {E : XK} (h : spD K f vs H Q E) : vs.length = 1 := by
  obtain ⟨v, d, rfl, _⟩ := h
  rfl
section
variable {K : PySem.W.Frag} {H : Hp} {Q : VK} {x : Str} {a : Addr} {xs : List V} {A B : Prop} {b : Bool} {v : V}
theorem r_all {bs : List Bool} (h : H a = some (.lst (bs.map V.bl))) (q : Q (.bl (bs.all id)) H) : rAll K [.ref a] H Q := ⟨a, bs, rfl, SqL.of h, q⟩
theorem r_boolN (h1 : b = false → A) (h2 : b = true → B) : if (!b) = true then A else B := by
  cases b with
  | true => exact iteF (h2 rfl)
  | false => exact iteT (h1 rfl)
/-- data stand for isinstance -/
theorem r_isiS {d : PyData} (h : Dd K H v d) (q : Q (.bl (isOf d "str")) H) : rIsi K [v, .ty "str"] H Q := r_isi h (by decide) q
theorem r_isiT {d : PyData} (h : Dd K H v d) (q : Q (.bl (isOf d "tuple")) H) : rIsi K [v, .ty "tuple"] H Q := r_isi h (by decide) q
theorem r_isiI {d : PyData} (h : Dd K H v d) (q : Q (.bl (isOf d "int")) H) : rIsi K [v, .ty "int"] H Q := r_isi h (by decide) q
theorem r_isiB {d : PyData} (h : Dd K H v d) (q : Q (.bl (isOf d "bool")) H) : rIsi K [v, .ty "bool"] H Q := r_isi h (by decide) q
end
/-- a call of a def that tells something of data -/
theorem r_spD {K : PySem.W.Frag} {f : PyData → Bool} {v : V} {d : PyData} {H : Hp} {Q : VK} {E : XK} (h : Dd K H v d) (o : okD d) (q : ∀ H', Same H H' → Q (.bl (f d)) H') : spD K f ([v] ++ []) H Q E := ⟨v, d, rfl, h, o, q⟩
theorem isStr (x : Str) : isOf (.str x) "str" = true := isN_str.2.2.2.1
theorem isTup (x : List PyData) : isOf (.tuple x) "tuple" = true := isN_tuple.2.2.2.2.2.1
theorem isNotStr {d : PyData} (h : ∀ x, d ≠ .str x) : isOf d "str" = false := by
  cases d with
  | str x => exact absurd rfl (h x)
  | none => exact isN_str.1
  | bool _ => exact isN_str.2.1
  | int _ => exact isN_str.2.2.1
  | list _ => exact isN_str.2.2.2.2.1
  | tuple _ => exact isN_str.2.2.2.2.2.1
  | dict _ => exact isN_str.2.2.2.2.2.2
theorem isNotTup {d : PyData} (h : ∀ x, d ≠ .tuple x) : isOf d "tuple" = false := by
  cases d with
  | tuple x => exact absurd rfl (h x)
  | none => exact isN_tuple.1
  | bool _ => exact isN_tuple.2.1
  | int _ => exact isN_tuple.2.2.1
  | str _ => exact isN_tuple.2.2.2.1
  | list _ => exact isN_tuple.2.2.2.2.1
  | dict _ => exact isN_tuple.2.2.2.2.2.2
theorem isInt_or (d : PyData) : (isOf d "int" = true ∧ isOf d "bool" = false ∧ ∃ i, d = .int i) ∨ (isOf d "int" = true ∧ isOf d "bool" = true ∧ ∃ b, d = .bool b) ∨ (isOf d "int" = false ∧ numD d = false) := by
  cases d with
  | int i => exact .inl ⟨isN_int.2.2.1, isN_bool.2.2.1, i, rfl⟩
  | bool b => exact .inr (.inl ⟨isN_int.2.1, isN_bool.2.1, b, rfl⟩)
  | none => exact .inr (.inr ⟨isN_int.1, rfl⟩)
  | str _ => exact .inr (.inr ⟨isN_int.2.2.2.1, rfl⟩)
  | list _ => exact .inr (.inr ⟨isN_int.2.2.2.2.1, rfl⟩)
  | tuple _ => exact .inr (.inr ⟨isN_int.2.2.2.2.2.1, rfl⟩)
  | dict _ => exact .inr (.inr ⟨isN_int.2.2.2.2.2.2, rfl⟩)
theorem all_signs (l : List Nat) (g : Nat → Bool) : (l.map g).all id = l.all g := by rw [List.all_map]; rfl
theorem str_or (d : PyData) : (∃ x, d = .str x) ∨ (∀ x, d ≠ .str x) := by
  cases d with
  | str x => exact .inl ⟨x, rfl⟩
  | _ => exact .inr fun x h => nomatch h
/-- a tuple of data, or none -/
theorem tup_or {K : PySem.W.Frag} {H : Hp} {v : V} {d : PyData} (h : Dd K H v d) : (∃ a xs ds, v = .ref a ∧ d = .tuple ds ∧ H a = some (.tup xs) ∧ DdAll K H xs ds ∧ isOf d "tuple" = true) ∨ (isOf d "tuple" = false ∧ ∀ ds, d ≠ .tuple ds) := by
  cases h with
  | tup e a => exact .inl ⟨_, _, _, rfl, rfl, e, a, isTup _⟩
  | _ => exact .inr ⟨isNotTup (fun x h => nomatch h), (fun x h => nomatch h)⟩
theorem stampD_no {d : PyData} (h : ∀ ds, d ≠ .tuple ds) : stampD d = false := by
  cases d with
  | tuple x => exact absurd rfl (h x)
  | _ => rfl
theorem entryD_no {d : PyData} (h : ∀ ds, d ≠ .tuple ds) : entryD d = false := by
  cases d with
  | tuple x => exact absurd rfl (h x)
  | _ => rfl
theorem stampD_len {ds : List PyData} (h : ¬ ds.length = 2) : stampD (.tuple ds) = false := by
  unfold stampD
  split
  · rename_i e
    cases e
    exact absurd rfl h
  · rfl
theorem entryD_len {ds : List PyData} (h : ¬ ds.length = 3) : entryD (.tuple ds) = false := by
  unfold entryD
  split
  · rename_i e
    cases e
    exact absurd rfl h
  · rfl
theorem all_two {K : PySem.W.Frag} {H : Hp} {xs : List V} {ds : List PyData} (h : DdAll K H xs ds) (e : xs.length = 2) : ∃ v0 v1 d0 d1, xs = [v0, v1] ∧ ds = [d0, d1] ∧ Dd K H v0 d0 ∧ Dd K H v1 d1 := by
  cases h with
  | nil => cases e
  | cons h0 t =>
    cases t with
    | nil => cases e
    | cons h1 t =>
      cases t with
      | nil => exact ⟨_, _, _, _, rfl, rfl, h0, h1⟩
      | cons _ _ => cases e
theorem all_three {K : PySem.W.Frag} {H : Hp} {xs : List V} {ds : List PyData} (h : DdAll K H xs ds) (e : xs.length = 3) : ∃ v0 v1 v2 d0 d1 d2, xs = [v0, v1, v2] ∧ ds = [d0, d1, d2] ∧ Dd K H v0 d0 ∧ Dd K H v1 d1 ∧ Dd K H v2 d2 := by
  cases h with
  | nil => cases e
  | cons h0 t =>
    cases t with
    | nil => cases e
    | cons h1 t =>
      cases t with
      | nil => cases e
      | cons h2 t =>
        cases t with
        | nil => exact ⟨_, _, _, _, _, _, rfl, rfl, h0, h1, h2⟩
        | cons _ _ => cases e
theorem noneD_iff {K : PySem.W.Frag} {H : Hp} {v : V} {d : PyData} (h : Dd K H v d) : decide (v = .non) = noneD d := by
  cases h <;> simp [noneD]
theorem wordD_no {d : PyData} (h : ∀ x, d ≠ .str x) : wordD d = false := by
  cases d with
  | str x => exact absurd rfl (h x)
  | _ => rfl
theorem valueD_no {d : PyData} (h : ∀ x, d ≠ .str x) : valueD d = false := by
  cases d with
  | str x => exact absurd rfl (h x)
  | _ => rfl
end Tk

set_option Elab.async false
set_option linter.all false
set_option maxRecDepth 100000
set_option maxHeartbeats 4000000
namespace Tk
open PySem PySem.Spec PyProof.Rows L2
/-! ### the law's draws: a pool of two numbers -/
def PoolAt (H : Hp) (p : Addr) : Prop := ∃ a b : Int, H p = some (.lst [.int a, .int b]) ∧ 0 ≤ a ∧ 0 ≤ b ∧ b < 2147483647
theorem pool_mk {H : Hp} {p : Addr} {a b : Int} (h0 : 0 ≤ a) (h1 : 0 ≤ b) (h2 : b < 2147483647) : PoolAt (upd H p (.lst [.int a, .int b])) p := ⟨a, b, upd_same, h0, h1, h2⟩
/-- something was drawn of the pool at p (and new things made) -/
structure Drawn (p : Addr) (H H' : Hp) : Prop where
  kept : ∀ b o, H b = some o → b ≠ p → H' b = some o
  pool : PoolAt H' p
theorem Drawn.trans {p : Addr} {H H1 H2 : Hp} (a : Drawn p H H1) (b : Drawn p H1 H2) : Drawn p H H2 := ⟨fun c o h n => b.kept c o (a.kept c o h n) n, b.pool⟩
theorem Drawn.same {p : Addr} {H H1 H2 : Hp} (a : Drawn p H H1) (b : Same H1 H2) : Drawn p H H2 := ⟨fun c o h n => b c o (a.kept c o h n), by obtain ⟨x, y, h, r⟩ := a.pool; exact ⟨x, y, b _ _ h, r⟩⟩
theorem Drawn.refl {p : Addr} {H : Hp} (h : PoolAt H p) : Drawn p H H := ⟨fun _ _ h _ => h, h⟩
theorem Drawn.of {p : Addr} {H H' : Hp} (h : PoolAt H p) (s : Same H H') : Drawn p H H' := (Drawn.refl h).same s
theorem PoolAt.same {p : Addr} {H H' : Hp} (h : PoolAt H p) (s : Same H H') : PoolAt H' p := (Drawn.of h s).pool
/-- what stood ahead of the pool stands -/
theorem Drawn.back {p : Addr} {H0 H H' : Hp} (d : Drawn p H H') (s : Same H0 H) (n : H0 p = none) : Same H0 H' := fun b o h => d.kept b o (s b o h) (ne_of_none h n)
theorem PoolAt.ne {p a : Addr} {H : Hp} {xs : List V} (h : PoolAt H p) (e : H a = some (.tup xs)) : a ≠ p := by
  obtain ⟨x, y, h, _⟩ := h
  exact ne_of e h (by intro z; cases z)
theorem Drawn.tup {p a : Addr} {H H' : Hp} {xs : List V} (d : Drawn p H H') (h : PoolAt H p) (e : H a = some (.tup xs)) : H' a = some (.tup xs) := d.kept _ _ e (h.ne e)
/-! ### take -/
def spTake : Sp := fun vs H Q _ => ∃ (p : Addr) (m : Int), vs = [.ref p, .int m] ∧ PoolAt H p ∧ 0 < m ∧ m < 2 ^ 60 ∧ ∀ r H', 0 ≤ r → r < m → Drawn p H H' → Q (.int r) H'
theorem r_take {p : Addr} {m : Int} {H : Hp} {Q : VK} {E : XK} (h : PoolAt H p) (h0 : 0 < m) (h1 : m < 2 ^ 60) (q : ∀ r H', 0 ≤ r → r < m → Drawn p H H' → Q (.int r) H') : spTake ([.ref p, .int m] ++ []) H Q E := ⟨p, m, rfl, h, h0, h1, q⟩
def spPool (K : PySem.W.Frag) : Sp := fun vs H Q _ => ∃ (s : Addr) (ns : List Int) (k : Int), vs = [.ref s, .int k] ∧ SqL K H s (ns.map V.int) ∧ ns.length ≤ 63 ∧ 0 ≤ k ∧ k < 64 ∧ ∀ p H', H p = none → Same H H' → PoolAt H' p → Q (.ref p) H'
theorem spTake_len {vs : List V} {H : Hp} {Q : VK} {E : XK} (h : spTake vs H Q E) : vs.length = 2 := by
  obtain ⟨p, m, rfl, _⟩ := h
  rfl
theorem spPool_len {K : PySem.W.Frag} {vs : List V} {H : Hp} {Q : VK} {E : XK} (h : spPool K vs H Q E) : vs.length = 2 := by
  obtain ⟨p, m, k, rfl, _⟩ := h
  rfl
/-! ### what a written expression gives, as data: only new things are made -/
def EvD (K : PySem.W.Frag) (te : TE) (σ : L2.St) (d : PyData) : Prop := ∀ (H : Hp) (Q : VK), (∀ v H', Same H H' → Dd K H' v d → Q v H') → te σ H Q
def EvDA (K : PySem.W.Frag) (ta : TA) (σ : L2.St) (ds : List PyData) : Prop := ∀ (H : Hp) (Q : List V → Hp → Prop), (∀ vs H', Same H H' → DdAll K H' vs ds → Q vs H') → ta σ H Q
section
variable {K : PySem.W.Frag} {σ : L2.St} {te : TE} {ta : TA} {d : PyData} {ds : List PyData}
theorem ed_int {i : Int} : EvD K (tC (.int i)) σ (.int i) := fun H Q q => q _ H (Same.refl H) (.int i)
theorem ed_str {i : Str} : EvD K (tC (.str i)) σ (.str i) := fun H Q q => q _ H (Same.refl H) (.str i)
theorem ed_bl {i : Bool} : EvD K (tC (.bl i)) σ (.bool i) := fun H Q q => q _ H (Same.refl H) (.bl i)
theorem ed_non : EvD K (tC .non) σ .none := fun H Q q => q _ H (Same.refl H) .non
theorem ed_nil : EvDA K tNil σ [] := fun H Q q => q _ H (Same.refl H) .nil
theorem ed_cons (h : EvD K te σ d) (t : EvDA K ta σ ds) : EvDA K (tCons te ta) σ (d :: ds) := fun H Q q =>
  h H _ fun v H1 s1 dv => t H1 _ fun vs H2 s2 dvs => q _ H2 (s1.trans s2) (.cons (Dd.same s2 d v dv) dvs)
theorem ed_tup (h : EvDA K ta σ ds) (hl : ds.length ≤ 100000) : EvD K (tTup ta) σ (.tuple ds) := fun H Q q =>
  h H _ fun vs H1 s1 dvs => ⟨sz_of (by rw [dvs.length]; exact hl), fun p hp => q _ _ (s1.trans (Same.new hp)) (.tup upd_same (DdAll.same (Same.new hp) ds vs dvs))⟩
theorem ed_lst (h : EvDA K ta σ ds) (hl : ds.length ≤ 100000) : EvD K (tLst ta) σ (.list ds) := fun H Q q =>
  h H _ fun vs H1 s1 dvs => ⟨sz_of (by rw [dvs.length]; exact hl), fun p hp => q _ _ (s1.trans (Same.new hp)) (.lst upd_same (DdAll.same (Same.new hp) ds vs dvs))⟩
theorem ed_dct : EvD K tDNewK σ (.dict []) := fun H Q q => fun p hp => q _ _ (Same.new hp) (.dct upd_same)
theorem ed_neg {i : Int} : EvD K (tUn (rU fun i => .int (-i)) (tC (.int i))) σ (.int (-i)) := fun H Q q => ⟨i, rfl, q _ H (Same.refl H) (.int _)⟩
end
theorem DdAll.append {K : PySem.W.Frag} {H : Hp} : ∀ {vs ws : List V} {ds es : List PyData}, DdAll K H vs ds → DdAll K H ws es → DdAll K H (vs ++ ws) (ds ++ es)
  | _, _, _, _, .nil, b => b
  | _, _, _, _, .cons h t, b => .cons h (DdAll.append t b)
theorem DdAll.mem {K : PySem.W.Frag} {H : Hp} : ∀ {vs : List V} {ds : List PyData} {v : V}, DdAll K H vs ds → okAll ds → v ∈ vs → ∃ d, Dd K H v d ∧ okD d
  | _, _, _, .nil, _, h => by cases h
  | _, _, v, .cons h t, o, m => by
    rcases List.mem_cons.mp m with e | m
    · subst e
      exact ⟨_, h, o.1⟩
    · exact DdAll.mem t o.2 m
/-- a value that needs no heap -/
def Scal (v : V) : Prop := ∃ d, okD d ∧ ∀ K H, Dd K H v d
theorem scal_int (i : Int) : Scal (.int i) := ⟨.int i, trivial, fun _ _ => .int i⟩
theorem scal_bl (i : Bool) : Scal (.bl i) := ⟨.bool i, trivial, fun _ _ => .bl i⟩
theorem scal_non : Scal .non := ⟨.none, trivial, fun _ _ => .non⟩
theorem scal_str (x : Str) (h : x.length ≤ 100000) : Scal (.str x) := ⟨.str x, h, fun _ _ => .str x⟩
theorem PoolAt.ne' {p a : Addr} {H : Hp} (h : PoolAt H p) (e : H a = none) : a ≠ p := by
  obtain ⟨x, y, h, _⟩ := h
  exact (ne_of_none h e).symm
/-- a made list, a made tuple: the heap behind is a letter -/
theorem a_lst {xs : List V} {H : Hp} {Q : VK} (hl : xs.length ≤ 100000) (q : ∀ p H2, H p = none → Same H H2 → H2 p = some (.lst xs) → Q (.ref p) H2) : AllocL xs H Q :=
  ⟨sz_of hl, fun p hp => q p _ hp (Same.new hp) upd_same⟩
theorem a_tup {xs : List V} {H : Hp} {Q : VK} (hl : xs.length ≤ 100000) (q : ∀ p H2, H p = none → Same H H2 → H2 p = some (.tup xs) → Q (.ref p) H2) : AllocT xs H Q :=
  ⟨sz_of hl, fun p hp => q p _ hp (Same.new hp) upd_same⟩
/-- texts of at most n signs -/
def textB (n : Nat) : V → Bool
  | .str x => decide (x.length ≤ n)
  | _ => false
theorem textB_all {n : Nat} {xs : List V} {v : V} (h : xs.all (textB n) = true) (m : v ∈ xs) : ∃ x : Str, v = .str x ∧ x.length ≤ n := by
  have q := List.all_eq_true.mp h v m
  cases v with
  | str x => exact ⟨x, rfl, of_decide_eq_true q⟩
  | _ => cases q
def scalB : V → Bool
  | .non => true
  | .bl _ => true
  | .int _ => true
  | .str x => decide (x.length ≤ 100000)
  | _ => false
theorem scal_of {v : V} (h : scalB v = true) : Scal v := by
  cases v with
  | non => exact scal_non
  | bl b => exact scal_bl b
  | int i => exact scal_int i
  | str x => exact scal_str x (of_decide_eq_true h)
  | _ => cases h
theorem scal_all {xs : List V} {v : V} (h : xs.all scalB = true) (m : v ∈ xs) : Scal v := scal_of (List.all_eq_true.mp h v m)
/-- an item at a drawn place -/
theorem at_drawn {xs : List V} {r : Int} (h0 : 0 ≤ r) (h1 : r < (xs.length : Nat)) : ∃ v, atI xs r = some v ∧ v ∈ xs := by
  obtain ⟨n, rfl⟩ := Int.eq_ofNat_of_zero_le h0
  have hn : n < xs.length := by omega
  exact ⟨xs[n], atI_nat (by simp [hn]), List.getElem_mem hn⟩
theorem r_pow15 {H : Hp} {Q : VK} (q : Q (.int 1000000000000000) H) : rI CPow (fun i j => .int (i ^ j.toNat)) (.int 10) (.int 15) H Q := by
  refine r_I (C := CPow) (⟨by decide, by decide, by decide⟩ : CPow 10 15) ?_
  have e : ((10 : Int) ^ (15 : Int).toNat) = 1000000000000000 := by decide +kernel
  rw [e]
  exact q
theorem r_pow18 {H : Hp} {Q : VK} (q : Q (.int 1000000000000000000) H) : rI CPow (fun i j => .int (i ^ j.toNat)) (.int 10) (.int 18) H Q := by
  refine r_I (C := CPow) (⟨by decide, by decide, by decide⟩ : CPow 10 18) ?_
  have e : ((10 : Int) ^ (18 : Int).toNat) = 1000000000000000000 := by decide +kernel
  rw [e]
  exact q
theorem r_pow6 {H : Hp} {Q : VK} (q : Q (.int 1000000) H) : rI CPow (fun i j => .int (i ^ j.toNat)) (.int 10) (.int 6) H Q := by
  refine r_I (C := CPow) (⟨by decide, by decide, by decide⟩ : CPow 10 6) ?_
  have e : ((10 : Int) ^ (6 : Int).toNat) = 1000000 := by decide +kernel
  rw [e]
  exact q
theorem isEmpty_filter (l : List Nat) (g : Nat → Bool) (f : Nat → V) : ((l.filter fun c => !g c).map f).isEmpty = l.all g := by
  induction l with
  | nil => rfl
  | cons a r ih =>
    rw [List.filter_cons, List.all_cons]
    cases h : g a with
    | true => simpa [h] using ih
    | false => simp
end Tk

set_option Elab.async false
set_option linter.all false
set_option maxRecDepth 100000
set_option maxHeartbeats 4000000
namespace Tk
open PySem PySem.Spec PyProof.Rows L2
/-- a comprehension over a range whose element draws -/
theorem lc_drawn {n s : Nat} {p : Addr} {te : TE} {σ : L2.St} {H1 : Hp} {Qd : VK} (hp : PoolAt H1 p) (hn : n ≤ 100000) (Pv : V → Prop)
    (he : ∀ (i : Nat) (H2 : Hp) (R : VK), i < n → PoolAt H2 p → Drawn p H1 H2 → (∀ v H3, Pv v → Drawn p H2 H3 → R v H3) → te (σ.set s (some (.int (0 + (i : Int))))) H2 R)
    (hd : ∀ (D : Addr) (H' : Hp) (ys : List V), H1 D = none → Drawn p H1 H' → ys.length = n → (∀ y ∈ ys, Pv y) → H' D = some (.lst ys) → Qd (.ref D) H') :
    LcG (Itr 0 n) (gName s) tYes te [s] σ H1 Qd := by
  intro D hD
  have nD : D ≠ p := by
    obtain ⟨a, b, e, _⟩ := hp
    exact (ne_of_none e hD).symm
  refine lc_range (Qd := fun H' => Qd (.ref D) H') (lo := 0) (n := n) (fun i H' => Drawn p H1 H' ∧ ∃ ys : List V, ys.length = i ∧ (∀ y ∈ ys, Pv y) ∧ H' D = some (.lst ys)) ⟨Drawn.of hp (Same.new hD), [], rfl, (fun _ h => by cases h), upd_same⟩ ?_ (fun H' ⟨d, ys, e1, e2, e3⟩ => hd D H' ys hD d e1 e2 e3)
  rintro i H2 hi ⟨d2, ys, e1, e2, e3⟩
  show wipe ((wipe σ [s]).set s (some (V.int (0 + (i : Int))))) [s] = wipe σ [s] ∧ _
  refine ⟨wipe_set σ s _, ?_⟩
  simp only [tYes, reduceIte, wipe_slot]
  refine he i H2 _ hi d2.pool d2 fun v H3 hv d3 => ?_
  have e4 := d3.kept _ _ e3 nD
  refine ⟨ys, e4, sz_lt (by omega), ?_⟩
  have d5 : Drawn p H1 H3 := d2.trans d3
  refine ⟨⟨fun b o h n => by rw [upd_ne (ne_of_none h hD)]; exact d5.kept b o h n, ?_⟩, ys ++ [v], by simp [e1], fun y hy => ?_, upd_same⟩
  · obtain ⟨a, b, e, r⟩ := d5.pool
    exact ⟨a, b, by rw [upd_ne nD.symm]; exact e, r⟩
  · rcases List.mem_append.mp hy with h | h
    · exact e2 y h
    · rw [List.mem_singleton.mp h]; exact hv
theorem strs_of {n : Nat} : ∀ {ys : List V}, (∀ y ∈ ys, ∃ x : Str, y = .str x ∧ x.length ≤ n) → ∃ zs : List Str, ys = zs.map V.str ∧ ∀ z ∈ zs, z.length ≤ n
  | [], _ => ⟨[], rfl, fun _ h => by cases h⟩
  | y :: ys, h => by
    obtain ⟨x, rfl, hx⟩ := h y List.mem_cons_self
    obtain ⟨zs, rfl, hz⟩ := strs_of (ys := ys) fun z hz => h z (List.mem_cons_of_mem _ hz)
    exact ⟨x :: zs, rfl, fun z hz' => by
      rcases List.mem_cons.mp hz' with rfl | h
      · exact hx
      · exact hz z h⟩
theorem sum_le {n : Nat} : ∀ {zs : List Str}, (∀ z ∈ zs, z.length ≤ n) → (zs.map (·.length)).sum ≤ zs.length * n
  | [], _ => by simp
  | z :: zs, h => by
    have h1 := h z List.mem_cons_self
    have h2 := sum_le (zs := zs) fun y hy => h y (List.mem_cons_of_mem _ hy)
    rw [List.map_cons, List.sum_cons, List.length_cons, Nat.succ_mul]
    omega
theorem join_len (sep : Str) (zs : List Str) : (Txt.join sep zs).length = (zs.map (·.length)).sum + (zs.length - 1) * sep.length := size_glued sep zs
def rJoin (K : PySem.W.Frag) : V → List V → Hp → VK → Prop := fun x xs H Q => ∃ a p, ∃ ys : List Str, x = V.str a ∧ xs = [V.ref p] ∧ (SqL K H p (ys.map V.str) ∨ SqT K H p (ys.map V.str)) ∧ (ys.map (·.length)).sum + ys.length * a.length ≤ 16777216 ∧ Q (.str (Txt.join a ys)) H
theorem pe_joinK {X : Cx} {o e : Expr} {to te : TE} {apos pos : Pos} (ho : PE X o to) (he : PE X e te) (hs : starEach [e] X.env = [(false, eval e X.env)] := by rfl) (hbase : attributeBase o "join" X.env (eval o X.env) = eval o X.env := by rfl) (hline : (apos.endLine == pos.line) = true := by rfl) :
    PE X (.Call (.Attribute o "join" apos) [e] [] pos) (tM1 (rJoin X.K) to te) := pe_join ho he hs hbase hline
theorem r_m1 {r : V → List V → Hp → VK → Prop} {to te : TE} {σ : L2.St} {H : Hp} {Q : VK} (h : to σ H fun x H1 => (∃ a, x = .str a) ∧ te σ H1 fun y H2 => r x [y] H2 Q) : tM1 r to te σ H Q := h
theorem r_join {K : PySem.W.Frag} {p : Addr} {zs : List Str} {sep : Str} {H : Hp} {Q : VK} (h : H p = some (.lst (zs.map V.str))) (hz : (zs.map (·.length)).sum + zs.length * sep.length ≤ 16777216) (q : Q (.str (Txt.join sep zs)) H) : rJoin K (.str sep) [.ref p] H Q :=
  ⟨sep, p, zs, rfl, rfl, .inl (SqL.of h), hz, q⟩
/-! ### the rules with the written part said by its letter -/
section
variable {X : Cx} {K : PySem.W.Frag}
theorem k_ix (e : X.K = K := by rfl) : IxR X (rIx K) := by subst e; exact ix_seq
theorem k_add (e : X.K = K := by rfl) : OpR X (binaryOp .Add) (GAdd K) := by subst e; exact o_add
theorem k_eq (hu : X.A.units + 64 < cLine) (e : X.K = K := by rfl) : OpR X (compareOp .Eq) (GEq K) := by subst e; exact o_eq hu
theorem k_ne (hu : X.A.units + 64 < cLine) (e : X.K = K := by rfl) : OpR X (compareOp .NotEq) (GNe K) := by subst e; exact o_ne hu
theorem k_isi (e : X.K = K := by rfl) : CallR X (.builtin "isinstance") (rIsi K) := by subst e; exact call_isi
theorem k_len (e : X.K = K := by rfl) : CallR X (.builtin "len") (rLen K) := by subst e; exact c_len
theorem k_all (hc : X.calm = true) (e : X.K = K := by rfl) : CallR X (.builtin "all") (rAll K) := by subst e; exact cr_all hc
theorem k_any (hc : X.calm = true) (e : X.K = K := by rfl) : CallR X (.builtin "any") (rAny K) := by subst e; exact cr_any hc
theorem k_listOf (e : X.K = K := by rfl) : CallR X (.type "list") (rListOf K) := by subst e; exact c_listOf
def GSlice (K : PySem.W.Frag) : V → Option Int → Option Int → Hp → VK → Prop := fun x lo hi H Q => rSlL K x lo hi H Q ∨ (rSlS x lo hi H Q ∨ rSlA K x lo hi H Q)
theorem k_slice (e : X.K = K := by rfl) : SlR X (GSlice K) := by subst e; exact o_slice
theorem r_sl {r : V → Option Int → Option Int → Hp → VK → Prop} {te : TE} {tl th : TO} {σ : L2.St} {H : Hp} {Q : VK} (h : te σ H fun x H1 => tl σ H1 fun lo H2 => th σ H2 fun hi H3 => r x lo hi H3 Q) : tSl r te tl th σ H Q := h
theorem r_un {r : V → Hp → VK → Prop} {te : TE} {σ : L2.St} {H : Hp} {Q : VK} (h : te σ H fun x H1 => r x H1 Q) : tUn r te σ H Q := h
theorem r_U {g : Int → V} {i : Int} {H : Hp} {Q : VK} (q : Q (g i) H) : rU g (.int i) H Q := ⟨i, rfl, q⟩
theorem g_listOfT {p : Addr} {xs : List V} {H : Hp} {Q : VK} (h : H p = some (.tup xs)) (q : ∀ l H2, H l = none → Same H H2 → H2 l = some (.lst xs) → Q (.ref l) H2) : rListOf K [.ref p] H Q := r_listOfT h fun l hl => q l _ hl (Same.new hl) upd_same
theorem r_noPart {σ : L2.St} {H : Hp} {R : Option Int → Hp → Prop} (h : R none H) : tNoPart σ H R := h
theorem r_part {te : TE} {σ : L2.St} {H : Hp} {R : Option Int → Hp → Prop} (h : te σ H fun x H1 => ∃ i, x = .int i ∧ R (some i) H1) : tPart te σ H R := h
theorem r_inti {i : Int} {P : Int → Prop} (q : P i) : ∃ j, V.int i = V.int j ∧ P j := ⟨i, rfl, q⟩
theorem g_slS {x : Str} {lo hi : Option Int} {H : Hp} {Q : VK} (hx : x.length ≤ 100000) (q : Q (.str (cutS x lo hi)) H) : GSlice K (.str x) lo hi H Q := .inr (.inl ⟨x, rfl, sz_of hx, q⟩)
theorem g_slT {a : Addr} {xs : List V} {n : Nat} {lo hi : Option Int} {H : Hp} {Q : VK} (h : H a = some (.tup xs)) (hn : xs.length = n) (hw : ¬ (HT.sIx n 0 lo = 0 ∧ HT.sIx n n hi = n)) (q : ∀ p H2, H p = none → Same H H2 → H2 p = some (.tup (cutV xs lo hi)) → Q (.ref p) H2) : GSlice K (.ref a) lo hi H Q := by
  subst hn
  exact .inr (.inr ⟨a, xs, rfl, SqT.of h, fun w => absurd w hw, fun _ p hp => q p _ hp (Same.new hp) upd_same⟩)
theorem cutS_len (z : Str) (lo hi : Option Int) : (cutS z lo hi).length ≤ z.length := by
  unfold cutS
  show (List.toArray _).size ≤ z.cps.size
  rw [List.size_toArray, List.length_take, List.length_drop, Array.length_toList]
  omega
theorem k_list {tg l : Expr} {tl : TE} (hl : PE X l tl) (e : X.K = K := by rfl) : PI X tg l (iList K tl) := by subst e; exact pi_list hl
theorem k_tup {tg l : Expr} {tl : TE} (hl : PE X l tl) (e : X.K = K := by rfl) : PI X tg l (iTup K tl) := by subst e; exact pi_tup hl
theorem k_gtup {es : List Expr} {k : Nat} {pos : Pos} {t : TGs} {n : Nat} (hc : X.calm = true) (h : PGs X es t) (e : X.K = K := by rfl) (hn : (assignEach es X.env).length = n := by rfl) (hst : (assignEach es X.env).findIdx? (·.1) = none := by rfl) : PG X (.Tuple es k pos) (gTup K n t) := by subst e; exact pg_tup hc h hn hst
theorem k_joinK {o e' : Expr} {to te : TE} {apos pos : Pos} (ho : PE X o to) (he : PE X e' te) (e : X.K = K := by rfl) (hs : starEach [e'] X.env = [(false, eval e' X.env)] := by rfl) (hbase : attributeBase o "join" X.env (eval o X.env) = eval o X.env := by rfl) (hline : (apos.endLine == pos.line) = true := by rfl) :
    PE X (.Call (.Attribute o "join" apos) [e'] [] pos) (tM1 (rJoin K) to te) := by subst e; exact pe_joinK ho he hs hbase hline
end
def spDraw (Pv : V → Prop) : Sp := fun vs H Q _ => ∃ (p : Addr), vs = [.ref p] ∧ PoolAt H p ∧ ∀ v H', Pv v → Drawn p H H' → Q v H'
theorem spDraw_len {Pv : V → Prop} {vs : List V} {H : Hp} {Q : VK} {E : XK} (h : spDraw Pv vs H Q E) : vs.length = 1 := by
  obtain ⟨p, rfl, _⟩ := h
  rfl
theorem r_draw {Pv : V → Prop} {p : Addr} {H : Hp} {Q : VK} {E : XK} (h : PoolAt H p) (q : ∀ v H', Pv v → Drawn p H H' → Q v H') : spDraw Pv ([.ref p] ++ []) H Q E := ⟨p, rfl, h, q⟩
/-- a text of at most n signs -/
def TextV (n : Nat) (v : V) : Prop := ∃ x : Str, v = .str x ∧ x.length ≤ n
theorem turns_of (m l : Nat) (hm : 1 ≤ m) : ∃ n : Nat, (if (if (m : Int) < (l : Int) then (m : Int) else (l : Int)) > 1 then (if (m : Int) < (l : Int) then (m : Int) else (l : Int)) else 1) = (n : Int) ∧ n ≤ m := by
  by_cases h : (m : Int) < (l : Int)
  · rw [if_pos h]
    by_cases h2 : (m : Int) > 1
    · exact ⟨m, if_pos h2, Nat.le_refl _⟩
    · exact ⟨1, if_neg h2, hm⟩
  · rw [if_neg h]
    by_cases h2 : (l : Int) > 1
    · exact ⟨l, if_pos h2, by omega⟩
    · exact ⟨1, if_neg h2, hm⟩
theorem r_pool {K : PySem.W.Frag} {s : Addr} {ns : List Int} {k : Int} {H : Hp} {Q : VK} {E : XK} (h : SqL K H s (ns.map V.int)) (hl : ns.length ≤ 63) (h0 : 0 ≤ k) (h1 : k < 64) (q : ∀ p H', H p = none → Same H H' → PoolAt H' p → Q (.ref p) H') : spPool K ([.ref s, .int k] ++ []) H Q E :=
  ⟨s, ns, k, rfl, h, hl, h0, h1, q⟩
/-- the law's own promise -/
def spLaw (K : PySem.W.Frag) : Sp := fun vs H Q _ => ∃ (a : Addr) (ns : List Int), vs = [.ref a] ∧ SqL K H a (ns.map V.int) ∧ ns.length ≤ 63 ∧ ∀ H', Q (.bl true) H'
theorem spLaw_len {K : PySem.W.Frag} {vs : List V} {H : Hp} {Q : VK} {E : XK} (h : spLaw K vs H Q E) : vs.length = 1 := by
  obtain ⟨a, ns, rfl, _⟩ := h
  rfl
theorem ev_use {K : PySem.W.Frag} {te : TE} {σ : L2.St} {d : PyData} {H : Hp} {Q : VK} (h : EvD K te σ d) (q : ∀ v H', Same H H' → Dd K H' v d → Q v H') : te σ H Q := h H Q q
theorem g_cat {K : PySem.W.Frag} {v w : V} {ds es : List PyData} {H : Hp} {Q : VK} (h1 : Dd K H v (.list ds)) (h2 : Dd K H w (.list es)) (hl : ds.length + es.length ≤ 100000) (q : ∀ v' H2, Same H H2 → Dd K H2 v' (.list (ds ++ es)) → Q v' H2) : GAdd K v w H Q := by
  cases h1 with
  | lst e1 a1 =>
    cases h2 with
    | lst e2 a2 =>
      exact .inr (.inr (.inl ⟨_, _, _, _, rfl, rfl, e1, e2, sz_of (by rw [a1.length, a2.length]; exact hl), fun p hp => q _ _ (Same.new hp) (.lst upd_same (DdAll.same (Same.new hp) _ _ (a1.append a2)))⟩))
/-- a comprehension over a list of data whose tests all fail -/
theorem lc_none {K : PySem.W.Frag} {T : Addr} {xs : List V} {ds : List PyData} {s : Nat} {tt : TT} {te : TE} {σ : L2.St} {H : Hp} {Q : VK} (e : H T = some (.lst xs)) (al : DdAll K H xs ds) (ok : okAll ds) (hl : ds.length ≤ 100000)
    (ht : ∀ v d, Dd K H v d → okD d → ∀ (H2 : Hp) (R : Bool → Hp → Prop), Same H H2 → (∀ H3, Same H2 H3 → R false H3) → tt (σ.set s (some v)) H2 R)
    (hd : ∀ (D : Addr) (H' : Hp), H D = none → Same H H' → H' D = some (.lst []) → Q (.ref D) H') : LcG (Itl K T) (gName s) tt te [s] σ H Q := by
  refine lc_pure walk_list (fun H' s' => SqL.of (s' _ _ e)) (by rw [al.length]; exact hl) (fun _ => false) (fun v => v) ?_ (fun _ _ h => nomatch h) ?_
  · intro v hv H2 R s2 q
    obtain ⟨d, hd, od⟩ := al.mem ok hv
    exact ht v d hd od H2 R s2 q
  · intro D H' h0 s' e'
    refine hd D H' h0 s' ?_
    rw [e']
    have z : xs.filter (fun _ => false) = [] := List.filter_eq_nil_iff.mpr (fun _ _ h => nomatch h)
    rw [z]
    rfl
/-- a loop over a list of data that only makes new things -/
theorem for_data {K : PySem.W.Frag} {T : Addr} {xs : List V} {g : TG} {tb : TS} {D : Ends} {σ : L2.St} {H : Hp} (e : H T = some (.lst xs)) (Sl : L2.St → Prop) (h0 : Sl σ)
    (hs : ∀ v ∈ xs, ∀ (σ : L2.St) (H2 : Hp), Sl σ → Same H H2 → g v σ H2 fun σ2 H3 => tb { D with nx := fun σ' H' => Sl σ' ∧ Same H H', ct := fun σ' H' => Sl σ' ∧ Same H H', bk := D.nx } σ2 H3) (hd : ∀ σ H', Sl σ → Same H H' → D.nx σ H') :
    ForG (Itl K T) g tb D σ H := by
  refine for_it walk_list (fun _ σ H' => Sl σ ∧ Same H H') ⟨h0, Same.refl H⟩ (fun i σ H' _ p => SqL.of (p.2 _ _ e)) ?_ (fun σ H' p => hd σ H' p.1 p.2)
  rintro i x σ H2 H2' hi ⟨p1, p2⟩ ⟨rfl, hx⟩
  exact hs x (List.mem_of_getElem? hx) σ _ p1 p2
end Tk

set_option Elab.async false
set_option linter.all false
set_option maxRecDepth 100000
set_option maxHeartbeats 4000000
/-! defs as they are called where no repr runs around them: a promise that may lean on it (repr of lists and tuples asks it) -/
namespace Tk
open PySem PySem.Spec PyProof.Rows L2
structure FnG (P : Program) (w : World) (K : PySem.W.Frag) (mg : Str → Option Value) (base : Heap) (CX : CXT) (k : Nat) (f : Addr) (fd : FuncData) (ps : List Str) (sp : Sp) : Prop where
  arity : ∀ zs H Q E, sp zs H Q E → zs.length = ps.length
  go : ∀ (B : Around) (outs : List Env) (t : Shared) (H : Hp) (ar : Args) (us : List Value) (zs : List V) (Q : VK) (E : XK), B.guards = some [] → Room k B → Env0 P w K mg base B outs t H →
    BindsTo t fd ar (ps.zip us) → Vals zs us → sp zs H Q E → codeAny (model P w) B (.call (.ref f) ar) (CR CX outs P w H t Q E) t
section
variable {P : Program} {w : World} {K : PySem.W.Frag} {mg : Str → Option Value} {base : Heap} {CX : CXT} {j k : Nat} {f : Addr} {fd : FuncData} {ps : List Str} {sp : Sp}
theorem FnG.of (F : FnOk P w K mg base CX k f fd ps sp) : FnG P w K mg base CX k f fd ps sp :=
  ⟨F.len, fun B outs t H ar us zs Q E _ rm => F.run B outs t H ar us zs Q E rm⟩
theorem FnG.mono (F : FnG P w K mg base CX j f fd ps sp) (h : j ≤ k) : FnG P w K mg base CX k f fd ps sp :=
  ⟨F.arity, fun B outs t H ar us zs Q E gd rm => F.go B outs t H ar us zs Q E gd (rm.mono h)⟩
end
structure CalG (P : Program) (w : World) (K : PySem.W.Frag) (mg : Str → Option Value) (base : Heap) (CX : CXT) (k : Nat) (x : Str) (ps : List Str) (sp : Sp) : Prop where
  ex : ∃ (f : Addr) (fd : FuncData), mg x = some (.ref f) ∧ PySem.W.keepIn K (.ref f) = true ∧ Binds K fd ps [] ∧ FnG P w K mg base CX k f fd ps sp
section
variable {P : Program} {w : World} {K : PySem.W.Frag} {mg : Str → Option Value} {base : Heap} {CX : CXT} {j k : Nat} {x : Str} {ps : List Str} {sp : Sp}
theorem CalG.mono (C : CalG P w K mg base CX j x ps sp) (h : j ≤ k) : CalG P w K mg base CX k x ps sp := by
  obtain ⟨f, fd, m1, m2, m3, F⟩ := C.ex
  exact ⟨f, fd, m1, m2, m3, F.mono h⟩
theorem Cal.toG (C : Cal P w K mg base CX k x ps sp) : CalG P w K mg base CX k x ps sp := by
  obtain ⟨f, fd, m1, m2, m3, F⟩ := C.ex
  exact ⟨f, fd, m1, m2, m3, FnG.of F⟩
theorem CalG.of {f : Addr} {fd : FuncData} (m1 : mg x = some (.ref f)) (m2 : PySem.W.keepIn K (.ref f) = true) (m3 : Binds K fd ps []) (F : FnG P w K mg base CX k f fd ps sp) : CalG P w K mg base CX k x ps sp := ⟨f, fd, m1, m2, m3, F⟩
end
/-! ### calls -/
section
variable {X : Cx} {CX : CXT} {k : Nat} {f : Addr} {fd : FuncData} {ps : List Str} {sp : Sp} {E : XK} {x : Str} {p pos : Pos} {e : Expr} {es : List Expr} {t : TA}
theorem goG {pn : List (Addr × Obj)} {σ : L2.St} {H : Hp} {s : Shared} {Q : VK} {us : List Value} {zs : List V} (F : FnG X.prog X.w X.K X.mg X.base CX k f fd ps sp) (gd : X.A.guards = some []) (rm : Room k X.A) (bd : Binds X.K fd ps []) (hE : ∀ u s', Inv X pn σ H s → CX X.stack H s E u s' → X.xe u s')
    (I : Inv X pn σ H s) (rv : Vals zs us) (q : sp zs H Q E) : wpAny (model X.prog X.w) X.A (call (.ref f) us) (EP X pn σ Q) X.xe s := by
  have ar : us.length = ps.length := rv.length.symm.trans (F.arity _ _ _ _ q)
  have b := bd s us I.kIn (by rw [List.append_nil]; exact ar)
  rw [List.append_nil] at b
  refine wpAny_call (codeAny_mono (F.go X.A X.stack s H ⟨us, []⟩ us zs Q E gd rm I.env0 b rv q) ?_)
  rintro (e' | fl) s' hq
  · exact hE _ s' I hq
  · rcases fl with _ | _ | _ | u
    all_goals first | exact I.after hq | exact hq.elim
theorem pe_calg (C : CalG X.prog X.w X.K X.mg X.base CX k x ps sp) (gd : X.A.guards = some []) (rm : Room k X.A) (hx : Passes CX X E) (ha : PA X (e :: es) t) (hg : Gl X x := by rfl)
    (hdb : (x == ("__debug__" : Str)) = false := by decide) (he : starEach (e :: es) X.env = (false, eval e X.env) :: starEach es X.env := by rfl) (hpl : (backTo pos (starEach es X.env)).any (·.1) = false := by rfl) :
    PE X (.Call (.Name x p) (e :: es) [] pos) (tCall sp [] E t) := by
  obtain ⟨f, fd, m1, m2, m3, F⟩ := C.ex
  constructor
  intro pn s σ H Q I h
  refine wpAny_Call_Name_kw (ld_glob I hg m1 ?_ hdb)
  refine PySem.W.callWith_K (h₀ := X.base) I.ok.mod.kin m2 (thn (ha.run pos pn s σ H _ I h) ?_) he hpl
  rintro us s1 ⟨zs, H1, I1, rv, q⟩
  refine ⟨I1.kIn, goG F gd rm m3 (fun u s' I c => hx pn σ H1 s1 u s' I c) I1 rv ?_⟩
  rw [List.append_nil] at q
  exact q
end
/-! ### a def's body -/
section
variable {P : Program} {w : World} {K : PySem.W.Frag} {mg : Str → Option Value} {base : Heap} {CX : CXT} {k : Nat} {f : Addr} {N ps : List Str} {sp : Sp} {nm qn : Str} {prm : Arguments} {bd : List Stmt} {sco : Scope} {u1 u2 u3 u4 u5 u6 u7 : Value} {an od : Option Addr} {osl : Array (Option Value)}
theorem fnG_of (at_f : K.lookup f = some ⟨u7, od, .func (PySem.W.fnOf nm qn prm bd sco u1 u2 u3 u4 an u5 u6), osl⟩) (cd : PySem.W.codeIn K u5 qn = true) (S : FnScope N ps sco) (ary : ∀ zs H Q E, sp zs H Q E → zs.length = ps.length)
    (body : ∀ (B : Around) (outs : List Env) (t : Shared) (H : Hp) (zs : List V) (Q : VK) (E : XK), B.guards = some [] → Room k (B.deeper (envOfC qn sco t.heap.objs.size f u5)) → sp zs H Q E →
      ∃ tr, PSs (cxOf CX P w K mg base N qn sco f u5 B outs t H E) bd tr ∧ tr { nx := fun _ H' => Q .non H', rt := Q } (start N zs) H) :
    FnG P w K mg base CX (k + 1) f (PySem.W.fnOf nm qn prm bd sco u1 u2 u3 u4 an u5 u6) ps sp := by
  constructor
  case arity => exact ary
  intro B outs t H ar us zs Q E gd rm e0 bt rv q
  have len := ary _ _ _ _ q
  have up := fun b o e => (e0.bs b o e).1
  have kin : K.In t.heap := e0.mod.kin.keeps up
  have ndl : t.heap.NoLimit := e0.mod.nolimit.keeps up
  have kd : ∀ y ∈ ps.zip us, sco.names.lookup y.1 = some .local ∨ (sco.names.lookup y.1 = some .cell ∧ ((cellsFrom (t.heap.objs.size + 1) sco.names []).lookup y.1).isSome = true) := by
    rintro ⟨a, b⟩ hy
    cases S.par a (List.of_mem_zip hy).1 with
    | inl z => exact .inl z
    | inr z => exact .inr ⟨z, PySem.W.cellsFrom_some _ _ _ (.inl z)⟩
  refine codeAny_call_function rm.depth (kin _ _ at_f) rfl S.co S.gen rfl (PySem.W.codeRec_of kin cd) (bt _ _ _ _ ?_)
  refine wpAny_newFunctionEnv_cells S.kind kd ?_
  intro ff eq t1 xx
  cases eq
  refine ⟨ndl.keeps xx.toInCall.keep, codeAny_func ?_⟩
  obtain ⟨tr, der, rd⟩ := body B outs t H zs Q E gd (rm.deeper _) q
  have I0 := inv_start (CX := CX) (E := E) S rm.hd e0 len rv xx
  refine wpAny_mono (der.run [] t1 (start N zs) H _ I0 rd) ?_ (fun _ _ z => z)
  intro fl t2 hz
  cases fl with
  | next => obtain ⟨σ', H', J, z⟩ := hz; exact ⟨.non, H', J.os, J.bare, J.base, J.hok, rfl, z⟩
  | ret u => obtain ⟨v, σ', H', J, rr, z⟩ := hz; exact ⟨v, H', J.os, J.bare, J.base, J.hok, rr, z⟩
  | brk => obtain ⟨_, _, _, z⟩ := hz; exact z.elim
  | cont => obtain ⟨_, _, _, z⟩ := hz; exact z.elim
theorem funG {x qual : Str} {st : Stmt} {fd : FuncData} (F : Fun K x qual st f fd) (S : FnScope N ps (defScope st)) (ary : ∀ zs H Q E, sp zs H Q E → zs.length = ps.length)
    (body : ∀ (cdv : Value) (B : Around) (outs : List Env) (t : Shared) (H : Hp) (zs : List V) (Q : VK) (E : XK), B.guards = some [] → Room k (B.deeper (envOfC qual (defScope st) t.heap.objs.size f cdv)) → sp zs H Q E →
      ∃ tr, PSs (cxOf CX P w K mg base N qual (defScope st) f cdv B outs t H E) (defBody st) tr ∧ tr { nx := fun _ H' => Q .non H', rt := Q } (start N zs) H) : FnG P w K mg base CX (k + 1) f fd ps sp := by
  obtain ⟨_, _, _, _, _, _, cdv, _, _, rfl, at_f, cd⟩ := F.ex
  exact fnG_of at_f cd S ary fun B outs t H zs Q E gd rm q => body cdv B outs t H zs Q E gd rm q
/-- where no error leaves it -/
theorem funG0 {x qual : Str} {st : Stmt} {fd : FuncData} (F : Fun K x qual st f fd) (S : FnScope N ps (defScope st)) (ary : ∀ zs H Q E, sp zs H Q E → zs.length = ps.length)
    (body : ∀ (cdv : Value) (B : Around) (outs : List Env) (t : Shared) (H : Hp) (zs : List V) (Q : VK) (E : XK), B.guards = some [] → Room k (B.deeper (envOfC qual (defScope st) t.heap.objs.size f cdv)) → sp zs H Q E →
      ∃ tr, PSs (cxOf CX0 P w K mg base N qual (defScope st) f cdv B outs t H E).nox (defBody st) tr ∧ tr { nx := fun _ H' => Q .non H', rt := Q } (start N zs) H) : FnG P w K mg base CX0 (k + 1) f fd ps sp :=
  funG F S ary fun cdv B outs t H zs Q E gd rm q => by
    obtain ⟨tr, d, r⟩ := body cdv B outs t H zs Q E gd rm q
    exact ⟨tr, d.nox, r⟩
end
/-! ### the law's own call -/
section
variable {P : Program} {w : World} {K : PySem.W.Frag} {mg mb : Str → Option Value} {k : Nat} {fa a : Addr} {fd : FuncData} {x : Str} {t : Shared} {vs : List Value} {ns : List Int}
theorem lawG (kin : K.In t.heap) (n1 : t.heap.Ns mainGlobals mg) (n2 : t.heap.Ns builtinsNs mb) (n3 : ∀ y : Str, y ≠ "__name__" → mb y = bootBuiltins y) (ndl : t.heap.NoLimit) (gz : t.gens = #[])
    (obj : t.heap.get? a = some { cls := .type "list", data := .seq vs.toArray }) (are : IntsAre vs ns) (small : ns.length ≤ 63) (rm : Room k callerA)
    (F : ∀ bh : Heap, K.In bh → bh.Ns mainGlobals mg → FnG P w K mg bh CX0 k fa fd [x] (spLaw K)) (bt : ∀ (s : Shared) (u : Value), BindsTo s fd ⟨[u], []⟩ [(x, u)]) :
    codeAny (model P w) callerA (.call (.ref fa) ⟨[.ref a], []⟩) (fun r s' => r = .ok (.ret (.bool true)) ∧ OldK t.heap s'.heap ∧ s'.os = t.os ∧ AllBare s'.gens) t := by
  have lens := are.length
  have rel := vals_ints are
  have main : ∀ H : Hp, (∀ b, H b = none ∨ (b = a ∧ H b = some (.frz { cls := .type "list", data := .seq vs.toArray } (.lst (ns.map V.int))))) → (H a ≠ none → K.lookup a = none) → SqL K H a (ns.map V.int) →
      codeAny (model P w) callerA (.call (.ref fa) ⟨[.ref a], []⟩) (fun r s' => r = .ok (.ret (.bool true)) ∧ OldK t.heap s'.heap ∧ s'.os = t.os ∧ AllBare s'.gens) t := by
    intro H form free sq
    have hok : HOk P w H t.heap := by
      intro b u e
      rcases form b with z | ⟨rfl, z⟩
      · rw [z] at e; cases e
      · rw [z] at e
        cases e
        exact ⟨obj, by rw [List.length_map]; exact sz_of (by omega), vs, _, rel, obj⟩
    have hide : ∀ {b : Addr} {o : Obj}, t.heap.get? b = some o → H b = none → (hidT t.heap H).get? b = some o := fun e z => hidT_get e z
    have plain : ∀ {b : Addr} {o : Obj} {es : Array DictEntry} {ep : Nat}, t.heap.get? b = some o → o.data = .dict es ep → H b = none := by
      intro b o es ep e dd
      rcases form b with z | ⟨rfl, _⟩
      · exact z
      · rw [obj] at e
        cases e
        exact nomatch dd
    have names : ∀ {b : Addr} {m : Str → Option Value}, t.heap.Ns b m → (hidT t.heap H).Ns b m := by
      rintro b m ⟨o, es, ep, e, dd, rr⟩
      exact ⟨o, es, ep, hide e (plain e dd), dd, rr⟩
    have kin2 : K.In (hidT t.heap H) := by
      intro b o e
      refine hide (kin b o e) ?_
      rcases form b with z | ⟨rfl, z⟩
      · exact z
      · rw [free (by rw [z]; exact fun q => nomatch q)] at e
        cases e
    obtain ⟨mc, c1, c2⟩ := ndl
    have md : Mod K mg (hidT t.heap H) := ⟨kin2, names n1, ⟨mb, names n2, n3⟩, ⟨mc, names c1, c2⟩⟩
    have e0 : Env0 P w K mg (hidT t.heap H) callerA [] t H :=
      { frames := rfl, mod := md, bs := fun b o e => of_hidT e, bsz := Nat.le_of_eq (hidT_size _ _), funs := trivial, frf := (fun _ hb => nomatch hb), hok := hok, bare := .of_eq gz }
    refine codeAny_mono ((F _ kin2 (names n1)).go callerA [] t H ⟨[.ref a], []⟩ [.ref a] [.ref a] (fun v _ => v = .bl true) (fun _ _ _ => False) rfl rm e0 (bt t (.ref a)) (.cons rfl .nil) ⟨a, ns, rfl, sq, small, fun _ => rfl⟩) ?_
    rintro (e' | fl) s' hz
    · exact False.elim hz
    · rcases fl with _ | _ | _ | u
      · exact False.elim hz
      · exact False.elim hz
      · exact False.elim hz
      · obtain ⟨v, H', h1, h2, h3, h4, h5, h6⟩ := hz
        have h6' : v = .bl true := h6
        subst h6'
        obtain rfl : u = Value.bool true := h5
        refine ⟨rfl, OldK.of_keep ?_, h1, h2⟩
        intro b o e
        rcases form b with z | ⟨rfl, z⟩
        · exact h3.keep b o e z (by intro y; cases y) (by intro y; cases y)
        · obtain ⟨y1, _⟩ := h4 b _ (h3.frzs b _ _ z)
          rw [obj] at e
          cases e
          exact y1
  cases lk : K.lookup a with
  | some o =>
    have e := kin a o lk
    rw [obj] at e
    cases e
    exact main (fun _ => none) (fun _ => .inl rfl) (fun z => absurd rfl z) (.inr ⟨_, vs.toArray, _, lk, rfl, rfl, rfl, by rw [List.size_toArray, lens]; exact sz_of (by omega), by simpa using rel⟩)
  | none =>
    refine main (fun b => if b = a then some (.frz { cls := .type "list", data := .seq vs.toArray } (.lst (ns.map V.int))) else none) ?_ (fun _ => lk) (.inl (.inr ⟨_, if_pos rfl⟩))
    intro b
    by_cases z : b = a
    · exact .inr ⟨z, if_pos z⟩
    · exact .inl (if_neg z)
end
theorem walkG {l : PySem.W.OpenLaw} {k : Nat} {q : Program} {loose : List Str} {XP : (Str → Option Value) → Heap → Prop} {YP : World → Heap → Prop} {d : DefRec} {K : Params → PySem.W.Frag} {x : Str} (hn : l.most = some 63) (hdf : d.params.defaults = []) (rm : Room k callerA)
    (hY : ∀ (w : World) (h : Heap), YP w h → (K w.params).In h)
    (F : ∀ (w : World) (mg : Str → Option Value) (fa : Addr) (h : Heap), (K w.params).In h → h.Ns mainGlobals mg → mg d.name = some (.ref fa) →
      ∃ fd : FuncData, (∀ (s : Shared) (u : Value), BindsTo s fd ⟨[u], []⟩ [(x, u)]) ∧ ∀ bh : Heap, (K w.params).In bh → bh.Ns mainGlobals mg → FnG l.prog w (K w.params) mg bh CX0 k fa fd [x] (spLaw (K w.params))) :
    PySem.W.WalkO q loose XP YP l.row.toRowW d [] (fun f vs => PySem.call f vs) := by
  refine Att.attach_call hn hdf ?_
  intro w s₀ t mg mb fa o pm cd doc a vs ns G Y ho hd hcd hmg obj are small gz
  have kin := hY w _ Y
  obtain ⟨fd, bt, FF⟩ := F w mg fa _ kin G.T.g hmg
  exact lawG kin G.T.g G.T.b G.T.builtins G.T.nolimit gz obj are small rm FF bt
end Tk

set_option Elab.async false
set_option linter.all false
set_option maxRecDepth 100000
set_option maxHeartbeats 4000000
/-! repr of data; errors of own classes that store their argument as value -/
namespace Tk
open PySem PySem.Spec PyProof.Rows L2
section
variable {X : Cx} {pn : List (Addr × Obj)} {σ : L2.St} {H : Hp} {s : Shared}
mutual
theorem Dd.reads (I : Inv X pn σ H s) : ∀ (d : PyData) (v : V) (u : Value), Dd X.K H v d → RelV v u → ∃ as, Reads s.heap u d as
  | .none, _, _, h, r => by
    cases h; cases r
    exact ⟨_, Reads.none⟩
  | .bool b, _, _, h, r => by
    cases h; cases r
    exact ⟨_, Reads.bool b⟩
  | .int i, _, _, h, r => by
    cases h
    obtain ⟨t, rfl⟩ := r
    exact ⟨_, Reads.int i t⟩
  | .str x, _, _, h, r => by
    cases h
    obtain ⟨t, rfl⟩ := r
    exact ⟨_, Reads.str x t⟩
  | .list ds, _, _, h, r => by
    cases h with
    | lst e al =>
      cases r
      obtain ⟨its, rv, ⟨o, n, ho, hc, _, hd⟩, _⟩ := I.list (SqL.of e)
      obtain ⟨as, q⟩ := DdAll.reads I ds _ its al rv
      exact ⟨_, Reads.list ho hc hd q⟩
  | .tuple ds, _, _, h, r => by
    cases h with
    | tup e al =>
      cases r
      obtain ⟨its, rv, ⟨o, ho, hc, n, hd⟩, _⟩ := I.tuple (SqT.of e)
      obtain ⟨as, q⟩ := DdAll.reads I ds _ its al rv
      exact ⟨_, Reads.tuple ho hc hd q⟩
  | .dict kvs, _, _, h, r => by
    cases h with
    | dct e =>
      cases r
      obtain ⟨_, _, vs, kv, o, es, ep, h1, h2, h3, h4, h5, h6⟩ := (show ObjOk X.prog X.w H s.heap _ (.dK []) from I.hok _ _ e)
      cases kv
      have z : es.toList = [] := by
        generalize es.toList = l at h5
        cases h5
        rfl
      exact ⟨_, Reads.dict (as := []) (bs := []) h1 h2.1 h3 (by rw [z]; exact .nil) (by rw [z]; exact .nil)⟩
theorem DdAll.reads (I : Inv X pn σ H s) : ∀ (ds : List PyData) (vs : List V) (us : List Value), DdAll X.K H vs ds → Vals vs us → ∃ as, ReadsAll s.heap us ds as
  | [], _, _, h, r => by
    cases h; cases r
    exact ⟨_, ReadsAll.nil⟩
  | d :: ds, _, _, h, r => by
    cases h with
    | cons h1 h2 =>
      cases r with
      | cons r1 r2 =>
        obtain ⟨as, q1⟩ := Dd.reads I d _ _ h1 r1
        obtain ⟨bs, q2⟩ := DdAll.reads I ds _ _ h2 r2
        exact ⟨_, ReadsAll.cons q1 q2⟩
end
end
/-- what repr is asked of -/
structure Shows (d : PyData) : Prop where
  form : d.hasDict = false ∨ d = .dict []
  show_ : d.showable = true
  len : d.shown.length ≤ 1000000
  deep : d.depth ≤ 60
def rReprD (K : PySem.W.Frag) : List V → Hp → VK → Prop := fun xs H Q => ∃ v d, xs = [v] ∧ Dd K H v d ∧ Shows d ∧ Q (.str d.shown) H
theorem r_reprD {K : PySem.W.Frag} {v : V} {d : PyData} {H : Hp} {Q : VK} (h : Dd K H v d) (S : Shows d) (q : Q (.str d.shown) H) : rReprD K [v] H Q := ⟨v, d, rfl, h, S, q⟩
theorem call_reprD {X : Cx} {K : PySem.W.Frag} (gd : X.A.guards = some []) (hu : X.A.units + 64 < cLine) (e : X.K = K := by rfl) : CallR X (.builtin "repr") (rReprD K) := by
  subst e
  intro pn s σ H xs us Q I r h
  obtain ⟨v, d, rfl, hd, S, q⟩ := h
  obtain ⟨u, rfl, ru⟩ := vals1 r
  have hl : d.shown.length ≤ sizeLine := Nat.le_trans S.len (by decide)
  obtain ⟨as, rd⟩ := Dd.reads I d v u hd ru
  have dp := S.deep
  have fin : ∀ a : Addr, Reads s.heap (.ref a) d as → (d.hasDict = true → sysModules ∉ as) → wpAny (model X.prog X.w) X.A (call (.builtin "repr") [.ref a]) (EP X pn σ Q) X.xe s := fun a rd hs =>
    repr_of_reads' rd S.show_ hs gd (by omega) (fun _ _ z => z) (fun h' t tk k => ⟨.str d.shown, H, I.kept (t' := tk) k, ⟨t, rfl⟩, q⟩) hl
  cases hd with
  | non => cases ru; exact PySem.P.repr_of_none ⟨.str _, H, I.tok _, ⟨_, rfl⟩, q⟩
  | bl b =>
    cases ru
    have q' : Q (.str (if b then "True" else "False")) H := q
    exact PySem.P.repr_of_bool ⟨.str _, H, I.tok _, ⟨_, rfl⟩, q'⟩
  | int i =>
    obtain ⟨t, rfl⟩ := ru
    exact PySem.P.repr_of_int (by simpa [PyData.showable] using S.show_) ⟨.str _, H, I.tok _, ⟨_, rfl⟩, q⟩
  | str x =>
    obtain ⟨t, rfl⟩ := ru
    exact PySem.P.repr_of_str ⟨.str _, H, I.tok _, ⟨_, rfl⟩, q⟩ hl
  | lst e al =>
    cases ru
    exact fin _ rd (PyData.noDict_hsm (S.form.resolve_right fun z => nomatch z))
  | tup e al =>
    cases ru
    exact fin _ rd (PyData.noDict_hsm (S.form.resolve_right fun z => nomatch z))
  | dct e =>
    cases ru
    obtain ⟨_, ns, _⟩ := (show ObjOk X.prog X.w H s.heap _ (.dK []) from I.hok _ _ e)
    cases rd with
    | dict h1 h2 h3 h4 h5 =>
      rename_i es ep as1 bs1
      cases h4' : es.toList with
      | nil =>
        rw [h4'] at h4 h5
        cases h4; cases h5
        refine fin _ (.dict h1 h2 h3 (by rw [h4']; exact .nil) (by rw [h4']; exact .nil)) fun _ m => ?_
        rcases List.mem_cons.mp m with z | z
        · rw [← z] at ns; simp at ns
        · cases z
      | cons y ys => rw [h4'] at h4; cases h4
/-! ### own errors with one argument, kept as value -/
structure ExcCls (K : PySem.W.Frag) (mg : Str → Option Value) (x : Str) (C fI : Addr) : Prop where
  gC : mg x = some (.ref C)
  T : OexC K C
  nv : PySem.W.findIn K (.ref C) "value" = some none
  iC : PySem.W.findIn K (.ref C) "__init__" = some (some (.ref fI))
  tI : PySem.W.typeIn K (.ref fI) = some (.type "function")
  xf : XfC K C
  te : PySem.W.exmOne K (.ref C) (.ref C) = some true
theorem exm_own {K : PySem.W.Frag} {C : Addr} (a : PySem.W.subIn K (.ref C) (.type "BaseException") = some true) (b : PySem.W.isClsIn K C = true) (c : PySem.W.typeIn K (.ref C) = some (.type "type")) (d : PySem.W.subIn K (.ref C) (.ref C) = some true) : PySem.W.exmOne K (.ref C) (.ref C) = some true := by
  have b' : (PySem.W.clsIn K C).isSome = true := b
  unfold PySem.W.exmOne PySem.W.kitCls
  simp [a, b', c, d]
abbrev valF (v : V) : List (Str × V) := [(("value" : Str), v)]
def spIni (K : PySem.W.Frag) (C : Addr) : Sp := fun vs H Q _ => ∃ (a : Addr) (v : V), vs = [.ref a, v] ∧ H a = some (exo a C none) ∧ ∀ dx, H dx = none → dx ≠ a → Q .non (upd (upd H dx (exd dx (valF v))) a (exo a C (some dx)))
structure ExcR (P : Program) (w : World) (K : PySem.W.Frag) (mg : Str → Option Value) (base : Heap) (x : Str) (C : Addr) : Prop where
  cls : ∃ (fI : Addr) (fd : FuncData), ExcCls K mg x C fI ∧ Binds K fd ["self", "value"] [] ∧ FnOk P w K mg base CX0 1 fI fd ["self", "value"] (spIni K C)
theorem ok_ini {P : Program} {w : World} {K : PySem.W.Frag} {mg : Str → Option Value} {base : Heap} {st : Stmt} {q : Str} {f C : Addr} {fd : FuncData} (F : Fun K "__init__" q st f fd) (sc : FnScope ["self", "value"] ["self", "value"] (defScope st))
    (hb : ∃ p1 p2 p3 p4, defBody st = [.Assign [.Attribute (.Name "self" p1) "value" p2] (.Name "value" p3) p4]) (T : OexC K C) (nv : PySem.W.findIn K (.ref C) "value" = some none) : FnOk P w K mg base CX0 1 f fd ["self", "value"] (spIni K C) := by
  refine F.ok sc (fun vs H Q E h => ?_) (fun cdv A outer s H vs Q E hr h => ?_)
  · obtain ⟨a, v, rfl, _⟩ := h
    rfl
  · obtain ⟨a, v, rfl, ha, k⟩ := h
    obtain ⟨p1, p2, p3, p4, eb⟩ := hb
    rw [eb]
    have v0 : Vis (defScope st) "self" := (sc.par "self" (by simp)).elim Or.inl fun z => Or.inr (Or.inl z)
    have v1 : Vis (defScope st) "value" := (sc.par "value" (by simp)).elim Or.inl fun z => Or.inr (Or.inl z)
    refine ⟨_, pss_one (ps_ost (pv 0 rfl v0) (pv 1 rfl v1)), ?_⟩
    exact ⟨_, rfl, _, rfl, a, C, rfl, T, nv, .inl ⟨ha, fun dx hd hn => k dx hd hn⟩⟩
/-- what is wished where such an error is made -/
def MkG (K : PySem.W.Frag) (C : Addr) (v : V) (H1 : Hp) (R : XK) : Prop := [v].length ≤ 1000 ∧ ∀ a, H1 a = none → spIni K C (.ref a :: ([v] ++ [])) (upd H1 a (exo a C none))
  (fun z H2 => z = .non ∧ ∃ (d : Addr) (fs : List (Str × V)), H2 a = some (exo a C (some d)) ∧ H2 d = some (exd d fs) ∧ H1 d = none ∧ R (.ref C) (some d) (upd (del H2 a) d (.xd fs))) (fun _ _ _ => False)
theorem r_mk {K : PySem.W.Frag} {C : Addr} {v : V} {H : Hp} {R : XK} (q : ∀ d H2, H d = none → Same H H2 → H2 d = some (.xd (valF v)) → R (.ref C) (some d) H2) : MkG K C v H R := by
  refine ⟨by simp, fun a ha => ⟨a, v, rfl, upd_same, fun dx hd hn => ⟨rfl, dx, valF v, upd_same, by rw [upd_ne hn, upd_same], ?_, ?_⟩⟩⟩
  · rw [upd_ne hn] at hd
    exact hd
  · rw [upd_ne hn] at hd
    refine q dx _ hd (fun b o e => ?_) upd_same
    have n1 := ne_of_none e hd
    have n2 := ne_of_none e ha
    rw [upd_ne n1, del_ne n2, upd_ne n2, upd_ne n1, upd_ne n2]
    exact e
def tRaiseV (K : PySem.W.Frag) (C : Addr) (W : WX) (te : TE) : TS := fun _ σ H => te σ H fun v H1 => MkG K C v H1 fun cls d H' => W cls d σ H'
theorem ps_raiseV {X : Cx} {K : PySem.W.Frag} {x : Str} {C : Addr} {W : WX} {e : Expr} {te : TE} {p pos pos2 : Pos} (R : ExcR X.prog X.w K X.mg X.base x C) (tk : Takes X W) (hr : Room 2 X.A) (he : PE X e te) (eK : X.K = K := by rfl) (hc : X.calm = true := by rfl) (hg : Gl X x := by rfl)
    (hdb : (x == ("__debug__" : Str)) = false := by decide) (hs : starEach (e :: []) X.env = (false, eval e X.env) :: starEach [] X.env := by rfl) (hpl : (backTo pos (starEach [] X.env)).any (·.1) = false := by rfl) :
    PS X (.Raise (some (.Call (.Name x p) [e] [] pos)) none pos2) (tRaiseV K C W te) := by
  subst eK
  obtain ⟨fI, fd, c, b, F1⟩ := R.cls
  exact ps_raise hc tk (pmk_oex (p := p) c.T c.iC c.tI F1 hr b .nil pass0 hg c.gC (pa_cons he pa_nil hs) hdb hs hpl)
theorem r_raise {K : PySem.W.Frag} {C : Addr} {W : WX} {te : TE} {D : Ends} {σ : L2.St} {H : Hp} (h : te σ H fun v H1 => MkG K C v H1 fun cls d H' => W cls d σ H') : tRaiseV K C W te D σ H := h
/-! ### isinstance of the caught error, where it is one -/
section
open PySem.W
variable {prog : Program} {w : World} {A : Around} {E : Value → Shared → Prop} {Q : Value → Shared → Prop} {s : Shared} {K : PySem.W.Frag} {x D : Addr} {ox : Obj} {od : Option Obj} {c : Value}
theorem isi_yes (X : K.In s.heap) (I : InstAt s.heap x ox D od) (ht : ∀ h : Heap, K.In h → Looks (model prog w) h (typeOf c) (.type "type")) (hi : ∀ h : Heap, K.In h → Looks (model prog w) h (isType c) true) (hs : subIn K (.ref D) c = some true) (q : Q (.bool true) s) :
    wpAny (model prog w) A (call (.builtin "isinstance") [.ref x, c]) Q E s := by
  refine PyProof.Rows.call_isinstance_of ?_ (fun z => nomatch z)
  unfold Builtin.«isinstance.nested»
  have L0 := I.type (M := model prog w)
  refine wpAny_bind (m := typeOf (.ref x)) (L0.at ?_)
  show wpAny _ _ (if (Value.ref D == c) = true then _ else _) _ _ s
  by_cases he : (Value.ref D == c) = true
  · rw [if_pos he]
    repeat (first | refine wpAny_pure ?_ | refine wpAny_rule ?_ | refine wpAny_bind ?_)
    exact q
  · rw [if_neg he]
    refine wpAny_bind (m := typeOf c) ((ht _ X).at ?_)
    show wpAny _ _ (if (Value.type "type" == Value.type "type") = true then _ else _) _ _ s
    rw [if_pos (by decide)]
    refine wpAny_bind (wpAny_bind (m := isType c) ((hi _ X).at ?_))
    have L9 : Looks (model prog w) s.heap (isInstance (.ref x) c) true := L0.andThen (looks_subIn X hs)
    refine wpAny_bind (m := isInstance (.ref x) c) (L9.at ?_)
    exact wpAny_pure (a := true) (wpAny_pure q)
theorem isType_ref {C : Addr} (hd : hasDictIn K C = true) (h : Heap) (X : K.In h) : Looks (model prog w) h (isType (.ref C)) true := by
  obtain ⟨cd, hc, _⟩ := any_some hd
  unfold clsIn at hc
  split at hc
  · rename_i c' d' cd' sl' ho
    intro A' Q' E' s' k q
    unfold isType
    unfold loadHead
    exact wpAny_bind (wpAny_loadPart (k _ _ (X _ _ ho)) (wpAny_pure q))
  · cases hc
end
/-- isinstance(e, c) is True -/
def rIsE1 (K : PySem.W.Frag) (D a : Addr) (dd : Addr) : List V → Hp → VK → Prop := fun xs H Q => ∃ (c : V) (cv : Value) (fs : List (Str × V)), xs = [.ref a, c] ∧ H dd = some (.xd fs) ∧ (∀ u, RelV c u → u = cv) ∧
  (PySem.W.typeIn K cv = some (.type "type") ∨ typeOf cv = pure (.type "type")) ∧ ((∃ n, cv = .type n) ∨ ∃ C, cv = .ref C ∧ PySem.W.hasDictIn K C = true) ∧ PySem.W.subIn K (.ref D) cv = some true ∧ Q (.bl true) H
theorem call_isE1 {X : Cx} {K : PySem.W.Frag} {a D dd : Addr} {oe : Obj} {pn : List (Addr × Obj)} (hz : Zc (.ref D) (some dd) oe) (hf : ∃ vs, oe.data = .fields vs) (eK : X.K = K := by rfl) : CallR (X.suite a ((a, oe) :: pn)) (.builtin "isinstance") (rIsE1 K D a dd) := by
  subst eK
  intro pins s σ H xs us Q I r h
  obtain ⟨c, cv, fs, rfl, hx, hcv, ht, hk, hs, q⟩ := h
  obtain ⟨u1, u2, rfl, r1, r2⟩ := vals2 r
  cases r1
  obtain rfl := hcv _ r2
  obtain ⟨hget, _⟩ := I.pin (a, oe) (List.mem_append.mpr (.inl List.mem_cons_self))
  obtain ⟨vs, hv⟩ := hf
  obtain ⟨mA, hns, _⟩ := (show ObjOk X.prog X.w H s.heap dd (.xd fs) from I.hok dd _ hx)
  obtain ⟨od, ho, _⟩ := lookIn_ns hns
  have J : PySem.W.InstAt s.heap a oe D (some od) := ⟨hget, hz.1, by unfold PySem.W.notCls; rw [hv] <;> rfl, by rw [hz.2]; exact ho⟩
  refine isi_yes I.kIn J (fun h Xh => ht.elim (fun e => PySem.W.looks_typeIn Xh e) fun e => PySem.W.Looks.of_pure e) ?_ hs ⟨.bl true, H, I, rfl, q⟩
  rcases hk with ⟨n, rfl⟩ | ⟨C, rfl, hd⟩
  · exact fun _ _ => PySem.W.Looks.of_pure rfl
  · exact isType_ref hd
end Tk

set_option Elab.async false
set_option linter.all false
set_option maxRecDepth 100000
set_option maxHeartbeats 4000000
/-! an entry as text: what is written is read back, and nothing else is -/
namespace TkM
open PySem PySem.StrLaws PySem.Builtin.Str SX
open TL (spl par joinL numL)
def esc (v : List Nat) : List Nat := v.flatMap fun c => if c = 92 ∨ c = 34 then [92, c] else [c]
def esc1 (v : List Nat) : List Nat := v.flatMap fun c => if c = 92 then [92, 92] else [c]
theorem esc_cons (c : Nat) (v : List Nat) : esc (c :: v) = (if c = 92 ∨ c = 34 then [92, c] else [c]) ++ esc v := by
  unfold esc
  rw [List.flatMap_cons]
theorem esc1_cons (c : Nat) (v : List Nat) : esc1 (c :: v) = (if c = 92 then [92, 92] else [c]) ++ esc1 v := by
  unfold esc1
  rw [List.flatMap_cons]
theorem repl1 (a : Nat) (z : List Nat) : ∀ l : List Nat, replL [a] z l = l.flatMap fun c => if c = a then z else [c]
  | [] => by rw [replL_nil]; rfl
  | c :: r => by
    rw [List.flatMap_cons]
    by_cases e : c = a
    · subst e
      rw [if_pos rfl, replL_hit (by simp) (by simp), ← repl1 c z r]
      rfl
    · rw [if_neg e, replL_miss (by simp [e]), repl1 a z r]
      rfl
theorem esc_repl (v : List Nat) : replL [34] [92, 34] (replL [92] [92, 92] v) = esc v := by
  rw [repl1, repl1, List.flatMap_assoc]
  unfold esc
  congr 1
  funext c
  by_cases e : c = 92
  · subst e; rfl
  · by_cases e2 : c = 34
    · subst e2; rfl
    · simp [e, e2]
theorem esc_head : ∀ (v : List Nat) (r : List Nat), esc v ≠ 34 :: r
  | [], _ => by intro h; cases h
  | c :: v, r => by
    rw [esc_cons]
    by_cases e : c = 92 ∨ c = 34
    · rw [if_pos e]
      intro h
      injection h with h1 _
      omega
    · rw [if_neg e]
      intro h
      injection h with h1 _
      omega
theorem back1 : ∀ v : List Nat, replL [92, 34] [34] (esc v) = esc1 v
  | [] => replL_nil
  | c :: v => by
    have ih := back1 v
    rw [esc_cons, esc1_cons]
    by_cases e : c = 92
    · subst e
      rw [if_pos (.inl rfl), if_pos rfl]
      show replL [92, 34] [34] (92 :: 92 :: esc v) = 92 :: 92 :: esc1 v
      rw [replL_miss (by simp), replL_miss, ih]
      intro h
      cases ev : esc v with
      | nil => rw [ev] at h; cases h
      | cons d r =>
        rw [ev] at h
        have h2 : [92, d] = [92, 34] := h
        injection h2 with _ h3
        injection h3 with h4 _
        exact esc_head v r (by rw [ev, h4])
    · by_cases e2 : c = 34
      · subst e2
        rw [if_pos (.inr rfl), if_neg e]
        show replL [92, 34] [34] (92 :: 34 :: esc v) = 34 :: esc1 v
        rw [replL_hit (by simp) (by simp)]
        show [34] ++ replL [92, 34] [34] (esc v) = _
        rw [ih]
        rfl
      · rw [if_neg (by omega), if_neg e]
        show replL [92, 34] [34] (c :: esc v) = c :: esc1 v
        rw [replL_miss (by
          intro h
          have h2 : c = 92 := by
            cases ev : esc v with
            | nil => rw [ev] at h; cases h
            | cons d r =>
              rw [ev] at h
              have h2 : [c, d] = [92, 34] := h
              injection h2
          exact e h2), ih]
theorem back2 : ∀ v : List Nat, replL [92, 92] [92] (esc1 v) = v
  | [] => replL_nil
  | c :: v => by
    have ih := back2 v
    rw [esc1_cons]
    by_cases e : c = 92
    · subst e
      rw [if_pos rfl]
      show replL [92, 92] [92] (92 :: 92 :: esc1 v) = _
      rw [replL_hit (by simp) (by simp)]
      show [92] ++ replL [92, 92] [92] (esc1 v) = _
      rw [ih]
      rfl
    · rw [if_neg e]
      show replL [92, 92] [92] (c :: esc1 v) = c :: v
      rw [replL_miss (by
        intro h
        have h2 : c = 92 := by
          cases ev : esc1 v with
          | nil => rw [ev] at h; cases h
          | cons d r =>
            rw [ev] at h
            have h2 : [c, d] = [92, 92] := h
            injection h2
        exact e h2), ih]
theorem esc_back (v : List Nat) : replL [92, 92] [92] (replL [92, 34] [34] (esc v)) = v := by rw [back1, back2]
/-! ### the careful reader of a value -/
def vr : List Nat → List Nat → Option (List Nat)
  | [], found => some found
  | [c], found => if c = 34 ∨ c = 92 then none else some (found ++ [c])
  | c :: d :: r, found => if c = 34 then none else if c = 92 then (if d = 92 ∨ d = 34 then vr r (found ++ [d]) else none) else vr (d :: r) (found ++ [c])
theorem vr_esc : ∀ (v found : List Nat), vr (esc v) found = some (found ++ v)
  | [], found => by
    show some found = some (found ++ [])
    rw [List.append_nil]
  | c :: v, found => by
    have ih := vr_esc v (found ++ [c])
    rw [List.append_assoc] at ih
    rw [esc_cons]
    by_cases e : c = 92 ∨ c = 34
    · rw [if_pos e]
      show vr (92 :: c :: esc v) found = _
      unfold vr
      rw [if_neg (by decide), if_pos rfl, if_pos e, ih]
      rfl
    · rw [if_neg e]
      show vr (c :: esc v) found = _
      cases ev : esc v with
      | nil =>
        rw [ev] at ih
        unfold vr
        rw [if_neg (by omega)]
        have : v = [] := by
          cases v with
          | nil => rfl
          | cons d v => rw [esc_cons] at ev; split at ev <;> cases ev
        subst this
        rfl
      | cons d r =>
        rw [ev] at ih
        unfold vr
        rw [if_neg (by omega), if_neg (by omega), ih]
        rfl
theorem vr_back : ∀ (n : Nat) (t found w : List Nat), t.length ≤ n → vr t found = some w → ∃ v, w = found ++ v ∧ esc v = t
  | _, [], found, w, _, h => by
    have h2 : some found = some w := h
    injection h2 with h3
    exact ⟨[], by rw [List.append_nil]; exact h3.symm, rfl⟩
  | _, [c], found, w, _, h => by
    unfold vr at h
    by_cases e : c = 34 ∨ c = 92
    · rw [if_pos e] at h; cases h
    · rw [if_neg e] at h
      injection h with h3
      refine ⟨[c], h3.symm, ?_⟩
      rw [esc_cons, if_neg (by omega)]
      rfl
  | n + 1, c :: d :: r, found, w, hl, h => by
    unfold vr at h
    simp only [List.length_cons] at hl
    by_cases e : c = 34
    · rw [if_pos e] at h; cases h
    · rw [if_neg e] at h
      by_cases e2 : c = 92
      · rw [if_pos e2] at h
        by_cases e3 : d = 92 ∨ d = 34
        · rw [if_pos e3] at h
          obtain ⟨v, h1, h2⟩ := vr_back n r _ _ (by omega) h
          refine ⟨d :: v, by rw [h1, List.append_assoc]; rfl, ?_⟩
          rw [esc_cons, if_pos e3, h2, e2]
          rfl
        · rw [if_neg e3] at h; cases h
      · rw [if_neg e2] at h
        obtain ⟨v, h1, h2⟩ := vr_back n (d :: r) _ _ (by simp only [List.length_cons]; omega) h
        refine ⟨c :: v, by rw [h1, List.append_assoc]; rfl, ?_⟩
        rw [esc_cons, if_neg (by omega), h2]
        rfl
  | 0, _ :: _ :: _, _, _, h, _ => by simp at h
/-! ### numbers -/
theorem num_back {a : List Nat} (h : NumText.AllDigits a) (h0 : ∃ c r, a = c :: r ∧ c ≠ 48) : numL (NumText.digitsVal a) = a := by
  obtain ⟨c, r, rfl, h1⟩ := h0
  have hc := h.head
  show (Nat.toDigits 10 (NumText.digitsVal (c :: r))).map Char.toNat = c :: r
  rw [NumText.toDigits_digitsVal r.length (c :: r) rfl h (.inr ⟨c, r, rfl, by omega⟩), List.map_map]
  refine (List.map_congr_left fun d hd => ?_).trans (List.map_id _)
  have := h d hd
  show (Char.ofNat d).toNat = d
  have key : ∀ d : Nat, d < 58 → (Char.ofNat d).toNat = d := by decide
  exact key d (by omega)
theorem numL_head {n : Nat} (h : 1 ≤ n) : ∃ c r, numL n = c :: r ∧ c ≠ 48 := by
  induction n using Nat.strongRecOn with
  | _ n ih =>
    by_cases hn : n < 10
    · rw [TL.numL_lt hn]
      exact ⟨_, _, rfl, by omega⟩
    · rw [TL.numL_step (by omega)]
      obtain ⟨c, r, e, h1⟩ := ih (n / 10) (by omega) (by omega)
      exact ⟨c, r ++ [48 + n % 10], by rw [e]; rfl, h1⟩
end TkM

set_option Elab.async false
set_option linter.all false
set_option maxRecDepth 100000
set_option maxHeartbeats 4000000
/-! split at most twice; numbers as text; an entry read and written -/
namespace TkM
open PySem PySem.StrLaws PySem.Builtin PySem.Builtin.Str SX Tk
open TL (spl par joinL numL tl)
/-! ### occurrences, at most so many -/
theorem occ_most (s sub : Str) (hi most lo : Nat) (hw : 1 ≤ sub.length) : ∀ (m cur : Nat) (p : Array Nat × Nat), ChainG s sub hi lo p.1.toList p.2 → (p.1.size < most → ∀ k, p.2 ≤ k → k < cur → ¬ At s sub hi k) →
    ∃ q : Array Nat × Nat, (forIn (List.range' cur m) p (occBody s sub hi most)).run = q ∧ ChainG s sub hi lo q.1.toList q.2 ∧ (q.1.size < most → ∀ k, q.2 ≤ k → k < cur + m → ¬ At s sub hi k)
  | 0, cur, p, g, no => ⟨p, rfl, g, no⟩
  | m + 1, cur, p, g, no => by
    rw [List.range'_succ, List.forIn_cons, show cur + (m + 1) = cur + 1 + m by omega]
    unfold occBody
    split
    · rename_i c
      obtain ⟨⟨⟨c1, c2⟩, c3⟩, c4⟩ := c
      refine occ_most s sub hi most lo hw m (cur + 1) (p.1.push cur, cur + sub.length) ?_ ?_
      · show ChainG s sub hi lo (p.1.push cur).toList _
        rw [Array.toList_push]
        exact chainG_snoc g c2 ⟨c3, c4⟩ (no c1)
      · intro _ k k1 k2
        have k1' : cur + sub.length ≤ k := k1
        omega
    · rename_i c
      refine occ_most s sub hi most lo hw m (cur + 1) p g ?_
      intro z k k1 k2 at_k
      rcases Nat.lt_or_ge k cur with q | q
      · exact no z k k1 q at_k
      · obtain rfl : k = cur := by omega
        exact c ⟨⟨⟨z, k1⟩, at_k.1⟩, at_k.2⟩
theorem occ_two (x y : Str) (most : Nat) (hw : 1 ≤ y.length) : ∃ f, ChainG x y x.length 0 (occurrences x y 0 x.length most) f ∧ ((occurrences x y 0 x.length most).length < most → ∀ k, f ≤ k → ¬ At x y x.length k) := by
  rw [occ_eq]
  obtain ⟨q, e, g, no⟩ := occ_most x y x.length most 0 hw (x.length + 1 - 0) 0 ((#[] : Array Nat), 0) rfl (fun _ k _ z => by omega)
  refine ⟨q.2, ?_, ?_⟩
  · rw [e]; exact g
  · rw [e]
    intro z k k1 a
    exact no (by rw [← Array.length_toList]; exact z) k k1 (by have := a.1; omega) a
/-- parts, at most three -/
theorem split2_few (x : Str) (c : Nat) : (Txt.splitMax x (S [c]) 2).length ≤ 3 := by
  unfold Txt.splitMax
  split
  · exact Nat.le_add_left 1 2
  · split
    · exact Nat.le_add_left 1 2
    · rw [length_partsBetween]
      have : (occurrences x (S [c]) 0 x.length (limitOf x 2)).length ≤ limitOf x 2 := occ_length_le _ _ _ _ _
      have e : limitOf x 2 = 2 := rfl
      omega
theorem first_at {L : List Nat} {c f : Nat} {p r : List Nat} (x : Str) (ex : x = S L) (hp : c ∉ p) (e : L.drop f = p ++ c :: r) {k : Nat} (k1 : f ≤ k) (at_k : At x (S [c]) x.length k) (no : ∀ j, f ≤ j → j < k → ¬ At x (S [c]) x.length j) : k = f + p.length := by
  subst ex
  have is : ∀ j, At (S L) (S [c]) (S L).length j ↔ L[j]? = some c := subAt_one (S L) c
  have g : ∀ j, L[f + j]? = (p ++ c :: r)[j]? := fun j => by rw [← e, List.getElem?_drop]
  have here : At (S L) (S [c]) (S L).length (f + p.length) := (is _).mpr (by rw [g, List.getElem?_append_right (Nat.le_refl _), Nat.sub_self]; rfl)
  rcases Nat.lt_trichotomy k (f + p.length) with q | q | q
  · have z := (is k).mp at_k
    rw [show k = f + (k - f) by omega, g, List.getElem?_append_left (by omega)] at z
    exact absurd (List.mem_of_getElem? z) hp
  · exact q
  · exact absurd here (no _ (by omega) q)
theorem split2 {p q r : List Nat} {c : Nat} (hc : c < 256) (hp : c ∉ p) (hq : c ∉ q) : Txt.splitMax (S (p ++ c :: (q ++ c :: r))) (S [c]) 2 = [S p, S q, S r] := by
  obtain ⟨f, g, no⟩ := occ_two (S (p ++ c :: (q ++ c :: r))) (S [c]) 2 (Nat.le_refl _)
  have lim : limitOf (S (p ++ c :: (q ++ c :: r))) 2 = 2 := rfl
  have hl : (S (p ++ c :: (q ++ c :: r))).length = p.length + (q.length + (r.length + 1) + 1) := by rw [S_len]; simp only [List.length_append, List.length_cons]
  have is : ∀ j, At (S (p ++ c :: (q ++ c :: r))) (S [c]) (S (p ++ c :: (q ++ c :: r))).length j ↔ (p ++ c :: (q ++ c :: r))[j]? = some c := subAt_one _ c
  have d1 : (p ++ c :: (q ++ c :: r)).drop (p.length + 1) = q ++ c :: r := by rw [← List.drop_drop, List.drop_left]; rfl
  have d2 : (p ++ c :: (q ++ c :: r)).drop (p.length + 1 + q.length + 1) = r := by rw [← List.drop_drop, ← List.drop_drop, d1, List.drop_left]; rfl
  have a1 : At (S (p ++ c :: (q ++ c :: r))) (S [c]) (S (p ++ c :: (q ++ c :: r))).length p.length := (is _).mpr (by rw [List.getElem?_append_right (Nat.le_refl _), Nat.sub_self]; rfl)
  have a2 : At (S (p ++ c :: (q ++ c :: r))) (S [c]) (S (p ++ c :: (q ++ c :: r))).length (p.length + 1 + q.length) := (is _).mpr (by rw [← List.getElem?_drop, d1, List.getElem?_append_right (Nat.le_refl _), Nat.sub_self]; rfl)
  have key : occurrences (S (p ++ c :: (q ++ c :: r))) (S [c]) 0 (S (p ++ c :: (q ++ c :: r))).length 2 = [p.length, p.length + 1 + q.length] := by
    have few : (occurrences (S (p ++ c :: (q ++ c :: r))) (S [c]) 0 (S (p ++ c :: (q ++ c :: r))).length 2).length ≤ 2 := occ_length_le _ _ _ _ _
    generalize occurrences (S (p ++ c :: (q ++ c :: r))) (S [c]) 0 (S (p ++ c :: (q ++ c :: r))).length 2 = cs at g no few
    match cs, g, no, few with
    | [], g, no, _ =>
      have e : f = 0 := g
      exact absurd a1 (no (by decide) _ (by omega))
    | [b], g, no, _ =>
      obtain ⟨g1, g2, g3, g4⟩ := g
      have e : f = b + 1 := g4
      have eb := first_at (L := p ++ c :: (q ++ c :: r)) (f := 0) (p := p) (r := q ++ c :: r) _ rfl hp rfl g1 g2 g3
      exact absurd a2 (no (by simp) _ (by omega))
    | [b, d], g, no, _ =>
      obtain ⟨g1, g2, g3, g4, g5, g6, g7⟩ := g
      have eb := first_at (L := p ++ c :: (q ++ c :: r)) (f := 0) (p := p) (r := q ++ c :: r) _ rfl hp rfl g1 g2 g3
      have e0 : b + (S [c]).length = p.length + 1 := by rw [eb]; show 0 + p.length + 1 = _; omega
      rw [e0] at g4 g6
      have ed := first_at (L := p ++ c :: (q ++ c :: r)) (f := p.length + 1) (p := q) (r := r) _ rfl hq d1 g4 g5 g6
      rw [eb, ed, Nat.zero_add]
    | _ :: _ :: _ :: _, _, _, few => simp at few
  unfold Txt.splitMax
  rw [lim, key, if_neg, if_neg (by simp), partsBetween_eq]
  · show [strSub _ 0 p.length, strSub _ (p.length + 1) (p.length + 1 + q.length), strSub _ (p.length + 1 + q.length + 1) (S (p ++ c :: (q ++ c :: r))).length] = _
    have e1 : strSub (S (p ++ c :: (q ++ c :: r))) 0 p.length = S p := TL.ext_tl (by rw [TL.tl_strSub]; show ((p ++ _).drop 0).take (p.length - 0) = p; rw [List.drop_zero, Nat.sub_zero, List.take_left])
    have e2 : strSub (S (p ++ c :: (q ++ c :: r))) (p.length + 1) (p.length + 1 + q.length) = S q := TL.ext_tl (by
      rw [TL.tl_strSub]
      show ((p ++ c :: (q ++ c :: r)).drop (p.length + 1)).take _ = q
      rw [d1, Nat.add_sub_cancel_left, List.take_left])
    have e3 : strSub (S (p ++ c :: (q ++ c :: r))) (p.length + 1 + q.length + 1) (S (p ++ c :: (q ++ c :: r))).length = S r := TL.ext_tl (by
      rw [TL.tl_strSub_end]
      exact d2)
    rw [e1, e2, e3]
  · rw [Bool.or_eq_true, decide_eq_true_eq, decide_eq_true_eq]
    rintro (z | z)
    · rw [hl] at z
      have : (S [c]).length = 1 := rfl
      omega
    · exact TL.kind_ok (all256 (b := [c]) (by simp [hc])) z
/-! ### numbers -/
theorem ascii_digit {c : Nat} (h : c < 128) : Unicode.isDigit c = (decide (48 ≤ c) && decide (c ≤ 57)) := by
  have key : ∀ c : Fin 128, Unicode.isDigit c.val = (decide (48 ≤ c.val) && decide (c.val ≤ 57)) := by decide +kernel
  exact key ⟨c, h⟩
def digB (c : Nat) : Bool := decide (48 ≤ c) && decide (c ≤ 57)
theorem all_dig : ∀ a : List Nat, (∀ x ∈ a, x < 128) → a.all Unicode.isDigit = a.all digB
  | [], _ => rfl
  | c :: r, h => by
    rw [List.all_cons, List.all_cons, all_dig r fun x hx => h x (List.mem_cons_of_mem _ hx), ascii_digit (h c (List.mem_cons_self ..))]
    rfl
theorem digits_told (a : List Nat) : (Txt.isascii (S a) && Txt.isdigit (S a)) = (!a.isEmpty && a.all digB) := by
  have e1 : Txt.isascii (S a) = a.all fun c => decide (c < 128) := by
    unfold Txt.isascii
    rw [← Array.all_toList]
  have e2 : Txt.isdigit (S a) = (decide (0 < a.length) && a.all Unicode.isDigit) := by
    unfold Txt.isdigit
    rw [← Array.all_toList, S_len]
  have e3 : (!a.isEmpty) = decide (0 < a.length) := by cases a <;> simp
  rw [e1, e2, e3]
  cases h : a.all fun c => decide (c < 128) with
  | true =>
    rw [Bool.true_and, all_dig a fun x hx => of_decide_eq_true (List.all_eq_true.mp h x hx)]
  | false =>
    rw [Bool.false_and]
    symm
    rw [Bool.and_eq_false_iff]
    right
    rw [List.all_eq_false] at h ⊢
    obtain ⟨c, hc, hn⟩ := h
    refine ⟨c, hc, fun z => hn ?_⟩
    unfold digB at z
    simp at z ⊢
    omega
end TkM

set_option Elab.async false
set_option linter.all false
set_option maxRecDepth 100000
set_option maxHeartbeats 4000000
/-! an entry, its text, its two readers -/
namespace TkM
open PySem PySem.StrLaws PySem.Builtin PySem.Builtin.Str SX Tk L2
open TL (spl par joinL numL tl)
abbrev Ent := List Nat × Nat × List Nat × Option (List Nat)
def optV : Option (List Nat) → PyData
  | none => .none
  | some v => .str (S v)
def entD (e : Ent) : PyData := .tuple [.str (S e.1), .tuple [.int e.2.1, .str (S e.2.2.1)], optV e.2.2.2]
def optD : Option Ent → PyData
  | none => .none
  | some e => entD e
def toldL : Option (List Nat) → List Nat
  | none => [45]
  | some v => 34 :: (esc v ++ [34])
def fmtL (e : Ent) : List Nat := e.1 ++ 32 :: ((numL e.2.1 ++ 46 :: e.2.2.1) ++ 32 :: toldL e.2.2.2)
def midL (t : List Nat) : List Nat := (t.drop 1).take (t.length - 2)
def valR (t : List Nat) : Option (Option (List Nat)) :=
  if t = [45] then some none else if t.length < 2 ∨ t.head? ≠ some 34 ∨ t.getLast? ≠ some 34 then none else (vr (midL t) []).map some
def entR (a b w : List Nat) (v : Option (List Nat)) : Option Ent :=
  if (a ≠ [] ∧ a.head? ≠ some 48 ∧ a.length ≤ 16 ∧ a.all digB = true) ∧ entryD (entD (w, NumText.digitsVal a, b, v)) = true then some (w, NumText.digitsVal a, b, v) else none
def readL (t : List Nat) : Option Ent :=
  match spl [32] 0 [] t with
  | w0 :: w1 :: w2 :: ws =>
    match spl [46] 0 [] w1, valR (joinL [32] (w2 :: ws)) with
    | [a, b], some v => entR a b w0 v
    | _, _ => none
  | _ => none
/-! what an entry is -/
structure IsE (e : Ent) : Prop where
  key : wordS (S e.1) = true
  lo : 1 ≤ e.2.1
  hi : e.2.1 ≤ 1000000000000000
  home : wordS (S e.2.2.1) = true
  val : ∀ v, e.2.2.2 = some v → valueS (S v) = true
theorem isE_iff {e : Ent} : entryD (entD e) = true ↔ IsE e := by
  obtain ⟨k, n, h, v⟩ := e
  have num : numD (.int (n : Int)) = true ↔ 1 ≤ n ∧ n ≤ 1000000000000000 := by
    unfold numD
    rw [Bool.and_eq_true, decide_eq_true_eq, decide_eq_true_eq]
    omega
  have val : (noneD (optV v) || valueD (optV v)) = true ↔ ∀ u, v = some u → valueS (S u) = true := by
    cases v with
    | none => exact ⟨fun _ _ z => (nomatch z), fun _ => rfl⟩
    | some u => exact ⟨fun z w e => by cases e; exact z, fun z => z u rfl⟩
  have e0 : entryD (entD (k, n, h, v)) = (wordS (S k) && ((numD (.int (n : Int)) && wordS (S h)) && (noneD (optV v) || valueD (optV v)))) := rfl
  rw [e0, Bool.and_eq_true, Bool.and_eq_true, Bool.and_eq_true, num, val]
  exact ⟨fun ⟨a, ⟨⟨b, c⟩, d⟩, e⟩ => ⟨a, b, c, d, e⟩, fun ⟨a, b, c, d, e⟩ => ⟨a, ⟨⟨b, c⟩, d⟩, e⟩⟩
theorem ent_of {d : PyData} (h : entryD d = true) : ∃ e : Ent, d = entD e := by
  unfold entryD at h
  split at h
  · rename_i k s v
    rw [Bool.and_eq_true, Bool.and_eq_true, Bool.or_eq_true] at h
    obtain ⟨hk, hs, hv⟩ := h
    have ek : ∃ x, k = .str (S x) := by
      unfold wordD at hk
      split at hk
      · rename_i x
        exact ⟨x.cps.toList, by rw [S_tl]⟩
      · cases hk
    have es : ∃ n x, s = .tuple [.int ((n : Nat) : Int), .str (S x)] := by
      unfold stampD at hs
      split at hs
      · rename_i a b
        rw [Bool.and_eq_true] at hs
        obtain ⟨h1, h2⟩ := hs
        unfold numD at h1
        split at h1
        · rename_i i
          rw [Bool.and_eq_true, decide_eq_true_eq, decide_eq_true_eq] at h1
          unfold wordD at h2
          split at h2
          · rename_i x
            refine ⟨i.toNat, x.cps.toList, ?_⟩
            rw [S_tl, Int.toNat_of_nonneg (by omega)]
          · cases h2
        · cases h1
      · cases hs
    have ev : ∃ o, v = optV o := by
      rcases hv with z | z
      · cases v <;> first | exact ⟨none, rfl⟩ | cases z
      · unfold valueD at z
        split at z
        · rename_i x
          exact ⟨some x.cps.toList, by show _ = PyData.str (S _); rw [S_tl]⟩
        · cases z
    obtain ⟨x, rfl⟩ := ek
    obtain ⟨n, y, rfl⟩ := es
    obtain ⟨o, rfl⟩ := ev
    exact ⟨(x, n, y, o), rfl⟩
  · cases h
theorem word_free {x : List Nat} (h : wordS (S x) = true) {c : Nat} (hc : c < 97) : c ∉ x := by
  intro m
  unfold wordS at h
  rw [Bool.and_eq_true] at h
  have := List.all_eq_true.mp h.2 c m
  unfold lowB at this
  rw [Bool.and_eq_true, decide_eq_true_eq] at this
  omega
theorem word_len {x : List Nat} (h : wordS (S x) = true) : 1 ≤ x.length ∧ x.length ≤ 8 := by
  unfold wordS at h
  rw [Bool.and_eq_true, Bool.and_eq_true, decide_eq_true_eq, decide_eq_true_eq, S_len] at h
  omega
theorem value_len {x : List Nat} (h : valueS (S x) = true) : x.length ≤ 40 := by
  unfold valueS at h
  rw [Bool.and_eq_true] at h
  have h1 := h.1
  rw [Bool.not_eq_true', decide_eq_false_iff_not, S_len] at h1
  omega
/-! joined again -/
theorem spl_ne (S0 : List Nat) : ∀ (t acc : List Nat), spl S0 0 acc t ≠ []
  | [], acc => by rw [TL.spl_nil]; simp
  | c :: r, acc => by
    cases h : TL.pre S0 (c :: r) with
    | true => rw [TL.spl_hit h]; simp
    | false => rw [TL.spl_miss h]; exact spl_ne S0 r _
theorem spl_joined (c : Nat) : ∀ (t acc : List Nat), joinL [c] (spl [c] 0 acc t) = acc ++ t
  | [], acc => by
    rw [TL.spl_nil, List.append_nil]
    rfl
  | d :: r, acc => by
    by_cases e : d = c
    · subst e
      rw [TL.spl_hit (by unfold TL.pre; simp)]
      have ih := spl_joined d r []
      cases h : spl [d] 0 [] r with
      | nil => exact absurd h (spl_ne _ _ _)
      | cons x y =>
        rw [h] at ih
        show joinL [d] (acc :: (spl [d] 0 [] r)) = _
        rw [h]
        show acc ++ ([d] ++ joinL [d] (x :: y)) = _
        rw [ih]
        rfl
    · rw [TL.spl_miss (by unfold TL.pre; simp [e]), spl_joined c r, List.append_assoc]
      rfl
theorem mid_back {t : List Nat} (h1 : ¬ t.length < 2) (h2 : t.head? = some 34) (h3 : t.getLast? = some 34) : t = 34 :: (midL t ++ [34]) := by
  cases t with
  | nil => simp at h1
  | cons c r =>
    have e : c = 34 := by simpa using h2
    subst e
    have hr : r ≠ [] := by rintro rfl; simp at h1
    have hl : r.getLast hr = 34 := by
      rw [List.getLast?_eq_some_getLast (by simp), List.getLast_cons hr] at h3
      exact Option.some.inj h3
    have em : midL (34 :: r) = r.dropLast := by
      unfold midL
      rw [List.dropLast_eq_take]
      rfl
    rw [em]
    have := List.dropLast_concat_getLast hr
    rw [hl] at this
    rw [this]
theorem mid_of (m : List Nat) : midL (34 :: (m ++ [34])) = m := by
  unfold midL
  have e : (34 :: (m ++ [34])).length - 2 = m.length := by simp
  rw [e]
  show (m ++ [34]).take m.length = m
  rw [List.take_left]
theorem valR_back {t : List Nat} {v : Option (List Nat)} (h : valR t = some v) : toldL v = t := by
  unfold valR at h
  by_cases e : t = [45]
  · rw [if_pos e] at h
    cases h
    exact e.symm
  · rw [if_neg e] at h
    by_cases e2 : t.length < 2 ∨ t.head? ≠ some 34 ∨ t.getLast? ≠ some 34
    · rw [if_pos e2] at h; cases h
    · rw [if_neg e2] at h
      rw [not_or, not_or] at e2
      obtain ⟨h1, h2, h3⟩ := e2
      cases hv : vr (midL t) [] with
      | none => rw [hv] at h; cases h
      | some w =>
        rw [hv] at h
        cases h
        obtain ⟨u, eu, hu⟩ := vr_back _ _ _ _ (Nat.le_refl _) hv
        rw [List.nil_append] at eu
        subst eu
        show 34 :: (esc w ++ [34]) = t
        rw [hu]
        exact (mid_back h1 (Classical.not_not.mp h2) (Classical.not_not.mp h3)).symm
theorem valR_told (v : Option (List Nat)) : valR (toldL v) = some v := by
  cases v with
  | none => rfl
  | some u =>
    unfold valR toldL
    rw [if_neg (by intro h; injection h with h1 _; omega), if_neg, mid_of, vr_esc, List.nil_append]
    · rfl
    · have e : (34 :: (esc u ++ [34])).getLast? = some 34 := by
        show ((34 :: esc u) ++ [34]).getLast? = _
        rw [List.getLast?_concat]
      rw [e]
      simp
theorem read_back {t : List Nat} {e : Ent} (h : readL t = some e) : IsE e ∧ fmtL e = t := by
  unfold readL at h
  split at h
  · rename_i w0 w1 w2 ws e1
    split at h
    · rename_i a b v e2 e3
      unfold entR at h
      by_cases c : (a ≠ [] ∧ a.head? ≠ some 48 ∧ a.length ≤ 16 ∧ a.all digB = true) ∧ entryD (entD (w0, NumText.digitsVal a, b, v)) = true
      · rw [if_pos c] at h
        cases h
        obtain ⟨⟨c1, c2, c3, c4⟩, c5⟩ := c
        refine ⟨isE_iff.mp c5, ?_⟩
        have ad : NumText.AllDigits a := fun x hx => by
          have := List.all_eq_true.mp c4 x hx
          unfold digB at this
          rw [Bool.and_eq_true, decide_eq_true_eq, decide_eq_true_eq] at this
          exact this
        have na : numL (NumText.digitsVal a) = a := num_back ad (by
          cases a with
          | nil => exact absurd rfl c1
          | cons x y => exact ⟨x, y, rfl, fun z => c2 (by rw [z]; rfl)⟩)
        have j1 := spl_joined 32 t []
        rw [e1] at j1
        have j2 := spl_joined 46 w1 []
        rw [e2] at j2
        show w0 ++ 32 :: ((numL (NumText.digitsVal a) ++ 46 :: b) ++ 32 :: toldL v) = t
        rw [na, valR_back e3]
        have j2' : a ++ 46 :: b = w1 := j2
        rw [j2']
        exact j1
      · rw [if_neg c] at h; cases h
    · cases h
  · cases h
theorem num_len {n : Nat} (h : n ≤ 1000000000000000) : (numL n).length ≤ 16 := TL.numL_len (by decide) (by omega)
theorem read_fmt {e : Ent} (h : IsE e) : readL (fmtL e) = some e := by
  obtain ⟨k, n, m, v⟩ := e
  have k1 : 32 ∉ k := word_free h.key (by decide)
  have m1 : 32 ∉ m := word_free h.home (by decide)
  have m2 : 46 ∉ m := word_free h.home (by decide)
  have lo : 1 ≤ n := h.lo
  have hi : n ≤ 1000000000000000 := h.hi
  have n1 : 32 ∉ numL n := TL.numL_free (by decide)
  have n2 : 46 ∉ numL n := TL.numL_free (by decide)
  have s1 : 32 ∉ numL n ++ 46 :: m := by
    intro z
    rcases List.mem_append.mp z with z | z
    · exact n1 z
    · rcases List.mem_cons.mp z with z | z
      · cases z
      · exact m1 z
  have e1 : spl [32] 0 [] (fmtL (k, n, m, v)) = k :: (numL n ++ 46 :: m) :: spl [32] 0 [] (toldL v) := by
    show spl [32] 0 [] (k ++ ([32] ++ ((numL n ++ 46 :: m) ++ ([32] ++ toldL v)))) = _
    rw [TL.spl_part1 k1, TL.spl_part1 s1]
    rfl
  have e2 : spl [46] 0 [] (numL n ++ 46 :: m) = [numL n, m] := by
    show spl [46] 0 [] (numL n ++ ([46] ++ m)) = _
    rw [TL.spl_part1 n2, TL.spl_last1 m2]
    rfl
  have e3 := spl_joined 32 (toldL v) []
  rw [List.nil_append] at e3
  have ne := spl_ne [32] (toldL v) []
  unfold readL
  rw [e1]
  cases h0 : spl [32] 0 [] (toldL v) with
  | nil => exact absurd h0 ne
  | cons x y =>
    rw [h0] at e3
    show (match spl [46] 0 [] (numL n ++ 46 :: m), valR (joinL [32] (x :: y)) with
      | [a, b], some v => entR a b k v
      | _, _ => none) = _
    rw [e2, e3, valR_told]
    show entR (numL n) m k v = _
    unfold entR
    rw [TL.numL_val, if_pos]
    refine ⟨⟨TL.numL_ne n, ?_, num_len hi, ?_⟩, isE_iff.mpr h⟩
    · obtain ⟨c, r, e, q⟩ := numL_head lo
      rw [e]
      intro z
      exact q (by simpa using z)
    · refine List.all_eq_true.mpr fun c hc => ?_
      have := TL.numL_digits n c hc
      unfold digB
      rw [Bool.and_eq_true, decide_eq_true_eq, decide_eq_true_eq]
      exact this
theorem read_iff {t : List Nat} {e : Ent} : readL t = some e ↔ IsE e ∧ fmtL e = t := ⟨read_back, fun ⟨a, b⟩ => b ▸ read_fmt a⟩
/-! ### the quick reader -/
def likN (a : Str) : PyData := if decide ((16 : Int) < (a.length : Int)) || !(Txt.isascii a && Txt.isdigit a) then .none else .int (NumText.digitsVal a.cps.toList)
def unq (x : Str) : Str := Txt.replace (Txt.replace (cutS x (some 1) (some (-1))) (S [92, 34]) (S [34])) (S [92, 92]) (S [92])
def likT (k st told : Str) : PyData := .tuple [.str k, .tuple [likN (Txt.partition st (S [46])).1, .str (Txt.partition st (S [46])).2.2], if (told == S [45]) = true then .none else .str (unq told)]
def likE (x : Str) : PyData :=
  match Txt.splitMax x (S [32]) 2 with
  | [k, st, told] => likT k st told
  | _ => .none
theorem unq_told (u : List Nat) : unq (S (34 :: (esc u ++ [34]))) = S u := by
  have c : cutS (S (34 :: (esc u ++ [34]))) (some 1) (some (-1)) = S (esc u) := by
    refine TL.ext_tl ?_
    have l : (S (34 :: (esc u ++ [34]))).length = (esc u).length + 2 := by rw [S_len]; simp
    have i1 : HT.sIx (S (34 :: (esc u ++ [34]))).length 0 (some 1) = 1 := by rw [l]; unfold HT.sIx; simp
    have i2 : HT.sIx (S (34 :: (esc u ++ [34]))).length (S (34 :: (esc u ++ [34]))).length (some (-1)) = (esc u).length + 1 := by rw [l]; unfold HT.sIx; simp; omega
    unfold cutS
    rw [i1, i2]
    show (((34 :: (esc u ++ [34])).drop 1).take ((esc u).length + 1 - 1)) = esc u
    rw [Nat.add_sub_cancel]
    show (esc u ++ [34]).take (esc u).length = _
    rw [List.take_left]
  unfold unq
  rw [c]
  refine TL.ext_tl ?_
  show (Txt.replace (Txt.replace (S (esc u)) (S [92, 34]) (S [34])) (S [92, 92]) (S [92])).cps.toList = u
  rw [replace_list (by decide), replace_list (by decide)]
  exact esc_back u
theorem lik_fmt {e : Ent} (h : IsE e) : likE (S (fmtL e)) = entD e := by
  obtain ⟨k, n, m, v⟩ := e
  have k1 : 32 ∉ k := word_free h.key (by decide)
  have m1 : 32 ∉ m := word_free h.home (by decide)
  have n1 : 32 ∉ numL n := TL.numL_free (by decide)
  have n2 : 46 ∉ numL n := TL.numL_free (by decide)
  have hi : n ≤ 1000000000000000 := h.hi
  have s1 : 32 ∉ numL n ++ 46 :: m := by
    intro z
    rcases List.mem_append.mp z with z | z
    · exact n1 z
    · rcases List.mem_cons.mp z with z | z
      · cases z
      · exact m1 z
  unfold likE
  have e1 : Txt.splitMax (S (fmtL (k, n, m, v))) (S [32]) 2 = [S k, S (numL n ++ 46 :: m), S (toldL v)] := split2 (by decide) k1 s1
  rw [e1]
  show likT (S k) (S (numL n ++ 46 :: m)) (S (toldL v)) = _
  unfold likT
  have e2 : Txt.partition (S (numL n ++ 46 :: m)) (S [46]) = (S (numL n), S [46], S m) := partition_some (by simp) (TL.par_part1 (S := []) (acc := []) n2)
  have e3 : likN (S (numL n)) = .int n := by
    unfold likN
    have al : (numL n).all digB = true := List.all_eq_true.mpr fun c hc => by
      have := TL.numL_digits n c hc
      unfold digB
      rw [Bool.and_eq_true, decide_eq_true_eq, decide_eq_true_eq]
      exact this
    have ne : (numL n).isEmpty = false := by
      cases z : numL n with
      | nil => exact absurd z (TL.numL_ne n)
      | cons _ _ => rfl
    have hl := num_len hi
    rw [digits_told, al, ne, if_neg]
    · show PyData.int (NumText.digitsVal (numL n)) = _
      rw [TL.numL_val]
    · rw [S_len]
      simp
      omega
  rw [e2, e3]
  have e4 : (if (S (toldL v) == S [45]) = true then PyData.none else PyData.str (unq (S (toldL v)))) = optV v := by
    cases v with
    | none => rfl
    | some u =>
      rw [if_neg]
      · show PyData.str (unq (S (34 :: (esc u ++ [34])))) = _
        rw [unq_told]
        rfl
      · rw [S_beq]
        intro z
        have := eq_of_beq z
        injection this with q _
        cases q
  rw [e4]
  rfl
/-- what the program's reader tells is what the careful one tells -/
theorem parse_none {t : List Nat} (h : readL t = none) : ¬ ∃ e : Ent, IsE e ∧ fmtL e = t := fun ⟨e, a, b⟩ => by
  rw [read_iff.mpr ⟨a, b⟩] at h
  cases h
end TkM

set_option Elab.async false
set_option linter.all false
set_option maxRecDepth 100000
set_option maxHeartbeats 4000000
/-! texts: written texts out (replace), f-strings, split, partition; calls that may raise, in a try -/
namespace Tk
open PySem PySem.Spec PyProof.Rows L2 CwR
section
variable {X : Cx} {te : TE} {e : Expr} {pos : Pos}
/-- name = value, a token out -/
theorem pst_set {i : Nat} {x : Str} {pos' : Pos} (hN : X.N.Nodup) (hi : X.N[i]? = some x) (hx : Loc X.env.scope x) (he : PET X e te) (hs : swapsWith e (some (.Name x pos')) pos.line X.env = pure false := by rfl)
    (hf : X.fn x = true ∨ X.env.scope.names.lookup x = some .local := by first | exact .inl rfl | exact .inr rfl | assumption) : PST X (.Assign [.Name x pos'] e pos) (tAsg te (gName i)) := by
  intro pn s σ H D h0 I h
  refine wpAny_Assign_Name (thn (he pn s σ H _ h0 I h) fun v s1 hv => ?_) hs
  obtain ⟨y, H1, I1, r1, q1⟩ := hv
  exact store_ok I1 hN hi hx r1 (fun s2 I2 => ⟨_, H1, I2, q1⟩) hf
end
/-- a def with parameters, none of them in a cell: when it begins a token is out -/
theorem Fun_okT {P : Program} {w : World} {K : PySem.W.Frag} {mg : Str → Option Value} {base : Heap} {k : Nat} {x qual : Str} {st : Stmt} {f : Addr} {fd : FuncData} {N ps : List Str} {sp : Sp} (F : Fun K x qual st f fd) (S : FnScope N ps (defScope st)) (hnc : ∀ y ∈ (defScope st).names, y.2 ≠ .cell) (hps : 1 ≤ ps.length)
    (len : ∀ vs H Q E, sp vs H Q E → vs.length = ps.length)
    (go : ∀ (cdv : Value) (A : Around) (outer : List Env) (s : Shared) (H : Hp) (vs : List V) (Q : VK) (E : XK), Room k (A.deeper (envOfC qual (defScope st) s.heap.objs.size f cdv)) → sp vs H Q E →
      ∃ t, PSsT (cxOf CX0 P w K mg base N qual (defScope st) f cdv A outer s H E) (defBody st) t ∧ t { nx := fun _ H' => Q .non H', rt := Q } (start N vs) H) : FnOk P w K mg base CX0 (k + 1) f fd ps sp := by
  obtain ⟨_, _, _, _, _, _, cdv, _, _, rfl, at_f, cd⟩ := F.ex
  exact fn_ofT at_f cd S hnc hps len fun A outer s H vs Q E hr h => go cdv A outer s H vs Q E hr h
/-! ### calls that may raise -/
section
variable {X : Cx} {k : Nat} {sp : Sp} {x : Str} {ps : List Str} {p pos : Pos} {e : Expr} {es : List Expr} {t : TA} {W : WX}
theorem pe_calS {CX : CXT} {E : L2.St → XK} (C : Cal X.prog X.w X.K X.mg X.base CX k x ps sp) (hr : Room k X.A) (hx : ∀ σ, PassesAt CX X σ (E σ)) (ha : PA X (e :: es) t) (hg : Gl X x := by rfl)
    (hdb : (x == ("__debug__" : Str)) = false := by decide) (he : starEach (e :: es) X.env = (false, eval e X.env) :: starEach es X.env := by rfl) (hpl : (backTo pos (starEach es X.env)).any (·.1) = false := by rfl) :
    PE X (.Call (.Name x p) (e :: es) [] pos) (tCallS sp E t) := by
  obtain ⟨f, fd, m1, m2, m3, F⟩ := C.ex
  exact pe_callS F hr hg m1 m2 m3 hx ha hdb he hpl
/-- a raising def called in a def that lets it out -/
theorem passOut (tk : Takes X fun cls d _ H => E cls d H) : Passes (L2.CX X.prog X.w) X E := fun pn σ H s e s' I c => passes_call tk (fun _ _ _ _ h => h) pn σ H s e s' I c
end
theorem r_callS {sp : Sp} {E : L2.St → XK} {t : TA} {σ : L2.St} {H : Hp} {Q : VK} (h : t σ H fun vs H1 => sp vs H1 Q (E σ)) : tCallS sp E t σ H Q := h
/-! ### methods of texts -/
def rSplit1 : V → List V → Hp → VK → Prop := fun x xs H Q => ∃ a b, x = .str a ∧ xs = [.str b] ∧ (b.length == 0) = false ∧ a.length + 2 ≤ sizeLine ∧ rNewStrs (Txt.split a b) H Q
def rSplit2 : V → List V → Hp → VK → Prop := fun x xs H Q => ∃ (a b : Str) (k : Int), x = .str a ∧ xs = [.str b, .int k] ∧ (b.length == 0) = false ∧ -(2 ^ 63) ≤ k ∧ k < 2 ^ 63 ∧ a.length + 2 ≤ sizeLine ∧ rNewStrs (Txt.splitMax a b k) H Q
def rPart3 : V → List V → Hp → VK → Prop := fun x xs H Q => ∃ a b, x = .str a ∧ xs = [.str b] ∧ (b.length == 0) = false ∧ a.length ≤ sizeLine ∧
  ∀ p, H p = none → Q (.ref p) (upd H p (.tup [.str (Txt.partition a b).1, .str (Txt.partition a b).2.1, .str (Txt.partition a b).2.2]))
def rTold (g : Str → Bool) : V → List V → Hp → VK → Prop := fun x xs H Q => ∃ a, x = .str a ∧ xs = [] ∧ True ∧ Q (.bl (g a)) H
section
variable {X : Cx}
theorem k_split1 : MtR X "str.split" rSplit1 := mt_split
theorem k_split2 : MtR X "str.split" rSplit2 := mt_splitMax
theorem k_part3 : MtR X "str.partition" rPart3 := mt_partition
theorem k_ascii : MtR X "str.isascii" (rTold Txt.isascii) := mt_isascii
theorem k_digit : MtR X "str.isdigit" (rTold Txt.isdigit) := mt_isdigit
end
section
variable {K : PySem.W.Frag} {σ : L2.St} {H : Hp} {Q : VK} {a b : Str} {r : V → List V → Hp → VK → Prop} {to te : TE} {t : TA}
theorem r_m0 (h : to σ H fun x H1 => (∃ a, x = .str a) ∧ r x [] H1 Q) : tM0 r to σ H Q := h
theorem r_bm {T : String} (h : to σ H fun x H1 => tyV K T x H1 ∧ t σ H1 fun xs H2 => r x xs H2 Q) : tBM K T r to t σ H Q := h
theorem new_strs {ys : List Str} (q : ∀ p H', H p = none → Same H H' → H' p = some (.lst (ys.map V.str)) → Q (.ref p) H') : rNewStrs ys H Q := fun p hp => q p _ hp (Same.new hp) upd_same
theorem r_split1 (hb : (b.length == 0) = false) (ha : a.length ≤ 90000) (q : ∀ p H', H p = none → Same H H' → H' p = some (.lst ((Txt.split a b).map V.str)) → Q (.ref p) H') : rSplit1 (.str a) [.str b] H Q := ⟨a, b, rfl, rfl, hb, sz_of (n := a.length + 2) (by omega), new_strs q⟩
theorem r_split2 {k : Int} (hb : (b.length == 0) = false) (h0 : 0 ≤ k) (h1 : k < 100) (ha : a.length ≤ 90000) (q : ∀ p H', H p = none → Same H H' → H' p = some (.lst ((Txt.splitMax a b k).map V.str)) → Q (.ref p) H') : rSplit2 (.str a) [.str b, .int k] H Q :=
  ⟨a, b, k, rfl, rfl, hb, by omega, by omega, sz_of (n := a.length + 2) (by omega), new_strs q⟩
theorem r_part3 (hb : (b.length == 0) = false) (ha : a.length ≤ 100000) (q : ∀ p H', H p = none → Same H H' → H' p = some (.tup [.str (Txt.partition a b).1, .str (Txt.partition a b).2.1, .str (Txt.partition a b).2.2]) → Q (.ref p) H') : rPart3 (.str a) [.str b] H Q :=
  ⟨a, b, rfl, rfl, hb, sz_of ha, fun p hp => q p _ hp (Same.new hp) upd_same⟩
theorem r_told {g : Str → Bool} (q : Q (.bl (g a)) H) : rTold g (.str a) [] H Q := ⟨a, rfl, rfl, trivial, q⟩
theorem r_isS {B : Prop} (q : B) : (∃ u, V.str a = .str u) ∧ B := ⟨⟨a, rfl⟩, q⟩
theorem r_gLst {n : Nat} {t : TGs} {p : Addr} {xs : List V} {R : L2.St → Hp → Prop} (h : H p = some (.lst xs)) (hl : xs.length = n) (q : t xs σ H R) : gLst K n t (.ref p) σ H R := ⟨p, xs, rfl, SqL.of h, hl, q⟩
theorem k_glst {X : Cx} {es : List Expr} {k : Nat} {pos : Pos} {t : TGs} {n : Nat} (hc : X.calm = true) (h : PGs X es t) (e : X.K = K := by rfl) (hn : (assignEach es X.env).length = n := by rfl) (hst : (assignEach es X.env).findIdx? (·.1) = none := by rfl) : PG X (.Tuple es k pos) (gLst K n t) := by subst e; exact pg_lst hc h hn hst
theorem r_lenL {p : Addr} {xs : List V} (h : H p = some (.lst xs)) (q : Q (.int (xs.length : Nat)) H) : rLen K [.ref p] H Q := r_lenQ (SqL.of h) q
/-! f-strings -/
theorem r_fmtS (h : te σ H fun x H1 => ∃ y : Str, x = .str y ∧ y.length ≤ 100000 ∧ Q (.str y) H1) (mono : ∀ R R' : VK, (∀ v H', R v H' → R' v H') → te σ H R → te σ H R') : tFmt te σ H Q :=
  mono _ _ (fun v H' ⟨y, e, hl, q⟩ => .inl ⟨y, e, sz_of hl, q⟩) h
theorem r_fmtVar {i : Nat} {x : Str} (hv : σ[i]? = some (some (.str x))) (hl : x.length ≤ 100000) (q : Q (.str x) H) : tFmt (tVar i) σ H Q := ⟨_, hv, .inl ⟨x, rfl, sz_of hl, q⟩⟩
theorem r_fmtInt {i : Nat} {n : Int} (hv : σ[i]? = some (some (.int n))) (hl : n.natAbs.log2 < 1920) (q : Q (.str (toString n)) H) : tFmt (tVar i) σ H Q := ⟨_, hv, .inr ⟨n, rfl, hl, q⟩⟩
theorem r_js {ts : List TE} {acc : Str} {t : TE} {R : Str → Hp → Prop} (h : t σ H fun x H1 => ∃ y : Str, x = .str y ∧ (acc ++ y).length ≤ sizeLine ∧ tJs ts (acc ++ y) σ H1 R) : tJs (t :: ts) acc σ H R := h
theorem r_jsNil {acc : Str} {R : Str → Hp → Prop} (h : R acc H) : tJs [] acc σ H R := h
theorem r_jsIs {acc y : Str} {P : Str → Prop} (hl : (acc ++ y).length ≤ 100000) (q : P y) : ∃ z : Str, V.str y = .str z ∧ (acc ++ z).length ≤ sizeLine ∧ P z := ⟨y, rfl, sz_of hl, q⟩
/-! replace -/
theorem r_repl {y z : Str} (h : to σ H fun v H1 => ∃ x, v = .str x ∧ x.length + (x.length + 1) * z.length ≤ 16777216 ∧ Q (.str (Txt.replace x y z)) H1) : tReplC to y z σ H Q := h
theorem r_replIs {x y z : Str} (hl : x.length + (x.length + 1) * z.length ≤ 16777216) (q : Q (.str (Txt.replace x y z)) H) : ∃ u, V.str x = .str u ∧ u.length + (u.length + 1) * z.length ≤ 16777216 ∧ Q (.str (Txt.replace u y z)) H := ⟨x, rfl, hl, q⟩
theorem r_replU {B : Prop} {x z : Str} (hx : x.length ≤ 100000) (hz : z.length ≤ 100) (q : B) : x.length + (x.length + 1) * z.length ≤ 16777216 ∧ B :=
  ⟨by have := Nat.mul_le_mul (show x.length + 1 ≤ 100001 by omega) hz; omega, q⟩
theorem cat_len (x y : Str) : (x ++ y).length = x.length + y.length := by rw [TL.len_tl, TL.tl_append, List.length_append, ← TL.len_tl, ← TL.len_tl]
theorem r_fits {B : Prop} {x : Str} (hx : x.length ≤ 100000) (q : B) : x.length ≤ sizeLine ∧ B := ⟨sz_of hx, q⟩
theorem repl_le {x y z : Str} {n : Nat} (hx : x.length ≤ n) {m : Nat} (hz : z.length ≤ m) : (Txt.replace x y z).length ≤ n + (n + 1) * m := by
  have h1 := TK.replace_len x y z
  have h2 := Nat.mul_le_mul (show x.length + 1 ≤ n + 1 by omega) hz
  omega
end
/-! parts are no longer than the whole -/
theorem sub_le (x : Str) (i j : Nat) : (Builtin.Str.strSub x i j).length ≤ x.length := by
  rw [TL.len_tl, TL.tl_strSub, TL.len_tl x, List.length_take, List.length_drop]
  omega
theorem from_le (x : Str) (n : Nat) : ∀ (cs : List Nat) (a : Nat), ∀ p ∈ StrLaws.partsFrom x n a cs, p.length ≤ x.length
  | [], a, p, h => by
    rw [List.mem_singleton.mp h]
    exact sub_le _ _ _
  | c :: cs, a, p, h => by
    rcases List.mem_cons.mp h with rfl | h
    · exact sub_le _ _ _
    · exact from_le x n cs _ p h
theorem splitMax_le (x y : Str) (k : Int) : ∀ p ∈ Txt.splitMax x y k, p.length ≤ x.length := by
  intro p h
  unfold Txt.splitMax at h
  split at h
  · rw [List.mem_singleton.mp h]; exact Nat.le_refl _
  · split at h
    · rw [List.mem_singleton.mp h]; exact Nat.le_refl _
    · rw [StrLaws.partsBetween_eq] at h
      exact from_le _ _ _ _ p h
theorem split_le (x y : Str) : ∀ p ∈ Txt.split x y, p.length ≤ x.length := by
  intro p h
  unfold Txt.split at h
  split at h
  · rw [List.mem_singleton.mp h]; exact Nat.le_refl _
  · split at h
    · rw [List.mem_singleton.mp h]; exact Nat.le_refl _
    · rw [StrLaws.partsBetween_eq] at h
      exact from_le _ _ _ _ p h
theorem part3_le (x y : Str) : (Txt.partition x y).1.length ≤ x.length ∧ (Txt.partition x y).2.2.length ≤ x.length := by
  have h := congrArg Str.length (StrLaws.partition_sum x y)
  rw [cat_len, cat_len] at h
  omega
end Tk

set_option Elab.async false
set_option linter.all false
set_option maxRecDepth 100000
set_option maxHeartbeats 4000000
/-! == of data without dicts, membership among written texts, int of a bool, text at a place, while -/
namespace Tk
open PySem PySem.Spec PyProof.Rows L2 SX
def rEqP (K : PySem.W.Frag) : R2 := fun x y H Q => ∃ d e, Dd K H x d ∧ Dd K H y e ∧ d.plain = true ∧ e.plain = true ∧ d.depth ≤ 60 ∧ Q (.bl (PyData.eqv d e)) H
def rNeP (K : PySem.W.Frag) : R2 := fun x y H Q => ∃ d e, Dd K H x d ∧ Dd K H y e ∧ d.plain = true ∧ e.plain = true ∧ d.depth ≤ 60 ∧ Q (.bl (!PyData.eqv d e)) H
section
variable {X : Cx} {K : PySem.W.Frag}
theorem k_eqP (hu : X.A.units + 64 < cLine) (e : X.K = K := by rfl) : OpR X (compareOp .Eq) (rEqP K) := by
  subst e
  intro pn s σ H x y v u Q I rx ry h
  obtain ⟨d, e, hd, he, pd, pe, dp, q⟩ := h
  obtain ⟨as, r1⟩ := Dd.reads I d x v hd rx
  obtain ⟨bs, r2⟩ := Dd.reads I e y u he ry
  exact PySem.SeqAt.eq_plain r1 r2 pd pe (by have := Nat.min_le_left d.depth e.depth; omega) ⟨.bl _, H, I, rfl, q⟩
theorem k_neP (hu : X.A.units + 64 < cLine) (e : X.K = K := by rfl) : OpR X (compareOp .NotEq) (rNeP K) := by
  subst e
  intro pn s σ H x y v u Q I rx ry h
  obtain ⟨d, e, hd, he, pd, pe, dp, q⟩ := h
  obtain ⟨as, r1⟩ := Dd.reads I d x v hd rx
  obtain ⟨bs, r2⟩ := Dd.reads I e y u he ry
  exact PySem.SeqAt.ne_plain r1 r2 pd pe (by have := Nat.min_le_left d.depth e.depth; omega) ⟨.bl _, H, I, rfl, q⟩
theorem k_in (e : X.K = K := by rfl) : OpR X (compareOp .In) (rIn K false) := by subst e; exact op_in_seq
theorem k_notin (e : X.K = K := by rfl) : OpR X (compareOp .NotIn) (rIn K true) := by subst e; exact op_notIn_seq
end
section
variable {K : PySem.W.Frag} {H : Hp} {Q : VK} {v w : V} {d : PyData}
theorem r_neSame (h1 : Dd K H v d) (h2 : Dd K H w d) (pl : d.plain = true) (dp : d.depth ≤ 60) (q : Q (.bl false) H) : rNeP K v w H Q := ⟨d, d, h1, h2, pl, pl, dp, by rw [PySem.SeqAt.eqv_refl_plain d pl]; exact q⟩
theorem r_inL {p : Addr} {xs : List V} {x : V} (h : H p = some (.lst xs)) (fx : flatV x = true) (fs : xs.all flatV = true) (q : Q (.bl (inV x xs)) H) : rIn K false x (.ref p) H Q := ⟨p, xs, rfl, .inl (SqL.of h), fx, fs, q⟩
theorem r_notinL {p : Addr} {xs : List V} {x : V} (h : H p = some (.lst xs)) (fx : flatV x = true) (fs : xs.all flatV = true) (q : Q (.bl (!inV x xs)) H) : rIn K true x (.ref p) H Q := ⟨p, xs, rfl, .inl (SqL.of h), fx, fs, q⟩
theorem in_two (c a b : Nat) : inV (signV c) [.str (S [a]), .str (S [b])] = decide (c = a ∨ c = b) := by
  have e : ∀ x y : Nat, (S [x] == S [y]) = decide (x = y) := fun x y => by
    rw [S_beq_eq]
    by_cases h : x = y
    · subst h; simp
    · simp [h]
  show ((S [a] == S [c]) || ((S [b] == S [c]) || false)) = _
  rw [e, e, Bool.or_false]
  by_cases h1 : c = a
  · subst h1; simp
  · by_cases h2 : c = b
    · subst h2; simp
    · simp [h1, h2, Ne.symm h1, Ne.symm h2, eq_comm]
theorem in_two_none (a b : Nat) : inV (.str (S [])) [.str (S [a]), .str (S [b])] = false := by
  show ((S [a] == S []) || ((S [b] == S []) || false)) = _
  rw [S_beq, S_beq]
  rfl
def rInt1 : List V → Hp → VK → Prop := fun xs H Q => (∃ i, xs = [.int i] ∧ Q (.int i) H) ∨ ∃ k, xs = [.bl k] ∧ Q (.int (if k then 1 else 0)) H
theorem k_int1 {X : Cx} : CallR X (.type "int") rInt1 := call_int1
theorem r_int1 {k : Bool} (q : Q (.int (if k then 1 else 0)) H) : rInt1 [.bl k] H Q := .inr ⟨k, rfl, q⟩
def rStr1 : List V → Hp → VK → Prop := fun xs H Q => ∃ i, xs = [.int i] ∧ i.natAbs.log2 < 1920 ∧ Q (.str (toString i)) H
theorem k_str1 {X : Cx} : CallR X (.type "str") rStr1 := call_str_int
theorem r_str1 {i : Int} (hi : i.natAbs.log2 < 1920) (q : Q (.str (toString i)) H) : rStr1 [.int i] H Q := ⟨i, rfl, hi, q⟩
/-! a text at a place -/
theorem r_ixS {x : Str} {i : Int} {c : Nat} (hx : x.length ≤ 100000) (e : atI x.cps.toList i = some c) (q : Q (signV c) H) : rIx K (.str x) (.int i) H Q := .inr (.inr ⟨x, i, c, rfl, rfl, sz_of hx, e, q⟩)
theorem r_par {i j : Nat} {ta : TA} {D : Ends} {σ : L2.St} (h : ta σ H fun vs H1 => ∃ v w, vs = [v, w] ∧ D.nx ((σ.set i (some v)).set j (some w)) H1) : tPar i j ta D σ H := h
theorem r_pair {P : V → V → Prop} (q : P v w) : ∃ v' w', [v, w] = [v', w'] ∧ P v' w' := ⟨v, w, rfl, q⟩
theorem sg {c d : Nat} : ((⟨#[c]⟩ : Str) = (⟨#[d]⟩ : Str)) ↔ c = d := by
  constructor
  · intro h
    have : ([c] : List Nat) = [d] := congrArg (fun x : Str => x.cps.toList) h
    exact (List.cons.inj this).1
  · intro h
    rw [h]
end
section
variable {K : PySem.W.Frag} {H : Hp} {Q : VK}
def rSgn : R2 := fun x y H Q => ∃ (c : Nat) (z : Str), x = .str ⟨#[c]⟩ ∧ y = .str z ∧ Q (.bl (!decide (c ∈ z.cps.toList))) H
theorem k_notSign {X : Cx} : OpR X (compareOp .NotIn) rSgn := op_notIn_sign
theorem r_notSign {c : Nat} {z : Str} (q : Q (.bl (!decide (c ∈ z.cps.toList))) H) : rSgn (signV c) (.str z) H Q := ⟨c, z, rfl, rfl, q⟩
theorem g_slL {a : Addr} {xs : List V} {lo hi : Option Int} (h : H a = some (.lst xs)) (q : ∀ p H2, H p = none → Same H H2 → H2 p = some (.lst (cutV xs lo hi)) → Q (.ref p) H2) : GSlice K (.ref a) lo hi H Q := .inl ⟨a, xs, rfl, SqL.of h, fun p hp => q p _ (by exact hp) (Same.new hp) upd_same⟩
end
theorem cutV2 (a b : V) (xs : List V) : cutV (a :: b :: xs) (some 2) none = xs := by
  unfold cutV
  have i1 : HT.sIx (a :: b :: xs).length 0 (some 2) = 2 := by
    unfold HT.sIx
    simp
  rw [i1, HT.sIx_none]
  show xs.take ((a :: b :: xs).length - 2) = xs
  rw [List.take_of_length_le (by simp)]
theorem signs_data {K : PySem.W.Frag} {H : Hp} {p : Addr} : ∀ {cs : List Nat}, H p = some (.lst (cs.map signV)) → Dd K H (.ref p) (.list (cs.map fun c => .str (S [c]))) := fun {cs} h => .lst h (by
  clear h
  induction cs with
  | nil => exact .nil
  | cons c cs ih => exact .cons (.str _) ih)
theorem signs_plain (cs : List Nat) : (PyData.list (cs.map fun c => .str (S [c]))).plain = true := by
  show PyData.plainAll _ = true
  induction cs with
  | nil => rfl
  | cons c cs ih =>
    rw [List.map_cons, PyData.plainAll, ih]
    rfl
theorem signs_deep (cs : List Nat) : (PyData.list (cs.map fun c => .str (S [c]))).depth ≤ 60 := by
  have : PyData.depthAll (cs.map fun c => PyData.str (S [c])) = 0 := by
    induction cs with
    | nil => rfl
    | cons c cs ih =>
      rw [List.map_cons, PyData.depthAll, ih]
      rfl
  rw [PyData.depth, this]
  decide
theorem signs_eqv (cs : List Nat) : PyData.eqv (.list (cs.map fun c => .str (S [c]))) (.list []) = cs.isEmpty := by
  cases cs <;> rfl
/-! isinstance of what was caught, its class and dict by their letters -/
def rIsE2 (K : PySem.W.Frag) (cls : Value) (d : Option Addr) (a : Addr) : List V → Hp → VK → Prop := fun xs H Q => ∃ D dd, cls = .ref D ∧ d = some dd ∧ rIsE1 K D a dd xs H Q
theorem call_isE2 {X : Cx} {K : PySem.W.Frag} {a : Addr} {cls : Value} {d : Option Addr} {oe : Obj} {pn : List (Addr × Obj)} (hz : Zc cls d oe) (hf : ∃ vs, oe.data = .fields vs) (eK : X.K = K := by rfl) : CallR (X.suite a ((a, oe) :: pn)) (.builtin "isinstance") (rIsE2 K cls d a) := by
  intro pins s σ H xs us Q I r h
  obtain ⟨D, dd, rfl, rfl, h⟩ := h
  exact call_isE1 hz hf eK pins s σ H xs us Q I r h
theorem r_isE2 {K : PySem.W.Frag} {a D dd : Addr} {c : V} {cv : Value} {fs : List (Str × V)} {H : Hp} {Q : VK} (hd : H dd = some (.xd fs)) (hc : ∀ u, RelV c u → u = cv) (ht : PySem.W.typeIn K cv = some (.type "type") ∨ typeOf cv = pure (.type "type")) (hk : (∃ n, cv = .type n) ∨ ∃ C, cv = .ref C ∧ PySem.W.hasDictIn K C = true)
    (hs : PySem.W.subIn K (.ref D) cv = some true) (q : Q (.bl true) H) : rIsE2 K (.ref D) (some dd) a [.ref a, c] H Q := ⟨D, dd, rfl, rfl, c, cv, fs, rfl, hd, hc, ht, hk, hs, q⟩
theorem r_xf {K : PySem.W.Frag} {a C dd : Addr} {v : V} {te : TE} {σ : L2.St} {H : Hp} {Q : VK} (h : te σ H fun x H1 => x = .ref a ∧ H1 dd = some (.xd (valF v)) ∧ Q v H1) (mono : ∀ R R' : VK, (∀ v H', R v H' → R' v H') → te σ H R → te σ H R') : tXf a (.ref C) (some dd) C "value" te σ H Q :=
  mono _ _ (fun x H' ⟨e, h1, q⟩ => ⟨e, rfl, dd, _, v, rfl, h1, rfl, q⟩) h
theorem r_xfVar {a C dd : Addr} {v : V} {i : Nat} {σ : L2.St} {H : Hp} {Q : VK} (hv : σ[i]? = some (some (.ref a))) (hd : H dd = some (.xd (valF v))) (q : Q v H) : tXf a (.ref C) (some dd) C "value" (tVar i) σ H Q := ⟨_, hv, rfl, rfl, dd, _, v, rfl, hd, rfl, q⟩
/-! cuts of a text by its list -/
theorem cut1 (c : Nat) (r : List Nat) : cutS (S (c :: r)) (some 1) none = S r := by
  refine TL.ext_tl ?_
  have l : (S (c :: r)).length = r.length + 1 := by rw [S_len]; rfl
  have i1 : HT.sIx (S (c :: r)).length 0 (some 1) = 1 := by
    rw [l]
    unfold HT.sIx
    simp
  have i2 : HT.sIx (S (c :: r)).length (S (c :: r)).length none = r.length + 1 := by rw [HT.sIx_none, l]
  unfold cutS
  rw [i1, i2]
  show ((c :: r).drop 1).take (r.length + 1 - 1) = r
  rw [Nat.add_sub_cancel]
  exact List.take_length
theorem cut12 (c : Nat) (r : List Nat) : cutS (S (c :: r)) (some 1) (some 2) = S (r.take 1) := by
  refine TL.ext_tl ?_
  have l : (S (c :: r)).length = r.length + 1 := by rw [S_len]; rfl
  have i1 : HT.sIx (S (c :: r)).length 0 (some 1) = 1 := by
    rw [l]
    unfold HT.sIx
    simp
  have i2 : HT.sIx (S (c :: r)).length (S (c :: r)).length (some 2) = min 2 (r.length + 1) := by
    rw [l]
    rfl
  unfold cutS
  rw [i1, i2]
  show ((c :: r).drop 1).take (min 2 (r.length + 1) - 1) = r.take 1
  show r.take _ = _
  cases r with
  | nil => rfl
  | cons d r =>
    have : min 2 ((d :: r).length + 1) - 1 = 1 := by simp
    rw [this]
theorem cut1m {l : List Nat} (h : 2 ≤ l.length) : cutS (S l) (some 1) (some (-1)) = S ((l.drop 1).take (l.length - 2)) := by
  refine TL.ext_tl ?_
  have i1 : HT.sIx (S l).length 0 (some 1) = 1 := by
    rw [S_len]
    unfold HT.sIx
    simp
    omega
  have i2 : HT.sIx (S l).length (S l).length (some (-1)) = l.length - 1 := by
    rw [S_len]
    unfold HT.sIx
    simp
    omega
  unfold cutS
  rw [i1, i2]
  show (l.drop 1).take (l.length - 1 - 1) = _
  rw [show l.length - 1 - 1 = l.length - 2 by omega]
end Tk

set_option Elab.async false
set_option linter.all false
set_option maxRecDepth 100000
set_option maxHeartbeats 4000000
/-! in, not in, len, [] over instances of own classes -/
namespace Tk
open PySem PySem.Spec PyProof.Rows L2
section
variable {X : Cx} {CX : CXT} {n : Nat} {C g : Addr} {sp : Sp} {E : XK}
theorem ins_at {pn : List (Addr × Obj)} {σ : L2.St} {H : Hp} {s : Shared} {a dx : Addr} {fs : List (Str × V)} (I : Inv X pn σ H s) (e : H a = some (.ins C dx fs)) : ∃ od, PySem.W.InstAt s.heap a (PySem.W.instObj C dx) C od := by
  obtain ⟨mA, O, _, _, _, _⟩ := ins_get I.hok e
  obtain ⟨od, ho, _⟩ := lookIn_ns O.ns
  exact ⟨some od, O.obj, rfl, rfl, ho⟩
/-- what the class at C writes under a name: a plain def at g -/
structure Own (K : PySem.W.Frag) (C : Addr) (m : Str) (g : Addr) : Prop where
  at_ : PySem.W.findIn K (.ref C) m = some (some (.ref g))
  fn : PySem.W.isFn K (.ref g) = true
def rInOwn (f : Bool → Bool) (C : Addr) (sp : Sp) (E : XK) : R2 := fun x y H Q => ∃ (a dx : Addr) (fs : List (Str × V)), y = .ref a ∧ H a = some (.ins C dx fs) ∧ sp [.ref a, x] H (fun r H' => ∃ b, r = .bl b ∧ Q (.bl (f b)) H') E
theorem k_inOwn (o : Own X.K C "__contains__" g) (F : FnR X.prog X.w X.K X.mg X.base CX n g sp) (hr : Room n X.A) (hx : Passes CX X E) : OpR X (compareOp .In) (rInOwn (fun b => b) C sp E) := by
  intro pn s σ H x y v u Q I rx ry h
  obtain ⟨a, dx, fs, rfl, ha, q⟩ := h
  obtain rfl : u = Value.ref a := ry
  obtain ⟨od, J⟩ := ins_at I ha
  obtain ⟨m, fr⟩ := I.fr
  refine PySem.W.in_K fr I.ok.mod.kin J o.at_ o.fn (wpAny_mono (wpAny_call (run_fnR (us := [.ref a, v]) (vs := [.ref a, x]) F hr hx I (.cons rfl (.cons rx .nil)) q)) (fun w s' z => ?_) fun _ _ z => z)
  obtain ⟨z', H', I', rz, b, rfl, qb⟩ := z
  obtain rfl : w = Value.bool b := rz
  exact wpAny_pure ⟨.bl b, H', I', rfl, qb⟩
theorem k_notinOwn (o : Own X.K C "__contains__" g) (F : FnR X.prog X.w X.K X.mg X.base CX n g sp) (hr : Room n X.A) (hx : Passes CX X E) : OpR X (compareOp .NotIn) (rInOwn (fun b => !b) C sp E) := by
  intro pn s σ H x y v u Q I rx ry h
  obtain ⟨a, dx, fs, rfl, ha, q⟩ := h
  obtain rfl : u = Value.ref a := ry
  obtain ⟨od, J⟩ := ins_at I ha
  obtain ⟨m, fr⟩ := I.fr
  refine PySem.W.notIn_K fr I.ok.mod.kin J o.at_ o.fn (wpAny_mono (wpAny_call (run_fnR (us := [.ref a, v]) (vs := [.ref a, x]) F hr hx I (.cons rfl (.cons rx .nil)) q)) (fun w s' z => ?_) fun _ _ z => z)
  obtain ⟨z', H', I', rz, b, rfl, qb⟩ := z
  obtain rfl : w = Value.bool b := rz
  exact wpAny_pure ⟨.bl (!b), H', I', rfl, qb⟩
/-- a op b, both of the class at C that writes op -/
def rBinOwn (C : Addr) (sp : Sp) (E : XK) : R2 := fun x y H Q => ∃ (a b dx dy : Addr) (fs gs : List (Str × V)), x = .ref a ∧ y = .ref b ∧ H a = some (.ins C dx fs) ∧ H b = some (.ins C dy gs) ∧ sp [.ref a, .ref b] H Q E
theorem k_binOwn {op : Operator} (o : Own X.K C (PySem.dunder op.info.2) g) (hc : PySem.W.selfFirst X.K C = true) (F : FnR X.prog X.w X.K X.mg X.base CX n g sp) (hr : Room n X.A) (hx : Passes CX X E) : OpR X (binaryOp op) (rBinOwn C sp E) := by
  intro pn s σ H x y v u Q I rx ry h
  obtain ⟨a, b, dx, dy, fs, gs, rfl, rfl, ha, hb, q⟩ := h
  obtain rfl : v = Value.ref a := rx
  obtain rfl : u = Value.ref b := ry
  obtain ⟨od, J⟩ := ins_at I ha
  obtain ⟨oe, J'⟩ := ins_at I hb
  obtain ⟨m, fr⟩ := I.fr
  refine PySem.W.binop_K fr I.ok.mod.kin J J'.type hc o.at_ o.fn (wpAny_mono (wpAny_call (run_fnR (us := [.ref a, .ref b]) (vs := [.ref a, .ref b]) F hr hx I (.cons rfl (.cons rfl .nil)) q)) (fun w s' z => ?_) fun _ _ z => z)
  obtain ⟨z', H', I', rz, qz⟩ := z
  exact SlX.cmpback rz ⟨z', H', I', rz, qz⟩
/-- a == b (or another comparison that the class at C writes), both of that class -/
theorem k_cmpOwn {op : CmpOp} (hop : ∀ a b, compareOp op a b = richCompare op a b) (o : Own X.K C (cmpInfo op).2.1 g) (F : FnR X.prog X.w X.K X.mg X.base CX n g sp) (hr : Room n X.A) (hx : Passes CX X E) : OpR X (compareOp op) (rBinOwn C sp E) := by
  intro pn s σ H x y v u Q I rx ry h
  obtain ⟨a, b, dx, dy, fs, gs, rfl, rfl, ha, hb, q⟩ := h
  obtain rfl : v = Value.ref a := rx
  obtain rfl : u = Value.ref b := ry
  obtain ⟨od, J⟩ := ins_at I ha
  obtain ⟨oe, J'⟩ := ins_at I hb
  obtain ⟨m, fr⟩ := I.fr
  rw [hop]
  refine PySem.W.cmp_K (op := op) (tb := .ref C) hr.units0 fr I.ok.mod.kin J J'.type (by simp [PySem.W.notFirst]) o.at_ o.fn (wpAny_mono (wpAny_call (run_fnR (us := [.ref a, .ref b]) (vs := [.ref a, .ref b]) F hr hx I (.cons rfl (.cons rfl .nil)) q)) (fun w s' z => ?_) fun _ _ z => z)
  obtain ⟨z', H', I', rz, qz⟩ := z
  exact SlX.cmpback rz ⟨z', H', I', rz, qz⟩
/-- len(a) -/
def rLenOwn (C : Addr) (sp : Sp) (E : XK) : List V → Hp → VK → Prop := fun xs H Q => ∃ (a dx : Addr) (fs : List (Str × V)), xs = [.ref a] ∧ H a = some (.ins C dx fs) ∧ sp [.ref a] H (fun r H' => ∃ k : Nat, r = .int k ∧ k ≤ 100000 ∧ Q (.int k) H') E
theorem k_lenOwn (o : Own X.K C "__len__" g) (F : FnR X.prog X.w X.K X.mg X.base CX n g sp) (hr : Room (n + 1) X.A) (hx : Passes CX X E) : CallR X (.builtin "len") (rLenOwn C sp E) := by
  intro pn s σ H xs us Q I r h
  obtain ⟨a, dx, fs, rfl, ha, q⟩ := h
  obtain ⟨u, rfl, ru⟩ := vals1 r
  obtain rfl : u = Value.ref a := ru
  obtain ⟨od, J⟩ := ins_at I ha
  obtain ⟨m, fr⟩ := I.fr
  refine PySem.W.len_K fr I.ok.mod.kin J o.at_ o.fn (wpAny_mono (wpAny_call (SlX.run_at (us := [.ref a]) (ws := [.ref a]) F (Room.in1 hr) I.env0.in1 hx I (.cons rfl .nil) q)) (fun w s' z => ?_) fun _ _ z => z)
  obtain ⟨z', H', I', rz, k, rfl, hk, qz⟩ := z
  obtain ⟨t, rfl⟩ := (show ∃ t, w = Value.int k t from rz)
  exact ⟨⟨by omega, by omega⟩, .int k, H', I'.tok _, ⟨_, rfl⟩, qz⟩
/-- a[k], a of the class at C that writes __getitem__ -/
def rSubOwn (C : Addr) (sp : Sp) (E : XK) : R2 := fun x y H Q => ∃ (a dx : Addr) (fs : List (Str × V)), x = .ref a ∧ H a = some (.ins C dx fs) ∧ sp [.ref a, y] H Q E
theorem pe_subOwn {e1 e2 : Expr} {t1 t2 : TE} {pos : Pos} (o : Own X.K C "__getitem__" g) (hg : PySem.W.fnIn X.K g = true) (F : FnR X.prog X.w X.K X.mg X.base CX n g sp) (hr : Room (n + 1) X.A) (hx : Passes CX X E) (h1 : PE X e1 t1) (h2 : PE X e2 t2)
    (hs : ∀ v u, subscripted e2 true v u = runValue (.builtin "lifetime.subscript" ⟨[v, u], []⟩) := by intro _ _; rfl) : PE X (.Subscript e1 e2 pos) (tOp (rSubOwn C sp E) t1 t2) := by
  refine ⟨fun pn s σ H Q I h => ?_⟩
  refine Subscript_ (binT h1 h2 I h fun v u s2 x y H2 I2 rx ry q => ?_)
  obtain ⟨a, dx, fs, rfl, ha, q⟩ := q
  obtain rfl : v = Value.ref a := rx
  obtain ⟨od, J⟩ := ins_at I2 ha
  obtain ⟨m, fr⟩ := I2.fr
  refine PySem.W.sub_K fr I2.ok.mod.kin J o.at_ hg o.fn (wpAny_mono (wpAny_call (SlX.run_at (us := [.ref a, u]) (ws := [.ref a, y]) F (Room.in1 hr) I2.env0.in1 hx I2 (.cons rfl (.cons ry .nil)) q)) (fun w s' z => z) fun _ _ z => z) (hs _ _)
end
end Tk

set_option Elab.async false
set_option linter.all false
set_option maxRecDepth 100000
set_option maxHeartbeats 4000000
/-! sets of texts: set(xs), len, sorted; the members as a list, none twice, in some order -/
namespace Ts
open PySem PySem.Spec PyProof.Rows L2
section
variable {P : Program} {w : World} {h h' : Heap} {a : Addr} {S : List Str}
abbrev sk (P : Program) (w : World) := PySem.strKind P w
/-- the text of a row of the table -/
def txOf (e : Int × Value) : Str := match e.2 with | .str x _ => x | _ => Str.empty
def IsTx (P : Program) (w : World) (e : Int × Value) : Prop := ∃ (x : Str) (u : Tok), e.2 = Value.str x u ∧ e.1 = (sk P w).hash x
/-- one more text -/
def addT (S : List Str) (x : Str) : List Str := if x ∈ S then S else x :: S
structure Raw (P : Program) (w : World) (h : Heap) (a : Addr) (S : List Str) (ob : Obj) (rows : Array (Int × Value)) (ep : Nat) (tb : SetTable) : Prop where
  at_ : h.get? a = some ob
  ex : ob.ExactSet
  dat : ob.data = .set rows ep tb
  txt : ∀ e ∈ rows.toList, IsTx P w e
  mem : (rows.toList.map txOf).Perm S
  nd : S.Nodup
  few : rows.size < scanBound
  fits : tb.fits rows.size = true
  ris : Ris tb.place.toList
  led : w.params.followText "set-order" = true ∨ tb.led = true
/-- the set of texts at a -/
def TSet (P : Program) (w : World) (h : Heap) (a : Addr) (S : List Str) : Prop := ∃ ob rows ep tb, Raw P w h a S ob rows ep tb
theorem TSet.keep (R : TSet P w h a S) (k : ∀ o, h.get? a = some o → h'.get? a = some o) : TSet P w h' a S := by
  obtain ⟨ob, rows, ep, tb, r⟩ := R
  exact ⟨ob, rows, ep, tb, { r with at_ := k ob r.at_ }⟩
theorem Raw.size {ob : Obj} {rows : Array (Int × Value)} {ep : Nat} {tb : SetTable} (r : Raw P w h a S ob rows ep tb) : rows.size = S.length := by
  have q := r.mem.length_eq
  rw [List.length_map, Array.length_toList] at q
  exact q
theorem tx_elems {l : List (Int × Value)} (g : ∀ e ∈ l, IsTx P w e) : ElemsOf (sk P w) l := by
  intro e he
  obtain ⟨x, u, h1, h2⟩ := g e he
  refine ⟨⟨x, ?_, h2⟩, ?_⟩ <;> rw [h1]
  · exact strKind_is P w x u
  · rfl
theorem tx_is {e : Int × Value} (g : IsTx P w e) (x : Str) : (sk P w).is x e.2 = true ↔ txOf e = x := by
  obtain ⟨y, u, h1, _⟩ := g
  unfold txOf
  rw [h1]
  constructor
  · intro z
    obtain ⟨u', z'⟩ := Value.isStrOf_shape (show Value.isStrOf x (.str y u) = true from z)
    injection z'
  · intro z
    rw [← z]
    exact strKind_is P w y u
end
section
variable {P : Program} {w : World} {A : Around} {E : Value → Shared → Prop} {s : Shared} {a : Addr} {S : List Str}
/-- the end of an adding: the rows are stored, and laid anew where they are too many -/
theorem add_end {gv : Bool → Sem Unit} (hgv : ∀ (b : Bool) (t : Shared) (Q' : Unit → Shared → Prop), Q' () t → wpAny (model P w) A (gv b) Q' E t) {ob : Obj} {rows rows1 : Array (Int × Value)} {ep : Nat} {tb tb1 : SetTable}
    (e1 : s.heap.get? a = some ob) (e2 : ob.ExactSet) (e3 : ob.data = .set rows ep tb) (g1 : ∀ e ∈ rows1.toList, IsTx P w e) (m1 : (rows1.toList.map txOf).Perm S) (n1 : S.Nodup) (f1 : rows1.size < scanBound)
    (t1 : tb1.fits rows1.size = true) (r1 : Ris tb1.place.toList) (l1 : w.params.followText "set-order" = true ∨ tb1.led = true) {dm : Bool} {R : Option Bool → Shared → Prop}
    (hR : ∀ h', Heap.SameBut a s.heap h' → TSet P w h' a S → R (some true) { s with heap := h' }) :
    wpAny (model P w) A (do storeSet a rows1 tb1; if (!dm && tb1.tooFull) = true then do { gv (relayAll tb1 rows1 (SetTable.grown rows1.size)).2.2; storeSet a (relayAll tb1 rows1 (SetTable.grown rows1.size)).1 (relayAll tb1 rows1 (SetTable.grown rows1.size)).2.1; pure (some true) } else pure (some true)) R E s := by
  have k1 := store_at (es' := rows1) (t' := tb1) e1 e3
  have b1 := Heap.SameBut.update s.heap a (Obj.putSet rows1 tb1)
  refine wpAny_bind (wpAny_storeSet_of e1 e3 ?_ (fits_of_scanBound f1))
  split
  case isFalse => exact wpAny_pure (hR _ b1 ⟨_, rows1, _, tb1, k1, e2, rfl, g1, m1, n1, f1, t1, r1, l1⟩)
  case isTrue =>
    have p2 := relayAll_perm tb1 rows1 (SetTable.grown rows1.size)
    have t2 := relayAll_fits tb1 rows1 (SetTable.grown rows1.size)
    have r2 := relayAll_ris tb1 rows1 (SetTable.grown rows1.size)
    have l2 := relayAll_led tb1 rows1 (SetTable.grown rows1.size)
    generalize relayAll tb1 rows1 (SetTable.grown rows1.size) = Z at p2 t2 r2 l2 ⊢
    obtain ⟨rows2, tb2, gw⟩ := Z
    dsimp only at p2 t2 r2 l2 ⊢
    have sz : rows2.size = rows1.size := by rw [← Array.length_toList, p2.length_eq, Array.length_toList]
    have f2 : rows2.size < scanBound := by rw [sz]; exact f1
    refine wpAny_bind (hgv _ _ _ (wpAny_bind (wpAny_storeSet_of k1 rfl ?_ (fits_of_scanBound f2))))
    have k2 := store_at (es' := rows2) (t' := tb2) k1 rfl
    exact wpAny_pure (hR _ (b1.trans (Heap.SameBut.update _ a _)) ⟨_, rows2, _, tb2, k2, e2, rfl, fun e he => g1 e (p2.mem_iff.mp he), (p2.map txOf).trans m1, n1, f2, t2, r2, l1.imp id fun z => by rw [l2]; exact z⟩)
theorem add_txt {x : Str} {u : Tok} {Q : Bool → Shared → Prop} (R : TSet P w s.heap a S) (room : S.length + 1 < scanBound)
    (hQ : ∀ h' b, Heap.SameBut a s.heap h' → TSet P w h' a (addT S x) → Q b { s with heap := h' }) : wpAny (model P w) A (setAddHashed a (.str x u) ((sk P w).hash x)) Q E s := by
  obtain ⟨ob, rows, ep, tb, r⟩ := R
  have isx : (sk P w).is x (.str x u) = true := strKind_is P w x u
  have sc : (Value.str x u).scannable = true := rfl
  have el : ElemsOf (sk P w) rows.toList := tx_elems r.txt
  unfold setAddHashed setAddHashedIn
  refine wpAny_holding (wpAny_bind (wpAny_setState_of r.at_ r.dat r.fits ?_))
  dsimp only
  rw [byScan_of sc r.few el]
  simp only [↓reduceIte]
  unfold setAddByScan
  refine wpAny_bind (wpAny_bind (wpAny_rule (wpAny_bind (wpAny_setScan_of isx r.at_ r.dat r.fits el ?_))))
  cases fi : List.findIdx? (fun e => (sk P w).is x e.2) rows.toList with
  | some j =>
    dsimp only
    obtain ⟨hj, pj, _⟩ := List.findIdx?_eq_some_iff_getElem.mp fi
    have hm : x ∈ S := r.mem.mem_iff.mp (List.mem_map.mpr ⟨rows.toList[j], List.getElem_mem hj, (tx_is (r.txt _ (List.getElem_mem hj)) x).mp pj⟩)
    refine wpAny_pure (wpAny_pure (hQ s.heap _ (Heap.SameBut.refl a s.heap) ?_))
    unfold addT
    rw [if_pos hm]
    exact ⟨ob, rows, ep, tb, r⟩
  | none =>
    dsimp only
    have nm : x ∉ S := fun z => by
      obtain ⟨e, he, q⟩ := List.mem_map.mp (r.mem.mem_iff.mpr z)
      have c := List.findIdx?_eq_none_iff.mp fi e he
      rw [(tx_is (r.txt e he) x).mpr q] at c
      cases c
    have gw : ∀ (b : Bool) {t : Shared} {Q' : Unit → Shared → Prop}, Q' () t → wpAny (model P w) A (match b with | true => rule "set.scan.the-table-gave-way" | false => pure ()) Q' E t := fun b t Q' q => by
      cases b
      · exact wpAny_pure q
      · exact wpAny_rule q
    have p1 := layNew_perm tb rows ((sk P w).hash x) (.str x u)
    have t1 := layNew_fits tb rows ((sk P w).hash x) (.str x u)
    have r1 := layNew_ris tb rows ((sk P w).hash x) (.str x u) r.ris
    have l1 := layNew_led tb rows ((sk P w).hash x) (.str x u)
    generalize layNew tb rows ((sk P w).hash x) (.str x u) = Z at p1 t1 r1 l1 ⊢
    obtain ⟨rows1, tb1, dm, gv⟩ := Z
    dsimp only at p1 t1 r1 l1 ⊢
    rw [Array.toList_push] at p1
    have pc : rows1.toList.Perm (((sk P w).hash x, Value.str x u) :: rows.toList) := p1.trans (List.perm_append_singleton _ _)
    have g1 : ∀ e ∈ rows1.toList, IsTx P w e := fun e he => by
      rcases List.mem_cons.mp (pc.mem_iff.mp he) with z | z
      · exact ⟨x, u, by rw [z], by rw [z]⟩
      · exact r.txt e z
    have es : addT S x = x :: S := if_neg nm
    have m1 : (rows1.toList.map txOf).Perm (addT S x) := by
      rw [es]
      exact (pc.map txOf).trans (List.Perm.cons x r.mem)
    have n1 : (addT S x).Nodup := by
      rw [es]
      exact List.nodup_cons.mpr ⟨nm, r.nd⟩
    have sz : rows1.size = S.length + 1 := by
      have q := m1.length_eq
      rw [es, List.length_map, Array.length_toList] at q
      exact q
    have f1 : rows1.size < scanBound := by rw [sz]; exact room
    have ld : w.params.followText "set-order" = true ∨ tb1.led = true := r.led.imp id fun z => by rw [l1]; exact z
    refine wpAny_bind (gw _ ?_)
    split
    · refine wpAny_bind ?_
      rw [hashByValue_scannable 8 sc]
      refine wpAny_pure ?_
      refine add_end ?_ r.at_ r.ex r.dat g1 m1 n1 f1 ?_ ?_ ?_ ?_
      · intro b t Q' q
        cases b <;> first | exact wpAny_pure q | exact wpAny_rule q
      · first | (split <;> first | exact t1 | exact SetTable.fits_plain_off t1) | exact t1
      · first | (split <;> exact r1) | exact r1
      · first | (split <;> exact ld) | exact ld
      · intro h' sb y; dsimp only; exact wpAny_pure (hQ h' _ sb y)
    · refine wpAny_bind (wpAny_pure ?_)
      simp only [↓reduceIte]
      refine add_end ?_ r.at_ r.ex r.dat g1 m1 n1 f1 t1 r1 ld ?_
      · intro b t Q' q
        cases b <;> first | exact wpAny_pure q | exact wpAny_rule q
      · intro h' sb y; dsimp only; exact wpAny_pure (hQ h' _ sb y)
end
/-- the texts of a row, the last one added last -/
def gather : List Str → List Str
  | [] => []
  | x :: xs => addT (gather xs) x
theorem addT_mem {S : List Str} {x y : Str} : y ∈ addT S x ↔ y = x ∨ y ∈ S := by
  unfold addT
  split
  · rename_i h
    exact ⟨.inr, fun z => z.elim (fun e => e ▸ h) id⟩
  · exact List.mem_cons
theorem gather_mem {xs : List Str} {y : Str} : y ∈ gather xs ↔ y ∈ xs := by
  induction xs with
  | nil => exact Iff.rfl
  | cons x xs ih => rw [gather, addT_mem, ih, List.mem_cons]
theorem addT_len (S : List Str) (x : Str) : (addT S x).length ≤ S.length + 1 := by
  unfold addT
  split
  · omega
  · exact Nat.le_refl _
theorem gather_len (xs : List Str) : (gather xs).length ≤ xs.length := by
  induction xs with
  | nil => exact Nat.le_refl _
  | cons x xs ih =>
    rw [gather, List.length_cons]
    exact Nat.le_trans (addT_len _ _) (by omega)

section
variable {P : Program} {w : World} {A : Around} {E : Value → Shared → Prop} {s : Shared}
theorem tset_new {h : Heap} {a : Addr} (e : h.get? a = some { cls := .type "set", dict := none, data := .set #[] 0 (.fresh 0 0 (!w.params.followText "set-order")) }) : TSet P w h a [] := by
  refine ⟨_, #[], 0, _, e, ⟨rfl, rfl, rfl⟩, rfl, ?_, .nil, .nil, by decide, rfl, .nil, ?_⟩
  · intro e he
    exact absurd he (by simp)
  · cases q : w.params.followText "set-order" with
    | true => exact .inl rfl
    | false => exact .inr rfl
/-- set.update's own loop, over anything that walks texts -/
theorem upd_loop {It : Addr} {fp wr : List Addr} {G : Array GenState → Array GenState → Prop} {n : Nat} {Pv : Nat → Value → Prop} {St : Nat → Shared → Prop} {R : Result → Shared → Prop} (W : WalksS P w A.in1 It fp wr G n Pv St) (D : Addr) (nf : D ∉ fp) (xs : List Str)
    (en : n = xs.length) (room : xs.length + 1 < scanBound) (hv : ∀ i v, Pv i v → ∃ x u, xs[i]? = some x ∧ v = Value.str x u) : ∀ (m i : Nat) (s : Shared), n - i = m → i ≤ n → St i s → TSet P w s.heap D (gather (xs.take i).reverse) →
      (∀ s', Moved (D :: wr) G s s' → TSet P w s'.heap D (gather xs.reverse) → R (.ok (.ret .none)) s') → codeAny (model P w) A (.builtin "set.update.loop" ⟨[.ref D, .ref It], []⟩) R s := by
  have nw : D ∉ wr := fun z => nf (W.sub _ z)
  have up : ∀ b ∈ wr, b ∈ D :: wr := fun b z => List.mem_cons_of_mem _ z
  intro m
  induction m with
  | zero =>
    intro i s e1 e2 st hS hR
    obtain rfl : i = n := by omega
    refine codeAny_builtin F.entry_set_update_loop (?_ : _)
    rw [Around.under_plainId F.plain_set_update_loop (_ : _)]
    show wpAny (model P w) A.in1 (pyNext (.ref It) >>= _) _ _ s
    refine wpAny_bind (W.done s _ _ st fun t mv => ?_)
    show wpAny (model P w) A.in1 (ret Value.none) _ _ t
    rw [List.take_of_length_le (show xs.length ≤ i by omega)] at hS
    exact wpAny_pure (hR t (mv.mono up) (hS.keep fun o e => mv.heap D o nw e))
  | succ m ih =>
    intro i s e1 e2 st hS hR
    have lt : i < n := by omega
    refine codeAny_builtin F.entry_set_update_loop (?_ : _)
    rw [Around.under_plainId F.plain_set_update_loop (_ : _)]
    show wpAny (model P w) A.in1 (pyNext (.ref It) >>= _) _ _ s
    refine wpAny_bind (W.item i s _ _ lt st fun v t pv st' mv => ?_)
    obtain ⟨x, u, hx, rfl⟩ := hv i v pv
    have hS1 : TSet P w t.heap D (gather (xs.take i).reverse) := hS.keep fun o e => mv.heap D o nw e
    show wpAny (model P w) A.in1 (holding [Value.str x u] (setAdd D (.str x u)) >>= _) _ _ t
    refine wpAny_bind (wpAny_holding (?_ : _))
    unfold setAdd
    refine wpAny_holding (wpAny_bind ((sk P w).pyHash (k := x) (strKind_is _ _ _ _) ?_))
    have ln : (gather (xs.take i).reverse).length + 1 < scanBound := by
      have q := gather_len (xs.take i).reverse
      rw [List.length_reverse, List.length_take] at q
      omega
    refine add_txt (s := { t with toks := t.toks + 1 }) hS1 ln fun h' b sb hS2 => ?_
    have hS3 : TSet P w h' D (gather (xs.take (i + 1)).reverse) := by
      rw [List.take_add_one, hx, List.reverse_append]
      exact hS2
    refine wpAny_pure ⟨plainId_quiet F.plain_set_update_loop _, ih (i + 1) _ (by omega) lt (W.frame _ t _ _ st' (Nat.le_succ _) fun c hc o e => ?_) hS3 fun t2 mv2 hS4 => ?_⟩
    · rw [sb.2 c fun z : c = D => nf (z ▸ hc)]
      exact e
    · refine hR t2 (Moved.trans W.gtrans ((mv.mono up).then_heap (Nat.le_succ _) fun c o hc e => ?_) mv2) hS4
      rw [sb.2 c fun z : c = D => hc (z ▸ List.mem_cons_self)]
      exact e
end
section
variable {P : Program} {w : World} {A : Around} {E : Value → Shared → Prop} {s : Shared}
/-- a new set -/
abbrev newS (w : World) : Obj := { cls := .type "set", dict := none, data := .set #[] 0 (.fresh 0 0 (!w.params.followText "set-order")) }

set_option maxHeartbeats 8000000 in
/-- set(xs), xs a list of texts -/
theorem set_list {l : Addr} {its : Array Value} {xs : List Str} {Q : Value → Shared → Prop} (hn : A.handled = none) (hl : s.heap.IsList l its) (hx : StrsAre its.toList xs) (room : xs.length + 1 < scanBound)
    (hQ : ∀ (h' : Heap) (tk : Nat), TSet P w h' s.heap.objs.size (gather xs.reverse) → (∀ b o, s.heap.get? b = some o → h'.get? b = some o) → Q (.ref s.heap.objs.size) { s with heap := h', toks := tk }) : wpAny (model P w) A (call (.type "set") [.ref l]) Q E s := by
  obtain ⟨mc, ml, mro⟩ := F.called_set.mro
  have mk := F.called_set.made
  have sb := F.called_set.sub
  refine wpAny_call (codeAny_of_tree (show wpAny (model P w) _ (callAny (.type "set") _) _ _ s from ?_))
  refine wpAny_pure ⟨Code.quiet_builtin _ (by decide +kernel), codeAny_builtin F.entry_type_call (?_ : _)⟩
  rw [Around.under_plain (weight_type_call_type "set" [.ref l] []) (by rfl)]
  have q1 := F.called_set.notType
  have q2 := F.called_set.canCreate
  have q3 := F.typeCall_set_1 (.ref l)
  repeat any_goals first | assumption | wp_step
  refine codeAny_mono (code_set_led1 (.ref l) (E := E) (Q₁ := fun v t => v = .ref s.heap.objs.size ∧ t = { s with heap := s.heap.push (newS w) }) ⟨rfl, rfl⟩) fun r t hr => ?_
  match r, hr with
  | .error e, hr => exact hr
  | .ok (.ret v), hr =>
    obtain ⟨rfl, rfl⟩ := hr
    have gS : (s.heap.push (newS w)).get? s.heap.objs.size = some (newS w) := Heap.get?_push_size _ rfl
    have tS : Shared.TypeIs { s with heap := s.heap.push (newS w) } (.ref s.heap.objs.size) "set" := ⟨_, gS, rfl⟩
    have i1 := F.called_set.init.lookup
    have i2 := F.called_set.init.bind (.ref s.heap.objs.size)
    repeat any_goals first | assumption | wp_step
    refine codeAny_mono (codeAny_call_builtin (R := wants (fun r t2 => r = .none ∧ ∃ h' tk, t2 = { s with heap := h', toks := tk } ∧ TSet P w h' s.heap.objs.size (gather xs.reverse) ∧ (∀ b o, s.heap.get? b = some o → h'.get? b = some o)) E) F.called_set.init.plain F.entry_set_init (check_set_init_1 tS ?_)) fun r2 t2 hr2 => ?_
    · obtain ⟨⟨c0, d0, dat0, sl0⟩, o1, o2, n0, o3⟩ := hl
      simp only at o2 o3
      subst o2
      subst o3
      have o1' : (s.heap.push (newS w)).get? l = some { cls := .type "list", dict := d0, data := .seq its n0, slots := sl0 } := Heap.get?_push_of_some _ o1
      have s1 := F.sub_list_set
      have s2 := F.sub_list_frozenset
      have ne : (Value.type "list" == Value.type "dict") = false := by decide
      have l1 : (s.heap.push (newS w)).IsList l its := ⟨_, o1', rfl, n0, rfl⟩
      unfold Builtin.«set.__init__» noKeywords Builtin.Frozenset.updateFrom
      generalize ePI : pyIter = PI
      wp_walk
      subst ePI
      refine wpAny_pyIter_list l1 (wpAny_bind (wpAny_runValue ?_))
      have lt := Heap.lt_size o1
      have hn3 : A.in1.in1.in1.handled = none := by simp [hn]
      have zz : (s.heap.push (newS w)).objs.size = s.heap.objs.size + 1 := Heap.size_push ..
      have nI : l ≠ (s.heap.push (newS w)).objs.size := by
        rw [zz]
        exact Nat.ne_of_lt (Nat.lt_succ_of_lt lt)
      have nf : s.heap.objs.size ∉ [(s.heap.push (newS w)).objs.size, l] := by
        rw [zz]
        simp only [List.mem_cons, List.not_mem_nil, or_false, not_or]
        exact ⟨Nat.ne_of_lt (Nat.lt_succ_self _), Nat.ne_of_gt lt⟩
      have sz : its.size = xs.length := by rw [← Array.length_toList]; exact StrsAre.length hx
      refine upd_loop ((Walks.list hn3 _ l nI its).toS) s.heap.objs.size nf xs sz room (fun i v z => ?_) (its.size - 0) 0 _ (by omega) (Nat.zero_le _) ⟨⟨_, Heap.get?_push_size _ rfl, rfl, rfl⟩, l1.push _⟩ (tset_new (Heap.get?_push_of_some _ gS)) ?_
      · obtain ⟨y, u, e1, e2⟩ := StrsAre.item hx i v (by rw [Array.getElem?_toList]; exact z)
        exact ⟨y, u, e2, e1⟩
      · rintro ⟨h', g', d', tk', os'⟩ mv hS
        obtain rfl : g' = s.gens := mv.gens
        obtain rfl : d' = s.drawn := mv.drawn
        obtain rfl : os' = s.os := mv.os
        show wpAny _ _ _ _ _ _
        refine wpAny_pure (show wpAny _ _ (ret Value.none) _ _ _ from wpAny_pure ⟨rfl, h', tk', rfl, hS, fun b o e => ?_⟩)
        have lb := Heap.lt_size e
        refine mv.heap b o ?_ (Heap.get?_push_of_some _ (Heap.get?_push_of_some _ e))
        rw [zz]
        simp only [List.mem_cons, List.not_mem_nil, or_false, not_or]
        exact ⟨Nat.ne_of_lt lb, Nat.ne_of_lt (Nat.lt_succ_of_lt lb)⟩
    · match r2, hr2 with
      | .error e, hr2 => exact hr2
      | .ok (.ret v2), hr2 =>
        obtain ⟨rfl, h', tk, rfl, hS, k⟩ := hr2
        repeat any_goals first | assumption | wp_step
        exact hQ _ _ hS k

set_option maxHeartbeats 8000000 in
/-- set(xs), xs a tuple of texts -/
theorem set_tuple {l : Addr} {its : Array Value} {xs : List Str} {Q : Value → Shared → Prop} (hn : A.handled = none) (hl : s.heap.IsTuple l its) (hx : StrsAre its.toList xs) (room : xs.length + 1 < scanBound)
    (hQ : ∀ (h' : Heap) (tk : Nat), TSet P w h' s.heap.objs.size (gather xs.reverse) → (∀ b o, s.heap.get? b = some o → h'.get? b = some o) → Q (.ref s.heap.objs.size) { s with heap := h', toks := tk }) : wpAny (model P w) A (call (.type "set") [.ref l]) Q E s := by
  obtain ⟨mc, ml, mro⟩ := F.called_set.mro
  have mk := F.called_set.made
  have sb := F.called_set.sub
  refine wpAny_call (codeAny_of_tree (show wpAny (model P w) _ (callAny (.type "set") _) _ _ s from ?_))
  refine wpAny_pure ⟨Code.quiet_builtin _ (by decide +kernel), codeAny_builtin F.entry_type_call (?_ : _)⟩
  rw [Around.under_plain (weight_type_call_type "set" [.ref l] []) (by rfl)]
  have q1 := F.called_set.notType
  have q2 := F.called_set.canCreate
  have q3 := F.typeCall_set_1 (.ref l)
  repeat any_goals first | assumption | wp_step
  refine codeAny_mono (code_set_led1 (.ref l) (E := E) (Q₁ := fun v t => v = .ref s.heap.objs.size ∧ t = { s with heap := s.heap.push (newS w) }) ⟨rfl, rfl⟩) fun r t hr => ?_
  match r, hr with
  | .error e, hr => exact hr
  | .ok (.ret v), hr =>
    obtain ⟨rfl, rfl⟩ := hr
    have gS : (s.heap.push (newS w)).get? s.heap.objs.size = some (newS w) := Heap.get?_push_size _ rfl
    have tS : Shared.TypeIs { s with heap := s.heap.push (newS w) } (.ref s.heap.objs.size) "set" := ⟨_, gS, rfl⟩
    have i1 := F.called_set.init.lookup
    have i2 := F.called_set.init.bind (.ref s.heap.objs.size)
    repeat any_goals first | assumption | wp_step
    refine codeAny_mono (codeAny_call_builtin (R := wants (fun r t2 => r = .none ∧ ∃ h' tk, t2 = { s with heap := h', toks := tk } ∧ TSet P w h' s.heap.objs.size (gather xs.reverse) ∧ (∀ b o, s.heap.get? b = some o → h'.get? b = some o)) E) F.called_set.init.plain F.entry_set_init (check_set_init_1 tS ?_)) fun r2 t2 hr2 => ?_
    · obtain ⟨⟨c0, d0, dat0, sl0⟩, o1, o2, n0, o3⟩ := hl
      simp only at o2 o3
      subst o2
      subst o3
      have o1' : (s.heap.push (newS w)).get? l = some { cls := .type "tuple", dict := d0, data := .seq its n0, slots := sl0 } := Heap.get?_push_of_some _ o1
      have s1 := F.sub_tuple_set
      have s2 := F.sub_tuple_frozenset
      have ne : (Value.type "tuple" == Value.type "dict") = false := by decide
      have l1 : (s.heap.push (newS w)).IsTuple l its := ⟨_, o1', rfl, n0, rfl⟩
      unfold Builtin.«set.__init__» noKeywords Builtin.Frozenset.updateFrom
      generalize ePI : pyIter = PI
      wp_walk
      subst ePI
      refine wpAny_pyIter_tuple l1 (wpAny_bind (wpAny_runValue ?_))
      have lt := Heap.lt_size o1
      have hn3 : A.in1.in1.in1.handled = none := by simp [hn]
      have zz : (s.heap.push (newS w)).objs.size = s.heap.objs.size + 1 := Heap.size_push ..
      have nI : l ≠ (s.heap.push (newS w)).objs.size := by
        rw [zz]
        exact Nat.ne_of_lt (Nat.lt_succ_of_lt lt)
      have nf : s.heap.objs.size ∉ [(s.heap.push (newS w)).objs.size, l] := by
        rw [zz]
        simp only [List.mem_cons, List.not_mem_nil, or_false, not_or]
        exact ⟨Nat.ne_of_lt (Nat.lt_succ_self _), Nat.ne_of_gt lt⟩
      have sz : its.size = xs.length := by rw [← Array.length_toList]; exact StrsAre.length hx
      refine upd_loop ((Walks.tuple hn3 _ l nI its).toS) s.heap.objs.size nf xs sz room (fun i v z => ?_) (its.size - 0) 0 _ (by omega) (Nat.zero_le _) ⟨⟨_, Heap.get?_push_size _ rfl, rfl, rfl⟩, l1.push _⟩ (tset_new (Heap.get?_push_of_some _ gS)) ?_
      · obtain ⟨y, u, e1, e2⟩ := StrsAre.item hx i v (by rw [Array.getElem?_toList]; exact z)
        exact ⟨y, u, e2, e1⟩
      · rintro ⟨h', g', d', tk', os'⟩ mv hS
        obtain rfl : g' = s.gens := mv.gens
        obtain rfl : d' = s.drawn := mv.drawn
        obtain rfl : os' = s.os := mv.os
        show wpAny _ _ _ _ _ _
        refine wpAny_pure (show wpAny _ _ (ret Value.none) _ _ _ from wpAny_pure ⟨rfl, h', tk', rfl, hS, fun b o e => ?_⟩)
        have lb := Heap.lt_size e
        refine mv.heap b o ?_ (Heap.get?_push_of_some _ (Heap.get?_push_of_some _ e))
        rw [zz]
        simp only [List.mem_cons, List.not_mem_nil, or_false, not_or]
        exact ⟨Nat.ne_of_lt lb, Nat.ne_of_lt (Nat.lt_succ_of_lt lb)⟩
    · match r2, hr2 with
      | .error e, hr2 => exact hr2
      | .ok (.ret v2), hr2 =>
        obtain ⟨rfl, h', tk, rfl, hS, k⟩ := hr2
        repeat any_goals first | assumption | wp_step
        exact hQ _ _ hS k
end
/-! sorted(a set of texts) -/
section
variable {P : Program} {w : World} {A : Around} {E : Value → Shared → Prop} {s : Shared}
theorem strs_from : ∀ {vs : List Value} {l : List (Int × Value)}, vs.Perm (l.map (·.2)) → (∀ e ∈ l, IsTx P w e) → ∃ ys : List Str, StrsAre vs ys ∧ ys.Perm (l.map txOf) := by
  intro vs l pm g
  have all : ∀ v ∈ vs, ∃ x u, v = Value.str x u := fun v hv => by
    obtain ⟨e, he, q⟩ := List.mem_map.mp (pm.mem_iff.mp hv)
    obtain ⟨x, u, h1, _⟩ := g e he
    exact ⟨x, u, by rw [← q, h1]⟩
  let f : Value → Str := fun v => match v with | .str x _ => x | _ => Str.empty
  refine ⟨vs.map f, ?_, ?_⟩
  · clear pm
    induction vs with
    | nil => exact .nil
    | cons v vs ih =>
      obtain ⟨x, u, rfl⟩ := all v List.mem_cons_self
      exact .cons x u (ih fun y hy => all y (List.mem_cons_of_mem _ hy))
  · have q := pm.map f
    rw [List.map_map] at q
    exact q
theorem sorted_txt {a : Addr} {S : List Str} {Q : Value → Shared → Prop} (R : TSet P w s.heap a S) (hn : A.handled = none) (few : S.length < 64)
    (hQ : ∀ t p (out : Array Value) (c : Nat) (ys : List Str), (∀ b o, s.heap.get? b = some o → t.heap.get? b = some o) → t.gens = s.gens → t.os = s.os → s.heap.objs.size ≤ p → t.heap.get? p = some (seqObj "list" out c) → StrsAre out.toList ys → ys.Perm S → sortedS ys = true → Q (.ref p) t) :
    wpAny (model P w) A (call (.builtin "sorted") [.ref a]) Q E s := by
  obtain ⟨ob, rows, ep, tb, r⟩ := R
  refine Calls.call_function_entry kind_sorted plain_sorted entry_sorted (args_sorted1 _) (?_ : _)
  unfold Builtin.«sorted»
  refine wpAny_bind (m := checkCount "sorted" 1 1 _) (wpAny_pure (wpAny_bind (collect_set (A := A.in1) hn ⟨ob, r.at_, r.ex.1, r.dat⟩ r.fits r.few r.ris r.led fun t vs k1 hz g1 o1 pm => ?_)))
  obtain ⟨zs, hS, pz⟩ := strs_from pm r.txt
  have pS : zs.Perm S := pz.trans r.mem
  have vl : vs.length < 64 := by rw [StrsAre.length hS, pS.length_eq]; exact few
  refine wpAny_bind (wpAny_newList (?_ : _) (by rw [sizeLine_eq]; omega))
  have oL : (t.heap.push (seqObj "list" vs.toArray 0)).get? t.heap.objs.size = some (seqObj "list" vs.toArray 0) := Heap.get?_push_size _ rfl
  refine wpAny_bind (wpAny_holding (wpAny_call_entry slot_list_sort ⟨_, oL, rfl⟩ entry_list_sort (list_sort_treeK (κ := PyProof.Rows.strKind) strKind_oneLt oL hS.keysOf (fun v₁ v₂ rest e => keyKind_strs (by rw [← e]; exact hS)) vl fun st hp hs => ⟨_, rfl, ?_⟩) (args_list_sort _)))
  obtain ⟨ys, e1, e2, e3⟩ := sorted_out_str hS hp hs
  obtain ⟨c, hc⟩ := sortedHeap_at (vs := vs) (out := (arrOf st).map (·.2)) oL
  refine wpAny_pure ⟨_, rfl, hQ _ t.heap.objs.size _ c ys (fun b u e => ?_) g1 o1 hz hc e1 (e2.trans pS) e3⟩
  have q := k1 b u e
  have lt := Heap.lt_size q
  show (sortedHeap (t.heap.push (seqObj "list" vs.toArray 0)) t.heap.objs.size vs _).get? b = some u
  rw [sortedHeap_old (Nat.ne_of_lt lt) (by rw [size_push']; exact Nat.lt_succ_of_lt lt)]
  exact Heap.get?_push_of_some _ q
end
end Ts

set_option Elab.async false
set_option linter.all false
set_option maxRecDepth 100000
set_option maxHeartbeats 4000000
/-! set(xs), sorted(set), len(set) of texts as rules; tables of the module; zip of tuples -/
namespace Tk
open PySem PySem.Spec PyProof.Rows L2 Ts
def TSetO (P : Program) (w : World) (a : Addr) (S : List Str) : HO := .ext fun h => TSet P w h a S
theorem tset_ok {P : Program} {w : World} {H : Hp} {h : Heap} {a : Addr} {S : List Str} (R : TSet P w h a S) : ObjOk P w H h a (TSetO P w a S) :=
  ⟨R, by obtain ⟨o, _, _, _, r⟩ := R; exact ⟨o, r.at_⟩, fun _ _ p k => TSet.keep p k⟩
section
variable {X : Cx} {K : PySem.W.Frag}
theorem tset_get {pn : List (Addr × Obj)} {σ : L2.St} {H : Hp} {s : Shared} {a : Addr} {S : List Str} (I : Inv X pn σ H s) (e : H a = some (TSetO X.prog X.w a S)) : TSet X.prog X.w s.heap a S := (I.hok a _ e).1
def rSetX (K : PySem.W.Frag) (P : Program) (w : World) : List V → Hp → VK → Prop := fun vs H Q => ∃ (l : Addr) (xs : List Str), vs = [.ref l] ∧ (SqL K H l (xs.map V.str) ∨ SqT K H l (xs.map V.str)) ∧ xs.length ≤ 4000 ∧ ∀ p, H p = none → Q (.ref p) (upd H p (TSetO P w p (gather xs.reverse)))
theorem k_setX (hc : X.calm = true) (e : X.K = K := by rfl) : CallR X (.type "set") (rSetX K X.prog X.w) := by
  subst e
  intro pn s σ H vs us Q I r h
  obtain ⟨l, xs, rfl, hq, hl, q⟩ := h
  rw [Vals.ref1 r]
  have sb : xs.length + 1 < scanBound := by unfold scanBound; omega
  have go : ∀ (h' : Heap) (tk : Nat), TSet X.prog X.w h' s.heap.objs.size (gather xs.reverse) → (∀ b o, s.heap.get? b = some o → h'.get? b = some o) → (fun v s' => EP X pn σ Q v s') (.ref s.heap.objs.size) { s with heap := h', toks := tk } := fun h' tk R k =>
    ⟨.ref _, upd H s.heap.objs.size (TSetO X.prog X.w s.heap.objs.size (gather xs.reverse)), I.laid (t' := tk) k (Nat.le_refl _) (tset_ok R), rfl, q _ (I.hok.fresh (Nat.le_refl _))⟩
  rcases hq with hq | hq
  · obtain ⟨its, rv, pl, _⟩ := I.list hq
    exact set_list (I.ok.hd hc) pl.isList (by simpa using strsAre_of rv) sb go
  · obtain ⟨its, rv, pl, _⟩ := I.tuple hq
    exact set_tuple (I.ok.hd hc) pl (by simpa using strsAre_of rv) sb go
def rSortX (P : Program) (w : World) : List V → Hp → VK → Prop := fun vs H Q => ∃ (a : Addr) (S : List Str), vs = [.ref a] ∧ H a = some (TSetO P w a S) ∧ S.length < 64 ∧ ∀ ys p, ys.Perm S → sortedS ys = true → H p = none → Q (.ref p) (upd H p (.lst (ys.map V.str)))
theorem k_sortX (hc : X.calm = true) : CallR X (.builtin "sorted") (rSortX X.prog X.w) := by
  intro pn s σ H vs us Q I r h
  obtain ⟨a, S, rfl, ha, few, q⟩ := h
  rw [Vals.ref1 r]
  refine sorted_txt (tset_get I ha) (I.ok.hd hc) few fun t p out c ys k g o hp at_ hs pm srt => ?_
  have hn : H p = none := I.hok.fresh hp
  have hlen : (ys.map V.str).length ≤ sizeLine := by
    rw [List.length_map, pm.length_eq, sizeLine_eq]
    omega
  have J : Inv X pn σ (upd H p (.lst (ys.map V.str))) { s with heap := t.heap, gens := t.gens, drawn := t.drawn, toks := t.toks } :=
    I.call (ch := []) (Un.laid k hp hn) (I.hok.laid k hp ⟨hlen, out.toList, c, vals_of_strs hs, at_⟩) (by rw [g]; exact I.bare) (fun _ z => nomatch z)
  have e : t = { s with heap := t.heap, gens := t.gens, drawn := t.drawn, toks := t.toks } := by
    obtain ⟨a1, a2, a3, a4, a5⟩ := t
    obtain rfl : a5 = s.os := o
    rfl
  rw [e]
  exact ⟨.ref p, _, J, rfl, q ys p pm srt hn⟩
def rLenX (P : Program) (w : World) : List V → Hp → VK → Prop := fun vs H Q => ∃ (a : Addr) (S : List Str), vs = [.ref a] ∧ H a = some (TSetO P w a S) ∧ Q (.int (S.length : Nat)) H
theorem k_lenX : CallR X (.builtin "len") (rLenX X.prog X.w) := by
  intro pn s σ H vs us Q I r h
  obtain ⟨a, S, rfl, ha, q⟩ := h
  rw [Vals.ref1 r]
  obtain ⟨ob, rows, ep, tb, R⟩ := tset_get I ha
  have sz := R.size
  have fw := R.few
  refine call_len_set R.at_ R.ex R.dat R.fits (by unfold scanBound at fw; omega) ⟨.int (S.length : Nat), H, I.tok _, ⟨_, by rw [sz]⟩, q⟩
end
section
variable {K : PySem.W.Frag} {P : Program} {w : World} {H : Hp} {Q : VK} {l : Addr} {xs S : List Str}
theorem r_setXL (h : H l = some (.lst (xs.map V.str))) (hl : xs.length ≤ 4000) (q : ∀ p H2, H p = none → Same H H2 → H2 p = some (TSetO P w p (gather xs.reverse)) → Q (.ref p) H2) : rSetX K P w [.ref l] H Q := ⟨l, xs, rfl, .inl (SqL.of h), hl, fun p hp => q p _ hp (Same.new hp) upd_same⟩
theorem r_setXT (h : H l = some (.tup (xs.map V.str))) (hl : xs.length ≤ 4000) (q : ∀ p H2, H p = none → Same H H2 → H2 p = some (TSetO P w p (gather xs.reverse)) → Q (.ref p) H2) : rSetX K P w [.ref l] H Q := ⟨l, xs, rfl, .inr (SqT.of h), hl, fun p hp => q p _ hp (Same.new hp) upd_same⟩
theorem r_sortX {a : Addr} (h : H a = some (TSetO P w a S)) (hl : S.length < 64) (q : ∀ ys p H2, ys.Perm S → sortedS ys = true → H p = none → Same H H2 → H2 p = some (.lst (ys.map V.str)) → Q (.ref p) H2) : rSortX P w [.ref a] H Q := ⟨a, S, rfl, h, hl, fun ys p pm st hp => q ys p _ pm st hp (Same.new hp) upd_same⟩
end
/-! ### ascending texts -/
def ltS (x y : Str) : Prop := x.cps.toList < y.cps.toList
instance (x y : Str) : Decidable (ltS x y) := inferInstanceAs (Decidable (x.cps.toList < y.cps.toList))
theorem ltS_irr (x : Str) : ¬ ltS x x := fun h => absurd h (by simp [ltS])
theorem ltS_tr {x y z : Str} (a : ltS x y) (b : ltS y z) : ltS x z := List.lt_trans a b
theorem ltS_tot {x y : Str} (a : ¬ ltS x y) (b : ¬ ltS y x) : x = y := TL.ext_tl (List.le_antisymm (List.not_lt.mp b) (List.not_lt.mp a))
/-- each one less than the next one -/
def ascB : List Str → Bool
  | [] => true
  | [_] => true
  | x :: y :: r => decide (ltS x y) && ascB (y :: r)
theorem asc_pair : ∀ {l : List Str}, ascB l = true ↔ l.Pairwise ltS
  | [] => by simp [ascB]
  | [x] => by simp [ascB]
  | x :: y :: r => by
    rw [ascB, Bool.and_eq_true, decide_eq_true_eq, asc_pair (l := y :: r)]
    constructor
    · rintro ⟨h1, h2⟩
      refine List.pairwise_cons.mpr ⟨fun z hz => ?_, h2⟩
      rcases List.mem_cons.mp hz with rfl | hz
      · exact h1
      · exact ltS_tr h1 ((List.pairwise_cons.mp h2).1 z hz)
    · intro h
      obtain ⟨h1, h2⟩ := List.pairwise_cons.mp h
      exact ⟨h1 y List.mem_cons_self, h2⟩
theorem sorted_pair : ∀ {l : List Str}, sortedS l = true → l.Pairwise fun x y => ¬ ltS y x
  | [], _ => .nil
  | [x], _ => List.pairwise_singleton _ x
  | x :: y :: r, h => by
    have h : (!ltCps y.cps.toList x.cps.toList && risingS y r) = true := h
    rw [Bool.and_eq_true, Bool.not_eq_true', ltCps_eq, decide_eq_false_iff_not] at h
    have t := sorted_pair (l := y :: r) h.2
    refine List.pairwise_cons.mpr ⟨fun z hz => ?_, t⟩
    rcases List.mem_cons.mp hz with rfl | hz
    · exact h.1
    · intro c
      have n := (List.pairwise_cons.mp t).1 z hz
      by_cases yz : ltS y z
      · exact h.1 (ltS_tr yz c)
      · have e : y = z := ltS_tot yz n
        rw [← e] at c
        exact h.1 c
theorem nodup_gather : ∀ (l : List Str), (gather l).Nodup
  | [] => .nil
  | x :: l => by
    rw [gather]
    unfold addT
    split
    · exact nodup_gather l
    · rename_i h
      exact List.nodup_cons.mpr ⟨h, nodup_gather l⟩
theorem sorted_nodup {l : List Str} (h : sortedS l = true) (n : l.Nodup) : l.Pairwise ltS := by
  have p := sorted_pair h
  have q : l.Pairwise fun x y => ¬ ltS y x ∧ x ≠ y := List.Pairwise.and p n
  exact q.imp fun {x y} ⟨a, b⟩ => Classical.byContradiction fun c => b (ltS_tot c a)
/-- sorted(set(xs)) == xs where xs ascends -/
theorem asc_sorted {xs ys : List Str} (pm : ys.Perm (gather xs.reverse)) (st : sortedS ys = true) : decide (xs = ys) = ascB xs := by
  have ny : ys.Nodup := pm.nodup_iff.mpr (nodup_gather _)
  have ay := sorted_nodup st ny
  by_cases h : ascB xs = true
  · rw [h, decide_eq_true_eq]
    have ax := asc_pair.mp h
    have nx : xs.Nodup := List.Pairwise.imp (S := fun x y => x ≠ y) (fun {x y} (l : ltS x y) (e : x = y) => ltS_irr x (by rw [← e] at l; exact l)) ax
    have p2 : xs.Perm ys := (List.perm_ext_iff_of_nodup nx ny).mpr fun z => by rw [pm.mem_iff, gather_mem, List.mem_reverse]
    exact List.Perm.eq_of_pairwise (le := ltS) (fun x y _ _ a b => absurd (ltS_tr a b) (ltS_irr x)) ax ay p2
  · rw [Bool.not_eq_true] at h
    rw [h, decide_eq_false_iff_not]
    intro e
    rw [← e] at ay
    rw [asc_pair.mpr ay] at h
    cases h
theorem strs_data {K : PySem.W.Frag} {H : Hp} : ∀ (xs : List Str), DdAll K H (xs.map V.str) (xs.map PyData.str)
  | [] => .nil
  | x :: xs => .cons (.str x) (strs_data xs)
theorem strs_plain (xs : List Str) : PyData.plainAll (xs.map PyData.str) = true := by
  induction xs with
  | nil => rfl
  | cons x xs ih =>
    rw [List.map_cons, PyData.plainAll, ih]
    rfl
theorem strs_depth (xs : List Str) : PyData.depthAll (xs.map PyData.str) = 0 := by
  induction xs with
  | nil => rfl
  | cons x xs ih =>
    rw [List.map_cons, PyData.depthAll, ih]
    rfl
theorem strs_eqv : ∀ (xs ys : List Str), PyData.eqvAll (xs.map PyData.str) (ys.map PyData.str) = decide (xs = ys)
  | [], [] => rfl
  | [], y :: ys => by simp [PyData.eqvAll]
  | x :: xs, [] => by simp [PyData.eqvAll]
  | x :: xs, y :: ys => by
    rw [List.map_cons, List.map_cons, PyData.eqvAll, strs_eqv xs ys, PyData.eqv]
    by_cases h : x = y
    · subst h
      simp
    · have b : (x == y) = false := beq_eq_false_iff_ne.mpr h
      simp [h, b]
/-! ### written tables: a dict from texts to tuples of texts -/
def RowAt (K : PySem.W.Frag) (P : Params) (e : DictEntry) (r : Str × List Str) : Prop := (∃ t, e.key = .str r.1 t ∧ e.hash = PyData.keyHash P r.1) ∧ ∃ (b : Addr), e.val = .ref b ∧ ∃ (o : Obj) (its : Array Value) (n : Nat), K.lookup b = some o ∧ o.cls = .type "tuple" ∧ o.data = .seq its n ∧ its.size ≤ sizeLine ∧ StrsAre its.toList r.2
inductive RowsAt (K : PySem.W.Frag) (P : Params) : List DictEntry → List (Str × List Str) → Prop
  | nil : RowsAt K P [] []
  | cons {e : DictEntry} {es : List DictEntry} {r : Str × List Str} {rs : List (Str × List Str)} : RowAt K P e r → RowsAt K P es rs → RowsAt K P (e :: es) (r :: rs)
def TabK (K : PySem.W.Frag) (P : Params) (D : Addr) (rows : List (Str × List Str)) : Prop := ∃ es n, K.lookup D = some ⟨.type "dict", none, .dict es n, #[]⟩ ∧ (D == sysModules) = false ∧ RowsAt K P es.toList rows
theorem rows_lit {K : PySem.W.Frag} {P : Params} : ∀ {es : List DictEntry} {rows : List (Str × List Str)}, RowsAt K P es rows → PySem.W.KeysLit P es
  | _, _, .nil => trivial
  | _, _, .cons h t => ⟨⟨_, h.1⟩, rows_lit t⟩
theorem vals_strs : ∀ {us : List Value} {xs : List Str}, StrsAre us xs → Vals (xs.map V.str) us
  | _, _, .nil => .nil
  | _, _, .cons x t h => .cons ⟨t, rfl⟩ (vals_strs h)
theorem rows_find {K : PySem.W.Frag} {P : Params} {x : Str} : ∀ {es : List DictEntry} {rows : List (Str × List Str)}, RowsAt K P es rows →
    (∃ f e b, rows.lookup x = some f ∧ es.find? (fun d => Value.isStrOf x d.key) = some e ∧ e.val = .ref b ∧ ∀ H, SqT K H b (f.map V.str)) ∨ (rows.lookup x = none ∧ es.find? (fun d => Value.isStrOf x d.key) = none)
  | _, _, .nil => .inr ⟨rfl, rfl⟩
  | _, _, .cons (e := e) (r := r) (es := es) (rs := rs) h t => by
    obtain ⟨⟨tk, k1, _⟩, b, k2, o, its, n, l1, l2, l3, l4, l5⟩ := h
    obtain ⟨y, f⟩ := r
    have ky : Value.isStrOf x e.key = decide (x = y) := by
      rw [k1]
      show (y == x) = _
      by_cases z : x = y
      · rw [decide_eq_true z, z]; exact beq_self_eq_true y
      · rw [decide_eq_false z]; exact beq_eq_false_iff_ne.mpr fun q => z q.symm
    by_cases z : x = y
    · subst z
      refine .inl ⟨f, e, b, by simp [List.lookup], by rw [List.find?_cons, ky]; simp, k2, fun H => .inr ⟨o, its, n, l1, l2, l3, l4, vals_strs l5⟩⟩
    · have n1 : ((y, f) :: rs).lookup x = rs.lookup x := by
        have : (x == y) = false := beq_eq_false_iff_ne.mpr z
        simp [List.lookup, this]
      have n2 : (e :: es).find? (fun d => Value.isStrOf x d.key) = es.find? (fun d => Value.isStrOf x d.key) := by
        rw [List.find?_cons, ky, decide_eq_false z]
      rw [n1, n2]
      exact rows_find t
theorem tab_find {K : PySem.W.Frag} {P : Params} {D : Addr} {rows : List (Str × List Str)} {es : Array DictEntry} (R : RowsAt K P es.toList rows) (x : Str) : (∃ f b, rows.lookup x = some f ∧ findBy Value.isStrOf es x = some (.ref b) ∧ ∀ H, SqT K H b (f.map V.str)) ∨ (rows.lookup x = none ∧ findBy Value.isStrOf es x = none) := by
  obtain ⟨l⟩ := es
  unfold findBy
  rw [List.find?_toArray]
  rcases rows_find (x := x) R with ⟨f, e, b, h1, h2, h3, h4⟩ | ⟨h1, h2⟩
  · exact .inl ⟨f, b, h1, by rw [h2, ← h3]; rfl, h4⟩
  · exact .inr ⟨h1, by rw [h2]; rfl⟩
def rTabNot (K : PySem.W.Frag) (P : Params) : R2 := fun x y H Q => ∃ D rows z, x = .str z ∧ y = .ref D ∧ TabK K P D rows ∧ Q (.bl (rows.lookup z).isNone) H
def rTabIx (K : PySem.W.Frag) (P : Params) : R2 := fun x y H Q => ∃ D rows z f, x = .ref D ∧ y = .str z ∧ TabK K P D rows ∧ rows.lookup z = some f ∧ ∀ b, (∀ H', SqT K H' b (f.map V.str)) → Q (.ref b) H
section
variable {X : Cx} {K : PySem.W.Frag} {P : Params}
theorem k_tabNot (e : X.K = K := by rfl) (e2 : X.w.params = P := by rfl) : OpR X (compareOp .NotIn) (rTabNot K P) := by
  subst e e2
  intro pn s σ H x y v u Q I rx ry h
  obtain ⟨D, rows, z, rfl, rfl, ⟨es, n, hl, lo, R⟩, q⟩ := h
  obtain ⟨t, rfl⟩ := (show ∃ t, v = Value.str z t from rx)
  obtain rfl : u = Value.ref D := ry
  have hm := PySem.W.mapOf_K (prog := X.prog) (w := X.w) I.kIn hl (rows_lit R)
  refine wpAny_notIn_of (strKind_is X.prog X.w z t) lo hm ?_
  rcases tab_find (D := D) R z with ⟨f, b, h1, h2, _⟩ | ⟨h1, h2⟩
  · rw [h1] at q
    rw [h2]
    exact ⟨.bl false, H, I.tok _, rfl, q⟩
  · rw [h1] at q
    rw [h2]
    exact ⟨.bl true, H, I.tok _, rfl, q⟩
theorem k_tabIx (e : X.K = K := by rfl) (e2 : X.w.params = P := by rfl) : IxR X (rTabIx K P) := by
  subst e e2
  intro value slice pn s σ H x y v u Q I rx ry h hs
  obtain ⟨D, rows, z, f, rfl, rfl, ⟨es, n, hl, lo, R⟩, hf, q⟩ := h
  obtain ⟨t, rfl⟩ := (show ∃ t, u = Value.str z t from ry)
  obtain rfl : v = Value.ref D := rx
  have hm := PySem.W.mapOf_K (prog := X.prog) (w := X.w) I.kIn hl (rows_lit R)
  rcases tab_find (D := D) R z with ⟨f', b, h1, h2, h3⟩ | ⟨h1, h2⟩
  · rw [hf] at h1
    cases h1
    exact tail_any hm.typeIs slot_dict_getitem.lookup (wpAny_getItem_of (strKind_is X.prog X.w z t) hm h2 ⟨.ref b, H, I.tok _, rfl, q b h3⟩) hs
  · rw [hf] at h1
    cases h1
end
/-! ### zip of two tuples -/
theorem walk_zipT {K : PySem.W.Frag} {a b : Addr} {xs ys : List V} {n : Nat} (hn : n = min xs.length ys.length) : Walk (RZ.ItzT K a b) n (fun H => SqT K H a xs ∧ SqT K H b ys) (YPair (fun i => xs[i]?) (fun i => ys[i]?)) := by
  subst hn
  constructor
  · intro i H hi q
    exact ⟨xs, ys, xs[i]'(by omega), ys[i]'(by omega), q.1, q.2, List.getElem?_eq_getElem _, List.getElem?_eq_getElem _⟩
  · exact fun H q => ⟨xs, ys, q.1, q.2, by omega⟩
  · rintro i H v H' _ q ⟨T, x, z, h1, h2, h3, h4, h5⟩
    exact ⟨T, x, z, h1, h2, h3, h4 xs q.1, h5 ys q.2⟩
theorem k_zipA {X : Cx} {K : PySem.W.Frag} {e1 e2 : Expr} {ta : TA} {p pos tpos : Pos} {elts : List Expr} {kk : Nat} (hg : Gl X "zip") (hm : X.mg "zip" = none) (ha : PA X [e1, e2] ta) (e : X.K = K := by rfl)
    (hs : starEach [e1, e2] X.env = (false, eval e1 X.env) :: starEach [e2] X.env := by rfl) (hpl : (backTo pos (starEach [e2] X.env)).any (·.1) = false := by rfl) : PI X (.Tuple elts kk tpos) (.Call (.Name "zip" p) [e1, e2] [] pos) (RZ.iZipA K ta) := by
  subst e
  exact RZ.pi_zipA hg hm ha hs hpl
end Tk

set_option Elab.async false
set_option linter.all false
set_option maxRecDepth 100000
set_option maxHeartbeats 4000000
/-! data whose text is short and plain -/
namespace Tk
open PySem PySem.Spec PyProof.Rows L2
def shownS (x : Str) : Bool := x.cps.toList.all shownB
mutual
/-- no dicts, texts of signs from space to tilde, numbers that are not great -/
def tame : PyData → Bool
  | .none => true
  | .bool _ => true
  | .int i => decide (i = -1) || (decide (0 ≤ i) && decide (i < 10000000000000000))
  | .str x => shownS x
  | .list xs => tameAll xs
  | .tuple xs => tameAll xs
  | .dict _ => false
def tameAll : List PyData → Bool
  | [] => true
  | x :: xs => tame x && tameAll xs
end
mutual
/-- at least the length of its text -/
def wt : PyData → Nat
  | .none => 4
  | .bool _ => 5
  | .int _ => 17
  | .str x => 2 * x.length + 2
  | .list xs => wtAll xs + 2
  | .tuple xs => wtAll xs + 3
  | .dict _ => 2
def wtAll : List PyData → Nat
  | [] => 0
  | x :: xs => (wt x + 2) + wtAll xs
end
theorem shownS_cat {x y : Str} : shownS (x ++ y) = (shownS x && shownS y) := by
  unfold shownS
  rw [show (x ++ y).cps.toList = x.cps.toList ++ y.cps.toList from TL.tl_append x y, List.all_append]
theorem chars_ok : ((List.range 127).filter fun c => decide (32 ≤ c)).all (fun c => [34, 39].all fun q => ((Builtin.Str.reprChar q c).all shownB && decide ((Builtin.Str.reprChar q c).length ≤ 2))) = true := by decide +kernel
theorem char_ok {q c : Nat} (hq : q = 34 ∨ q = 39) (hc : shownB c = true) : (∀ x ∈ Builtin.Str.reprChar q c, shownB x = true) ∧ (Builtin.Str.reprChar q c).length ≤ 2 := by
  unfold shownB at hc
  rw [Bool.and_eq_true, decide_eq_true_eq, decide_eq_true_eq] at hc
  have m : c ∈ (List.range 127).filter fun c => decide (32 ≤ c) := List.mem_filter.mpr ⟨List.mem_range.mpr (by omega), decide_eq_true hc.1⟩
  have h := List.all_eq_true.mp chars_ok c m
  have h2 := List.all_eq_true.mp h q (by rcases hq with rfl | rfl <;> simp)
  rw [Bool.and_eq_true, decide_eq_true_eq] at h2
  exact ⟨fun x hx => List.all_eq_true.mp h2.1 x hx, h2.2⟩
theorem quote_ok (x : Str) : reprQuote x = 34 ∨ reprQuote x = 39 := by
  unfold reprQuote
  split
  · exact .inl rfl
  · exact .inr rfl
theorem fold_ok {q : Nat} (hq : q = 34 ∨ q = 39) : ∀ (l : List Nat) (acc : Array Nat), l.all shownB = true → acc.toList.all shownB = true →
    ((l.foldl (fun out c => out ++ (Builtin.Str.reprChar q c).toArray) acc).toList.all shownB = true ∧ (l.foldl (fun out c => out ++ (Builtin.Str.reprChar q c).toArray) acc).size ≤ acc.size + 2 * l.length)
  | [], acc, _, h => ⟨h, by simp⟩
  | c :: l, acc, hl, h => by
    rw [List.all_cons, Bool.and_eq_true] at hl
    obtain ⟨k1, k2⟩ := char_ok hq hl.1
    have ih := fold_ok hq l (acc ++ (Builtin.Str.reprChar q c).toArray) hl.2 (by rw [Array.toList_append, List.all_append, h]; exact List.all_eq_true.mpr (by simpa using k1))
    refine ⟨ih.1, Nat.le_trans ih.2 ?_⟩
    simp only [Array.size_append, List.size_toArray, List.length_cons]
    have k3 : (Builtin.Str.reprChar q c).length ≤ 2 := k2
    omega
theorem repr_ok {x : Str} (h : shownS x = true) : shownS (reprText x) = true ∧ (reprText x).length ≤ 2 * x.length + 2 := by
  have q1 : shownB (reprQuote x) = true := by rcases quote_ok x with e | e <;> rw [e] <;> rfl
  have f := fold_ok (quote_ok x) x.cps.toList #[reprQuote x] h (by simp [q1])
  unfold reprText shownS
  rw [← Array.foldl_toList]
  refine ⟨?_, ?_⟩
  · show (Array.push _ _).toList.all shownB = true
    rw [Array.toList_push, List.all_append, f.1]
    simp [q1]
  · show (Array.push _ _).size ≤ _
    rw [Array.size_push]
    have e : x.cps.toList.length = x.length := Array.length_toList
    have f2 := f.2
    rw [e] at f2
    have e1 : (#[reprQuote x] : Array Nat).size = 1 := rfl
    omega
theorem from_ok : ∀ (ts : List Str) (k : Nat) (acc : Str), shownS acc = true → (∀ t ∈ ts, shownS t = true) → shownS (textFrom k acc ts) = true ∧ (textFrom k acc ts).length ≤ acc.length + piled ts
  | [], k, acc, h, _ => ⟨h, Nat.le_add_right _ _⟩
  | t :: ts, k, acc, h, ht => by
    have h1 : shownS (acc ++ (if k > 0 then ", " else "" : String) ++ t) = true := by
      rw [shownS_cat, shownS_cat, h, ht t List.mem_cons_self]
      split <;> rfl
    have l1 : (acc ++ (if k > 0 then ", " else "" : String) ++ t).length ≤ acc.length + 2 + t.length := by
      rw [strLen_append, strLen_append]
      split
      · exact Nat.le_refl _
      · show acc.length + 0 + t.length ≤ _
        omega
    have ih := from_ok ts (k + 1) _ h1 fun y hy => ht y (List.mem_cons_of_mem _ hy)
    refine ⟨ih.1, Nat.le_trans ih.2 ?_⟩
    rw [piled_cons]
    omega
theorem join_ok : ∀ (ts : List Str), (∀ t ∈ ts, shownS t = true) → shownS (Str.join ", " ts) = true ∧ (Str.join ", " ts).length ≤ piled ts
  | [], _ => ⟨rfl, Nat.le_refl _⟩
  | [x], h => ⟨h x List.mem_cons_self, by show x.length ≤ _; rw [piled_cons]; omega⟩
  | x :: y :: r, h => by
    have ih := join_ok (y :: r) fun t ht => h t (List.mem_cons_of_mem _ ht)
    refine ⟨?_, ?_⟩
    · show shownS (x ++ ", " ++ Str.join ", " (y :: r)) = true
      rw [shownS_cat, shownS_cat, h x List.mem_cons_self, ih.1]
      rfl
    · show (x ++ ", " ++ Str.join ", " (y :: r)).length ≤ _
      rw [strLen_append, strLen_append, piled_cons]
      have e : ((", " : String) : Str).length = 2 := rfl
      have := ih.2
      omega
theorem int_ok {i : Int} (h : (decide (i = -1) || (decide (0 ≤ i) && decide (i < 10000000000000000))) = true) : shownS (toString i : String) = true ∧ (Str.ofString (toString i)).length ≤ 17 ∧ i.natAbs.log2 < 1920 := by
  rw [Bool.or_eq_true, decide_eq_true_eq, Bool.and_eq_true, decide_eq_true_eq, decide_eq_true_eq] at h
  rcases h with rfl | ⟨h0, h1⟩
  · exact ⟨by decide +kernel, by decide +kernel, by decide⟩
  · obtain ⟨n, rfl⟩ := Int.eq_ofNat_of_zero_le h0
    have e : (Str.ofString (toString ((n : Nat) : Int))).cps.toList = TL.numL n := TL.tl_num n
    refine ⟨?_, ?_, Nat.lt_of_lt_of_le (PySem.Flt.log2_lt_of (k := 60) (by decide) (by show ((n : Nat) : Int).natAbs < 2 ^ 60; omega)) (by decide)⟩
    · unfold shownS
      rw [e]
      refine List.all_eq_true.mpr fun c hc => ?_
      have := TL.numL_digits n c hc
      unfold shownB
      rw [Bool.and_eq_true, decide_eq_true_eq, decide_eq_true_eq]
      omega
    · have l := TL.numL_len (n := n) (k := 16) (by decide) (by omega)
      rw [← e, Array.length_toList] at l
      exact Nat.le_trans l (by decide)
theorem piled_wt : ∀ {ds : List PyData}, (∀ d ∈ ds, d.shown.length ≤ wt d) → piled (PyData.shownAll ds) ≤ wtAll ds
  | [], _ => Nat.le_refl _
  | d :: ds, h => by
    have ih := piled_wt (ds := ds) fun x hx => h x (List.mem_cons_of_mem _ hx)
    have := h d List.mem_cons_self
    rw [PyData.shownAll, piled_cons, wtAll]
    omega
theorem list_ok {ts : List Str} (h : ∀ t ∈ ts, shownS t = true) : shownS (listText ts) = true ∧ (listText ts).length ≤ piled ts + 2 := by
  have f := from_ok ts 0 "[" rfl h
  refine ⟨?_, ?_⟩
  · show shownS (textFrom 0 "[" ts ++ "]") = true
    rw [shownS_cat, f.1]
    rfl
  · show (textFrom 0 "[" ts ++ "]").length ≤ _
    rw [strLen_append]
    have e1 : (("[" : String) : Str).length = 1 := rfl
    have e2 : (("]" : String) : Str).length = 1 := rfl
    have := f.2
    omega
theorem tuple_ok {ts : List Str} (h : ∀ t ∈ ts, shownS t = true) : shownS (tupleText ts) = true ∧ (tupleText ts).length ≤ piled ts + 3 := by
  have f := join_ok ts h
  unfold tupleText
  have e1 : (("(" : String) : Str).length = 1 := rfl
  refine ⟨?_, ?_⟩
  · rw [shownS_cat, shownS_cat, f.1]
    split <;> rfl
  · rw [strLen_append, strLen_append]
    have := f.2
    have e2 : ((if ts.length == 1 then ",)" else ")" : String) : Str).length ≤ 2 := by split <;> decide
    omega
mutual
theorem shown_ok : ∀ (d : PyData), tame d = true → shownS d.shown = true ∧ d.shown.length ≤ wt d ∧ d.showable = true ∧ d.hasDict = false ∧ d.plain = true
  | .none, _ => ⟨by decide +kernel, by decide, rfl, rfl, rfl⟩
  | .bool b, _ => by cases b <;> exact ⟨by decide +kernel, by decide, rfl, rfl, rfl⟩
  | .int i, h => by
    obtain ⟨h1, h2, h3⟩ := int_ok h
    exact ⟨h1, h2, decide_eq_true h3, rfl, rfl⟩
  | .str x, h => by
    obtain ⟨h1, h2⟩ := repr_ok h
    exact ⟨h1, h2, rfl, rfl, rfl⟩
  | .list xs, h => by
    obtain ⟨h1, h2, h3, h4, h5⟩ := shown_all xs h
    obtain ⟨k1, k2⟩ := list_ok h1
    exact ⟨k1, by show (listText (PyData.shownAll xs)).length ≤ wtAll xs + 2; omega, h3, h4, h5⟩
  | .tuple xs, h => by
    obtain ⟨h1, h2, h3, h4, h5⟩ := shown_all xs h
    obtain ⟨k1, k2⟩ := tuple_ok h1
    exact ⟨k1, by show (tupleText (PyData.shownAll xs)).length ≤ wtAll xs + 3; omega, h3, h4, h5⟩
  | .dict _, h => nomatch h
theorem shown_all : ∀ (ds : List PyData), tameAll ds = true → (∀ t ∈ PyData.shownAll ds, shownS t = true) ∧ piled (PyData.shownAll ds) ≤ wtAll ds ∧ PyData.showableAll ds = true ∧ PyData.hasDictAll ds = false ∧ PyData.plainAll ds = true
  | [], _ => ⟨(fun t h => by cases h), Nat.le_refl _, rfl, rfl, rfl⟩
  | d :: ds, h => by
    have h : (tame d && tameAll ds) = true := h
    rw [Bool.and_eq_true] at h
    obtain ⟨a1, a2, a3, a4, a5⟩ := shown_ok d h.1
    obtain ⟨b1, b2, b3, b4, b5⟩ := shown_all ds h.2
    refine ⟨fun t ht => ?_, ?_, ?_, ?_, ?_⟩
    · rcases List.mem_cons.mp ht with rfl | ht
      · exact a1
      · exact b1 t ht
    · rw [PyData.shownAll, piled_cons, wtAll]
      omega
    · rw [PyData.showableAll, a3, b3]; rfl
    · rw [PyData.hasDictAll, a4, b4]; rfl
    · rw [PyData.plainAll, a5, b5]; rfl
end
theorem len_wt : ∀ (ds : List PyData), 2 * ds.length ≤ wtAll ds
  | [] => Nat.le_refl _
  | d :: ds => by
    have := len_wt ds
    rw [List.length_cons, wtAll]
    omega
mutual
theorem okD_wt : ∀ (d : PyData), wt d ≤ 100000 → okD d
  | .none, _ => trivial
  | .bool _, _ => trivial
  | .int _, _ => trivial
  | .str x, h => by
    have h : 2 * x.length + 2 ≤ 100000 := h
    show x.length ≤ 100000
    omega
  | .list xs, h => by
    have h : wtAll xs + 2 ≤ 100000 := h
    have := len_wt xs
    exact ⟨by omega, okAll_wt xs (by omega)⟩
  | .tuple xs, h => by
    have h : wtAll xs + 3 ≤ 100000 := h
    have := len_wt xs
    exact ⟨by omega, okAll_wt xs (by omega)⟩
  | .dict _, _ => trivial
theorem okAll_wt : ∀ (ds : List PyData), wtAll ds ≤ 100000 → okAll ds
  | [], _ => trivial
  | d :: ds, h => by
    rw [wtAll] at h
    exact ⟨okD_wt d (by omega), okAll_wt ds (by omega)⟩
end
/-- short and plain -/
structure Good (d : PyData) : Prop where
  tame : tame d = true
  wt : wt d ≤ 20000
  deep : d.depth ≤ 50
theorem Good.ok {d : PyData} (g : Good d) : okD d := okD_wt d (Nat.le_trans g.wt (by decide))
theorem Good.shows {d : PyData} (g : Good d) : Shows d := by
  obtain ⟨h1, h2, h3, h4, h5⟩ := shown_ok d g.tame
  exact ⟨.inl h4, h3, Nat.le_trans h2 (Nat.le_trans g.wt (by decide)), Nat.le_trans g.deep (by decide)⟩
theorem Good.plain {d : PyData} (g : Good d) : d.plain = true := (shown_ok d g.tame).2.2.2.2
/-- its text, within a list -/
theorem Good.told {d : PyData} (g : Good d) : Shows (.list [.str d.shown, .bool true]) := by
  obtain ⟨h1, h2, _⟩ := shown_ok d g.tame
  have t : Tk.tame (.list [.str d.shown, .bool true]) = true := by
    show (shownS d.shown && (true && true)) = true
    rw [h1]
    rfl
  obtain ⟨_, k2, k3, k4, _⟩ := shown_ok _ t
  have w : Tk.wt (.list [.str d.shown, .bool true]) = ((2 * d.shown.length + 2) + 2 + ((5 + 2) + 0)) + 2 := rfl
  have := g.wt
  exact ⟨.inl k4, k3, by omega, by show max 0 (max 0 0) + 1 ≤ 60; decide⟩
theorem tameAll_iff : ∀ {ds : List PyData}, tameAll ds = true ↔ ∀ d ∈ ds, tame d = true
  | [] => by simp [tameAll]
  | d :: ds => by
    rw [tameAll, Bool.and_eq_true, tameAll_iff (ds := ds)]
    simp
theorem wtAll_le {n : Nat} : ∀ {ds : List PyData}, (∀ d ∈ ds, wt d ≤ n) → wtAll ds ≤ ds.length * (n + 2)
  | [], _ => by simp [wtAll]
  | d :: ds, h => by
    have ih := wtAll_le (ds := ds) fun x hx => h x (List.mem_cons_of_mem _ hx)
    have := h d List.mem_cons_self
    rw [wtAll, List.length_cons, Nat.succ_mul]
    omega
theorem depthAll_le {n : Nat} : ∀ {ds : List PyData}, (∀ d ∈ ds, d.depth ≤ n) → PyData.depthAll ds ≤ n
  | [], _ => Nat.zero_le _
  | d :: ds, h => by
    have ih := depthAll_le (ds := ds) fun x hx => h x (List.mem_cons_of_mem _ hx)
    have := h d List.mem_cons_self
    rw [PyData.depthAll]
    omega
/-- an item: short -/
structure Itm (d : PyData) : Prop where
  tame : tame d = true
  wt : wt d ≤ 120
  deep : d.depth ≤ 3
theorem good_tuple {ds : List PyData} (h : ∀ d ∈ ds, Itm d) (hl : ds.length ≤ 60) : Good (.tuple ds) := by
  have a := wtAll_le fun d hd => (h d hd).wt
  have b := depthAll_le fun d hd => (h d hd).deep
  have m := Nat.mul_le_mul_right (120 + 2) hl
  exact ⟨tameAll_iff.mpr fun d hd => (h d hd).tame, by show wtAll ds + 3 ≤ _; omega, by show PyData.depthAll ds + 1 ≤ _; omega⟩
theorem good_list {ds : List PyData} (h : ∀ d ∈ ds, Itm d) (hl : ds.length ≤ 60) : Good (.list ds) := by
  have a := wtAll_le fun d hd => (h d hd).wt
  have b := depthAll_le fun d hd => (h d hd).deep
  have m := Nat.mul_le_mul_right (120 + 2) hl
  exact ⟨tameAll_iff.mpr fun d hd => (h d hd).tame, by show wtAll ds + 2 ≤ _; omega, by show PyData.depthAll ds + 1 ≤ _; omega⟩
theorem Itm.good {d : PyData} (i : Itm d) : Good d := ⟨i.tame, Nat.le_trans i.wt (by decide), Nat.le_trans i.deep (by decide)⟩
/-- by counting -/
def itmB (d : PyData) : Bool := tame d && (decide (wt d ≤ 120) && decide (d.depth ≤ 3))
theorem itm_of {d : PyData} (h : itmB d = true) : Itm d := by
  unfold itmB at h
  rw [Bool.and_eq_true, Bool.and_eq_true, decide_eq_true_eq, decide_eq_true_eq] at h
  exact ⟨h.1, h.2.1, h.2.2⟩
theorem itm_all {ds : List PyData} (h : ds.all itmB = true) {d : PyData} (m : d ∈ ds) : Itm d := itm_of (List.all_eq_true.mp h d m)
end Tk

set_option Elab.async false
set_option linter.all false
set_option maxRecDepth 100000
set_option maxHeartbeats 4000000
/-! events as data -/
namespace Tk
open PySem PySem.Spec PyProof.Rows L2
def indexD : PyData → Bool
  | .int i => decide (0 ≤ i) && decide (i ≤ 1000000000000000)
  | _ => false
def txtD : PyData → Str
  | .str x => x
  | _ => Str.empty
def ascD : PyData → Bool
  | .tuple ds => ds.all wordD && ascB (ds.map txtD)
  | _ => false
def kindD (k : Str) (d : PyData) : Bool :=
  if k = "word" then wordD d else if k = "value" then valueD d else if k = "number" then numD d else if k = "index" then indexD d else noneD d || ascD d
def formsT : List (Str × List Str) := [("write", ["word", "word", "value"]), ("delete", ["word", "word"]), ("pass", ["word", "number"]), ("send", ["word", "word", "keys"]), ("take", ["word", "word", "index"]), ("save", ["word"]), ("crash", ["word"]),
  ("keep", ["word", "word"]), ("restore", ["word", "word"]), ("discard", ["word", "word"]), ("forget", ["word", "word"]), ("leave", ["word"]), ("come", ["word"]), ("mute", ["word", "word"]), ("shut", ["word", "word"]), ("open", ["word", "word"]), ("drop", ["word", "word"])]
def partsD : List Str → List PyData → Bool
  | [], [] => true
  | k :: ks, d :: ds => kindD k d && partsD ks ds
  | _, _ => false
def eventD : PyData → Bool
  | .tuple (.str x :: rest) => wordS x && (match formsT.lookup x with | some f => partsD f rest | none => false)
  | _ => false
def guardD : PyData → Bool
  | .tuple (.str x :: _) => x == "open" || x == "drop"
  | _ => false
/-- no tuple of more than sixty -/
def fewD : PyData → Prop
  | .tuple es => es.length ≤ 60
  | _ => True
def fewI : PyData → Prop
  | .tuple ds => ∀ x ∈ ds, fewD x
  | _ => True
theorem few_wt {d : PyData} (h : wt d ≤ 120) : fewD d := by
  cases d with
  | tuple es =>
    have h : wtAll es + 3 ≤ 120 := h
    have := len_wt es
    show es.length ≤ 60
    omega
  | _ => trivial
theorem few_items {ds : List PyData} (h : ∀ d ∈ ds, Itm d) : fewI (.tuple ds) := fun x hx => few_wt (h x hx).wt
theorem partsD_len : ∀ {f : List Str} {ds : List PyData}, partsD f ds = true → ds.length = f.length
  | [], [], _ => rfl
  | k :: ks, d :: ds, h => by
    rw [partsD, Bool.and_eq_true] at h
    rw [List.length_cons, List.length_cons, partsD_len h.2]
  | [], _ :: _, h => nomatch h
  | _ :: _, [], h => nomatch h
theorem eventD_no {d : PyData} (h : ∀ ds, d ≠ .tuple ds) : eventD d = false := by
  cases d with
  | tuple x => exact absurd rfl (h x)
  | _ => rfl
/-- of a value: is it a word -/
def wordV : V → Bool
  | .str x => wordS x
  | _ => false
theorem wordV_is {K : PySem.W.Frag} {H : Hp} {v : V} {d : PyData} (h : Dd K H v d) : wordV v = wordD d := by
  cases h <;> rfl
theorem words_strs {K : PySem.W.Frag} {H : Hp} : ∀ {xs : List V} {ds : List PyData}, DdAll K H xs ds → ds.all wordD = true → ∃ ys : List Str, xs = ys.map V.str ∧ ds = ys.map PyData.str
  | _, _, .nil, _ => ⟨[], rfl, rfl⟩
  | _, _, .cons (v := v) (d := d) h t, a => by
    rw [List.all_cons, Bool.and_eq_true] at a
    obtain ⟨ys, e1, e2⟩ := words_strs t a.2
    cases h with
    | str x => exact ⟨x :: ys, by rw [e1]; rfl, by rw [e2]; rfl⟩
    | _ => exact absurd a.1 (by simp [wordD])
theorem words_all {K : PySem.W.Frag} {H : Hp} : ∀ {xs : List V} {ds : List PyData}, DdAll K H xs ds → xs.map wordV = ds.map wordD
  | _, _, .nil => rfl
  | _, _, .cons h t => by rw [List.map_cons, List.map_cons, words_all t, wordV_is h]
theorem txt_strs (ys : List Str) : (ys.map PyData.str).map txtD = ys := by
  rw [List.map_map]
  exact (List.map_congr_left fun _ _ => rfl).trans (List.map_id _)
/-- a comprehension over a tuple that only makes new things -/
theorem lc_tupP {K : PySem.W.Frag} {T : Addr} {xs : List V} {s : Nat} {te : TE} {σ : L2.St} {H1 : Hp} {Qd : VK} (e : H1 T = some (.tup xs)) (hn : xs.length ≤ 100000) (f : V → V)
    (he : ∀ x ∈ xs, ∀ (H2 : Hp) (R : VK), Same H1 H2 → (∀ H3, Same H2 H3 → R (f x) H3) → te (σ.set s (some x)) H2 R) (hd : ∀ (D : Addr) (H' : Hp), H1 D = none → Same H1 H' → H' D = some (.lst (xs.map f)) → Qd (.ref D) H') :
    LcG (Itt K T) (gName s) tYes te [s] σ H1 Qd := by
  refine lc_pure walk_tup (fun H' s' => SqT.of (s' _ _ e)) hn (fun _ => true) f (fun x _ H2 R s2 q => q H2 (Same.refl H2)) (fun x hx _ => he x hx) (fun D H' h0 s' e' => hd D H' h0 s' ?_)
  rw [e', filt_true]
theorem r_zipA {K : PySem.W.Frag} {ta : TA} {σ : L2.St} {H : Hp} {R : It → Hp → Prop} (h : ta σ H fun vs H1 => ∃ a b xs ys, vs = [.ref a, .ref b] ∧ ((SqL K H1 a xs ∧ SqL K H1 b ys ∧ R (Itz K a b) H1) ∨ (SqT K H1 a xs ∧ SqT K H1 b ys ∧ R (RZ.ItzT K a b) H1))) : RZ.iZipA K ta σ H R := h
/-- a comprehension over zip of two tuples of one length -/
theorem lc_zip {K : PySem.W.Frag} {a b : Addr} {xs ys : List V} {s1 s2 : Nat} (hne : s1 ≠ s2) {te : TE} {σ : L2.St} {H1 : Hp} {Qd : VK} (rs : List V) (hl : xs.length = rs.length) (hl2 : ys.length = rs.length) (hn : rs.length ≤ 100000) (ha : ∀ H', Same H1 H' → SqT K H' a xs) (hb : ∀ H', Same H1 H' → SqT K H' b ys)
    (he : ∀ (i : Nat) (x y r : V), xs[i]? = some x → ys[i]? = some y → rs[i]? = some r → ∀ (H2 : Hp) (R : VK), Same H1 H2 → (∀ H3, Same H2 H3 → R r H3) → te ((σ.set s1 (some x)).set s2 (some y)) H2 R)
    (hd : ∀ (D : Addr) (H' : Hp), H1 D = none → Same H1 H' → H' D = some (.lst rs) → Qd (.ref D) H') :
    LcG (RZ.ItzT K a b) (gTup K 2 (gCons (gName s1) (gCons (gName s2) gNil))) tYes te [s1, s2] σ H1 Qd := by
  intro D hD
  refine lc_it (Qd := fun H' => Qd (.ref D) H') (walk_zipT (n := rs.length) (by omega)) (fun i H' => Same H1 H' ∧ H' D = some (.lst (rs.take i))) ⟨Same.new hD, upd_same⟩ (fun i H' _ p => ⟨ha H' p.1, hb H' p.1⟩) ?_ (fun H' p => hd D H' hD p.1 (by rw [p.2, List.take_length]))
  rintro i v H2 H2' hi ⟨p1, p2⟩ ⟨T, x, y, rfl, hT, rfl, hx, hy⟩
  have hr : rs[i]? = some rs[i] := List.getElem?_eq_getElem hi
  refine ⟨T, [x, y], rfl, SqT.of upd_same, rfl, x, [y], rfl, y, [], rfl, rfl, ?_, ?_⟩
  · show wipe (((wipe σ [s1, s2]).set s1 (some x)).set s2 (some y)) [s1, s2] = wipe σ [s1, s2]
    simp only [wipe]
    apply List.ext_getElem?
    intro j
    simp only [List.getElem?_set, List.length_set]
    by_cases h1 : s1 = j <;> by_cases h2 : s2 = j <;> simp [h1, h2]
  · have e1 : ((wipe σ [s1, s2]).set s1 (some x)).set s2 (some y) = (σ.set s1 (some x)).set s2 (some y) := by
      simp only [wipe]
      apply List.ext_getElem?
      intro j
      simp only [List.getElem?_set, List.length_set]
      by_cases h1 : s1 = j <;> by_cases h2 : s2 = j <;> simp [h1, h2]
    simp only [tYes, reduceIte]
    rw [e1]
    refine he i x y _ hx hy hr _ _ (p1.trans (Same.new hT)) fun H3 s3 => ?_
    have e4 := s3 _ _ (Same.new (o := .tup [x, y]) hT _ _ p2)
    refine ⟨_, e4, sz_lt (by rw [List.length_take]; omega), Same.mut ((p1.trans (Same.new hT)).trans s3) hD, ?_⟩
    rw [upd_same, List.take_add_one, hr]
    rfl
end Tk

set_option Elab.async false
set_option linter.all false
set_option maxRecDepth 100000
set_option maxHeartbeats 4000000
/-! t[::-1] of tuples; comprehensions over ranges; filters of data -/
namespace Tk
open PySem PySem.Spec PyProof.Rows L2
section
variable {P : Program} {w : World} {A : Around} {E : Value → Shared → Prop} {s : Shared}
theorem places_back (n : Nat) : Builtin.Slice.slicePlaces ((n : Int) - 1) (-1) (-1) = n := by
  unfold Builtin.Slice.slicePlaces
  have h1 : ¬ ((-1 : Int) > 0) := by decide
  simp only [h1, if_false]
  split
  · have e : ((n : Int) - 1 - -1 - 1) / (- -1) = (n : Int) - 1 := by
      rw [show (- -1 : Int) = 1 by decide, Int.ediv_one]
      omega
    omega
  · omega
theorem applied_back {sl : Addr} {vl vu vs : Value} {n : Nat} {Q : Int × Int × Nat → Shared → Prop} (hs : s.heap.IsSliceOf sl vl vu vs) (pl : IsPart vl none) (pu : IsPart vu none) (ps : IsPart vs (some (-1))) (h : Q ((n : Int) - 1, -1, n) s) :
    wpAny (model P w) A (Builtin.Slice.sliceApplied (.ref sl) (pure (n : Int))) Q E s := by
  obtain ⟨os, ho, hc, hd⟩ := id hs
  unfold Builtin.Slice.sliceApplied Builtin.Slice.sliceFields
  refine wpAny_bind (wpAny_bind (wpAny_field ho hd (x := vl) rfl (wpAny_bind (wpAny_field ho hd (x := vu) rfl (wpAny_bind (wpAny_field ho hd (x := vs) rfl (wpAny_pure ?_)))))))
  refine wpAny_bind (HT.slicePart_ ps ?_)
  show wpAny _ _ (if ((-1 : Int) == 0) = true then _ else _) _ _ s
  rw [if_neg (by decide)]
  refine wpAny_bind (HT.slicePart_ pl (wpAny_bind (HT.slicePart_ pu (wpAny_bind (wpAny_pure ?_)))))
  show wpAny _ _ (match Builtin.Slice.sliceAdjust none none (-1) (n : Int) with | (lo, hi) => pure (lo, (-1 : Int), Builtin.Slice.slicePlaces lo hi (-1))) _ _ s
  have e : Builtin.Slice.sliceAdjust none none (-1) (n : Int) = ((n : Int) - 1, -1) := by
    unfold Builtin.Slice.sliceAdjust
    rfl
  rw [e]
  show wpAny _ _ (pure ((n : Int) - 1, (-1 : Int), Builtin.Slice.slicePlaces ((n : Int) - 1) (-1) (-1))) _ _ s
  rw [places_back]
  exact wpAny_pure h
theorem filterMap_some {α β : Type} {f : α → Option β} {g : α → β} : ∀ {l : List α}, (∀ m ∈ l, f m = some (g m)) → l.filterMap f = l.map g
  | [], _ => rfl
  | a :: l, h => by
    rw [List.filterMap_cons, h a List.mem_cons_self, List.map_cons, filterMap_some fun m hm => h m (List.mem_cons_of_mem _ hm)]
theorem pick_back (l : List Value) : ((List.range l.length).filterMap fun (m : Nat) => l.toArray[(((l.length : Int) - 1) + (m : Int) * (-1)).toNat]?) = l.reverse := by
  apply List.ext_getElem?
  intro i
  have e : ∀ m, m ∈ List.range l.length → l.toArray[(((l.length : Int) - 1) + (m : Int) * (-1)).toNat]? = some (l.reverse.getD m .none) := fun m hm => by
    have lt := List.mem_range.mp hm
    have q : (((l.length : Int) - 1) + (m : Int) * (-1)).toNat = l.length - 1 - m := by omega
    rw [q, List.getElem?_toArray, List.getD_eq_getElem?_getD, List.getElem?_reverse lt]
    rw [List.getElem?_eq_getElem (by omega)]
    rfl
  have e2 : (List.range l.length).filterMap (fun (m : Nat) => l.toArray[(((l.length : Int) - 1) + (m : Int) * (-1)).toNat]?) = (List.range l.length).map fun m => l.reverse.getD m .none := filterMap_some e
  rw [e2, List.getElem?_map]
  by_cases h : i < l.length
  · rw [List.getElem?_range h]
    show some (l.reverse.getD i .none) = _
    rw [List.getD_eq_getElem?_getD, List.getElem?_eq_getElem (by simpa using h)]
    rfl
  · rw [List.getElem?_eq_none (by simpa using h), List.getElem?_eq_none (by simpa using h)]
    rfl
theorem getItem_back {t sl : Addr} {items : Array Value} {vl vu vs : Value} {Q : Value → Shared → Prop} (ht : IsTup s.heap t items) (hs : s.heap.IsSliceOf sl vl vu vs) (pl : IsPart vl none) (pu : IsPart vu none) (ps : IsPart vs (some (-1)))
    (h : Q (.ref s.heap.objs.size) { s with heap := s.heap.push { cls := .type "tuple", data := .seq items.toList.reverse.toArray } }) (hsz : items.size ≤ sizeLine) : wpAny (model P w) A (getItem (.ref t) (.ref sl)) Q E s := by
  have hz : sizeOk (.seq items.toList.reverse.toArray) := by
    show items.toList.reverse.toArray.size ≤ sizeLine
    simpa using hsz
  obtain ⟨os, ho, hc, hd⟩ := id hs
  have hT : s.TypeIs (.ref sl) "slice" := ⟨os, ho, hc⟩
  unfold getItem
  try with_reducible refine wpAny_holding ?_
  first | refine wpAny_bind (wpAny_pure ?_) | skip
  refine wpAny_bind (wpAny_sequenceKey ht.typeIs (by decide) ?_)
  refine wpAny_bind (wpAny_callSpecial?_slot (name := Str.ofString "__getitem__") ht.typeIs PyProof.Rows.slot_tuple_getitem (wpAny_call_entry PyProof.Rows.slot_tuple_getitem ht.typeIs entry_tuple_getitem ?_ (args_tuple_getitem _ _)))
  show wpAny _ _ (Builtin.Tuple.tupleItemsOf (.ref t) >>= _) _ _ s
  refine wpAny_bind (tupleItemsOf_ ht (wpAny_bind (wpAny_typeOf hT ?_)))
  rw [if_pos (by decide)]
  refine wpAny_bind (applied_back hs pl pu ps ?_)
  show wpAny _ _ (if (((items.size : Int) - 1 == 0) && (-1 : Int) == 1 && items.size == items.size) = true then _ else _) _ _ s
  rw [if_neg (by simp)]
  obtain ⟨l⟩ := items
  have e := pick_back l
  have e' : ((List.range (List.toArray l).size).filterMap fun (m : Nat) => (List.toArray l)[((((List.toArray l).size : Int) - 1) + (m : Int) * (-1)).toNat]?) = l.reverse := by
    rw [List.size_toArray]
    exact e
  rw [e']
  first
    | exact wpAny_bind (m := Builtin.Tuple.tupleExact _) (wpAny_newObj_type (wpAny_pure ⟨_, rfl, wpAny_pure h⟩) hz)
    | exact wpAny_bind (m := Builtin.Tuple.tupleExact _) (wpAny_newObj_type (wpAny_bind (wpAny_pure (wpAny_pure ⟨_, rfl, wpAny_pure h⟩))) hz)
    | exact wpAny_bind (wpAny_bind (m := Builtin.Tuple.tupleExact _) (wpAny_newObj_type (wpAny_pure (wpAny_pure ⟨_, rfl, wpAny_pure h⟩)) hz))
    | exact wpAny_bind (wpAny_bind (m := Builtin.Tuple.tupleExact _) (wpAny_newObj_type (wpAny_pure ⟨_, rfl, wpAny_pure h⟩) hz))
end
/-- t[::-1] -/
def tRevT (K : PySem.W.Frag) (te : TE) : TE := fun σ H Q => te σ H fun x H1 => ∃ a xs, x = .ref a ∧ SqT K H1 a xs ∧ ∀ p, H1 p = none → Q (.ref p) (upd H1 p (.tup xs.reverse))
theorem pe_revT {X : Cx} {e : Expr} {te : TE} {k : Nat} {p1 p2 p3 pos : Pos} (he : PE X e te) : PE X (.Subscript e (.Slice none none (some (.UnaryOp .USub (.Constant (.int 1) k p1) p2)) p3) pos) (tRevT X.K te) := by
  refine ⟨fun pn s σ H Q I h => ?_⟩
  refine Subscript_ (thn (he.run pn s σ H _ I h) fun v s1 ⟨x, H1, I1, r1, q1⟩ => ?_)
  obtain ⟨a, xs, rfl, hx, q⟩ := q1
  cases r1
  have hst : PO X (some (.UnaryOp .USub (.Constant (.int 1) k p1) p2)) (tPart (tUn (rU fun i => .int (-i)) (tC (.int 1)))) := po_some (pe_un un_neg pe_int)
  refine wpAny_Slice (thn (po_none.run pn s1 σ H1 (fun o H2 => o = none ∧ H2 = H1) I1 ⟨rfl, rfl⟩) fun vl s2 ⟨l, H2, I2, pl, el, e2⟩ => ?_)
  subst el
  subst e2
  refine thn (po_none.run pn s2 σ H2 (fun o H3 => o = none ∧ H3 = H2) I2 ⟨rfl, rfl⟩) fun vu s3 ⟨u, H3, I3, pu, eu, e3⟩ => ?_
  subst eu
  subst e3
  refine thn (hst.run pn s3 σ H3 (fun o H4 => o = some (-1) ∧ H4 = H3) I3 ⟨1, rfl, -1, rfl, rfl, rfl⟩) fun vs s4 ⟨o, H4, I4, ps, eo, e4⟩ => ?_
  subst eo
  subst e4
  have I5 : Inv X pn σ H4 { s4 with heap := s4.heap.push { cls := .type "slice", data := .fields #[vl, vu, vs] } } := I4.kept (t' := s4.toks) fun b ob q => Heap.get?_push_of_some _ q
  obtain ⟨its, r, ht, hz⟩ := I5.tuple hx
  have hlen := r.length
  show wpAny (model X.prog X.w) X.A (subscriptTail e (.Slice none none (some (.UnaryOp .USub (.Constant (.int 1) k p1) p2)) p3) (.ref a) (.ref s4.heap.objs.size)) (EP X pn σ Q) X.xe _
  refine tail_any (ops := [.ref a, .ref s4.heap.objs.size]) ht.typeIs (PyProof.Rows.slot_tuple_getitem.lookup) ?_ (by with_unfolding_all rfl)
  refine getItem_back ht (Heap.IsSliceOf.new _ vl vu vs) pl pu ps ?_ (by rw [List.size_toArray]; omega)
  refine ⟨.ref _, _, I5.laid (t' := s4.toks) (o := .tup xs.reverse) (fun b ob q => Heap.get?_push_of_some _ q) (Nat.le_refl _) ?_, rfl, q _ (I5.hok.fresh (Nat.le_refl _))⟩
  exact ⟨by rw [List.length_reverse]; exact hz, _, r.reverse, IsTup.new _ _⟩
theorem r_revT {K : PySem.W.Frag} {te : TE} {σ : L2.St} {H : Hp} {Q : VK} (h : te σ H fun x H1 => ∃ a xs, x = .ref a ∧ SqT K H1 a xs ∧ ∀ p, H1 p = none → Q (.ref p) (upd H1 p (.tup xs.reverse))) : tRevT K te σ H Q := h
/-! ### a comprehension over a range that only makes new things -/
def rngV (lo : Int) (n : Nat) : List V := (List.range n).map fun (i : Nat) => V.int (lo + (i : Int))
theorem walk_rng {lo : Int} {n : Nat} : Walk (Itr lo n) (rngV lo n).length (fun _ => True) (YAt (rngV lo n)) := by
  have e : (rngV lo n).length = n := by unfold rngV; simp
  rw [e]
  refine Walk.mono walk_range (fun _ h => h) fun i H x H' hi _ y => ⟨y.1, ?_⟩
  unfold rngV
  rw [List.getElem?_map, List.getElem?_range hi, y.2]
  rfl
theorem r_rng2 {ta : TA} {σ : L2.St} {H : Hp} {R : It → Hp → Prop} (h : ta σ H fun vs H1 => ∃ i j : Int, vs = [.int i, .int j] ∧ (-(2 ^ 62) ≤ i ∧ i < 2 ^ 62 ∧ -(2 ^ 62) ≤ j ∧ j < 2 ^ 62) ∧ R (Itr i (j - i).toNat) H1) : iRng2 ta σ H R := h
theorem r_ij {i j : Int} {P : Int → Int → Prop} (h1 : -(2 ^ 62) ≤ i ∧ i < 2 ^ 62 ∧ -(2 ^ 62) ≤ j ∧ j < 2 ^ 62) (q : P i j) : ∃ i' j', [V.int i, V.int j] = [V.int i', V.int j'] ∧ (-(2 ^ 62) ≤ i' ∧ i' < 2 ^ 62 ∧ -(2 ^ 62) ≤ j' ∧ j' < 2 ^ 62) ∧ P i' j' := ⟨i, j, rfl, h1, q⟩
/-! ### filters of data -/
theorem DdAll.filter {K : PySem.W.Frag} {H : Hp} {gv : V → Bool} {gd : PyData → Bool} (hg : ∀ v d, Dd K H v d → gv v = gd d) : ∀ {vs : List V} {ds : List PyData}, DdAll K H vs ds → DdAll K H (vs.filter gv) (ds.filter gd)
  | _, _, .nil => .nil
  | _, _, .cons (v := v) (d := d) h t => by
    rw [List.filter_cons, List.filter_cons, hg v d h]
    split
    · exact .cons h (DdAll.filter hg t)
    · exact DdAll.filter hg t
theorem plainAll_mem : ∀ {ds : List PyData}, PyData.plainAll ds = true ↔ ∀ d ∈ ds, d.plain = true
  | [] => by simp [PyData.plainAll]
  | d :: ds => by
    rw [PyData.plainAll, Bool.and_eq_true, plainAll_mem (ds := ds)]
    simp
theorem eqv_nilL (ds : List PyData) : PyData.eqv (.list ds) (.list []) = ds.isEmpty := by cases ds <;> rfl
theorem eqv_nilT (ds : List PyData) : PyData.eqv (.tuple ds) (.tuple []) = ds.isEmpty := by cases ds <;> rfl
/-- no place at which a text is not less than the next one -/
theorem asc_range : ∀ (ys : List Str), ((List.range (ys.length - 1)).filter fun i => !decide (ltS (ys.getD i Str.empty) (ys.getD (i + 1) Str.empty))).isEmpty = ascB ys
  | [] => rfl
  | [_] => rfl
  | x :: y :: r => by
    have ih := asc_range (y :: r)
    rw [ascB, ← ih]
    show ((List.range ((y :: r).length)).filter _).isEmpty = _
    rw [List.length_cons, List.range_succ_eq_map, List.filter_cons, List.filter_map]
    show List.isEmpty (if (!decide (ltS x y)) = true then _ else _) = _
    by_cases h : ltS x y
    · rw [decide_eq_true h]
      simp only [Bool.not_true, Bool.false_eq_true, if_false, Bool.true_and, List.isEmpty_map]
      congr 1
    · rw [decide_eq_false h]
      rfl
end Tk

set_option Elab.async false
set_option linter.all false
set_option maxRecDepth 100000
set_option maxHeartbeats 4000000
/-! data that stand while one list changes; cuts and sums of tuples as data -/
namespace Tk
open PySem PySem.Spec PyProof.Rows L2
mutual
/-- all lists in it are good -/
def lsD (g : List PyData → Bool) : PyData → Bool
  | .list xs => g xs && lsAll g xs
  | .tuple xs => lsAll g xs
  | .dict _ => false
  | .none => true
  | .bool _ => true
  | .int _ => true
  | .str _ => true
def lsAll (g : List PyData → Bool) : List PyData → Bool
  | [] => true
  | x :: xs => lsD g x && lsAll g xs
end
/-- only what stands at L changes -/
def But (L : Addr) (H H' : Hp) : Prop := ∀ b o, H b = some o → b ≠ L → H' b = some o
section
variable {K : PySem.W.Frag} {H H' : Hp} {L : Addr} {g : List PyData → Bool}
mutual
theorem Dd.chg (hb : But L H H') (hL : ∃ xs, H L = some (.lst xs)) (hg : ∀ xs ds, H L = some (.lst xs) → DdAll K H xs ds → g ds = false) : ∀ (d : PyData) (v : V), lsD g d = true → Dd K H v d → Dd K H' v d
  | .none, _, _, h => by cases h; exact .non
  | .bool b, _, _, h => by cases h; exact .bl b
  | .int i, _, _, h => by cases h; exact .int i
  | .str x, _, _, h => by cases h; exact .str x
  | .list ds, _, n, h => by
    have n : (g ds && lsAll g ds) = true := n
    rw [Bool.and_eq_true] at n
    cases h with
    | lst e a => exact .lst (hb _ _ e (fun z => by subst z; rw [hg _ _ e a] at n; exact nomatch n.1)) (DdAll.chg hb hL hg ds _ n.2 a)
  | .tuple ds, _, n, h => by
    cases h with
    | tup e a => exact .tup (hb _ _ e (fun z => by subst z; obtain ⟨xs, q⟩ := hL; rw [q] at e; cases e)) (DdAll.chg hb hL hg ds _ n a)
  | .dict _, _, n, _ => nomatch n
theorem DdAll.chg (hb : But L H H') (hL : ∃ xs, H L = some (.lst xs)) (hg : ∀ xs ds, H L = some (.lst xs) → DdAll K H xs ds → g ds = false) : ∀ (ds : List PyData) (vs : List V), lsAll g ds = true → DdAll K H vs ds → DdAll K H' vs ds
  | [], _, _, h => by cases h; exact .nil
  | d :: ds, _, n, h => by
    have n : (lsD g d && lsAll g ds) = true := n
    rw [Bool.and_eq_true] at n
    cases h with
    | cons h1 h2 => exact .cons (Dd.chg hb hL hg d _ n.1 h1) (DdAll.chg hb hL hg ds _ n.2 h2)
end
/-- no lists at all -/
def flatD (d : PyData) : Bool := lsD (fun _ => false) d
/-- no list of two ints -/
def npL : List PyData → Bool
  | [.int _, .int _] => false
  | _ => true
def npD (d : PyData) : Bool := lsD npL d
theorem Dd.but {v : V} {d : PyData} (h : Dd K H v d) (f : flatD d = true) (hb : But L H H') (hL : ∃ xs, H L = some (.lst xs)) : Dd K H' v d := Dd.chg hb hL (fun _ _ _ _ => rfl) d v f h
theorem Dd.drawn {p : Addr} {v : V} {d : PyData} (h : Dd K H v d) (f : npD d = true) (D : Drawn p H H') (hp : PoolAt H p) : Dd K H' v d := by
  obtain ⟨a, b, e, _⟩ := hp
  refine Dd.chg (fun b o h n => D.kept b o h n) ⟨_, e⟩ (fun xs ds e2 al => ?_) d v f h
  rw [e] at e2
  cases e2
  cases al with
  | cons h1 al =>
    cases al with
    | cons h2 al =>
      cases al
      cases h1
      cases h2
      rfl
mutual
theorem np_flat : ∀ d : PyData, flatD d = true → npD d = true
  | .none, _ => rfl
  | .bool _, _ => rfl
  | .int _, _ => rfl
  | .str _, _ => rfl
  | .list xs, h => nomatch (show false = true from h)
  | .tuple xs, h => np_flatAll xs h
  | .dict _, h => nomatch h
theorem np_flatAll : ∀ ds : List PyData, lsAll (fun _ => false) ds = true → lsAll npL ds = true
  | [], _ => rfl
  | d :: ds, h => by
    have h : (flatD d && lsAll (fun _ => false) ds) = true := h
    rw [Bool.and_eq_true] at h
    show (npD d && lsAll npL ds) = true
    rw [np_flat d h.1, np_flatAll ds h.2]
    rfl
end
theorem lsAll_iff : ∀ {ds : List PyData}, lsAll g ds = true ↔ ∀ d ∈ ds, lsD g d = true
  | [] => by simp [lsAll]
  | d :: ds => by
    rw [lsAll, Bool.and_eq_true, lsAll_iff (ds := ds)]
    simp
theorem DdAll.drop {vs : List V} {ds : List PyData} (h : DdAll K H vs ds) : ∀ n, DdAll K H (vs.drop n) (ds.drop n) := by
  intro n
  induction n generalizing vs ds with
  | zero => exact h
  | succ n ih =>
    cases h with
    | nil => exact .nil
    | cons _ t => exact ih t
theorem DdAll.take {vs : List V} {ds : List PyData} (h : DdAll K H vs ds) : ∀ n, DdAll K H (vs.take n) (ds.take n) := by
  intro n
  induction n generalizing vs ds with
  | zero => exact .nil
  | succ n ih =>
    cases h with
    | nil => exact .nil
    | cons h0 t => exact .cons h0 (ih t)
theorem DdAll.rev {vs : List V} {ds : List PyData} (h : DdAll K H vs ds) : DdAll K H vs.reverse ds.reverse := by
  induction vs generalizing ds with
  | nil => cases h; exact .nil
  | cons v vs ih =>
    cases h with
    | cons h0 t =>
      rw [List.reverse_cons, List.reverse_cons]
      exact (ih t).append (.cons h0 .nil)
def cutD (ds : List PyData) (lo hi : Option Int) : List PyData := (ds.drop (HT.sIx ds.length 0 lo)).take (HT.sIx ds.length ds.length hi - HT.sIx ds.length 0 lo)
theorem cutD_mem {ds : List PyData} {lo hi : Option Int} {d : PyData} (h : d ∈ cutD ds lo hi) : d ∈ ds := List.mem_of_mem_drop (List.mem_of_mem_take h)
theorem cutD_len (ds : List PyData) (lo hi : Option Int) : (cutD ds lo hi).length ≤ ds.length := by
  unfold cutD
  rw [List.length_take, List.length_drop]
  omega
theorem g_slD {v : V} {ds : List PyData} {lo hi : Option Int} {Q : VK} (h : Dd K H v (.tuple ds)) (q : ∀ v' H2, Same H H2 → Dd K H2 v' (.tuple (cutD ds lo hi)) → Q v' H2) : GSlice K v lo hi H Q := by
  cases h with
  | tup e al =>
    rename_i a xs
    have ll := al.length
    refine .inr (.inr ⟨a, xs, rfl, SqT.of e, fun w => ?_, fun w p hp => ?_⟩)
    · refine q _ H (Same.refl H) ?_
      have z : cutD ds lo hi = ds := by
        unfold cutD
        rw [← ll, w.1, w.2]
        simp [ll]
      rw [z]
      exact .tup e al
    · refine q _ _ (Same.new hp) (.tup upd_same (DdAll.same (Same.new hp) _ _ ?_))
      unfold cutV cutD
      rw [ll]
      exact (al.drop _).take _
theorem g_catD {v w : V} {ds es : List PyData} {Q : VK} (h1 : Dd K H v (.tuple ds)) (h2 : Dd K H w (.tuple es)) (hl : ds.length + es.length ≤ 100000) (q : ∀ v' H2, Same H H2 → Dd K H2 v' (.tuple (ds ++ es)) → Q v' H2) : GAdd K v w H Q := by
  have h1' := h1
  have h2' := h2
  cases h1 with
  | tup e1 a1 =>
    cases h2 with
    | tup e2 a2 =>
      have l1 := a1.length
      have l2 := a2.length
      refine .inr (.inr (.inr ⟨_, _, _, _, rfl, rfl, SqT.of e1, SqT.of e2, sz_of (by rw [l1, l2]; exact hl), fun z => ?_, fun z1 z2 => ?_, fun _ _ p hp => ?_⟩))
      · refine q _ H (Same.refl H) ?_
        subst z
        cases a1
        exact h2'
      · refine q _ H (Same.refl H) ?_
        subst z2
        cases a2
        rw [List.append_nil]
        exact h1'
      · exact q _ _ (Same.new hp) (.tup upd_same (DdAll.same (Same.new hp) _ _ (a1.append a2)))
theorem g_catN {v w : V} {ds es : List PyData} {Q : VK} (h1 : Dd K H v (.list ds)) (h2 : Dd K H w (.list es)) (hl : ds.length + es.length ≤ 100000) (q : ∀ p xs H2, H p = none → Same H H2 → H2 p = some (.lst xs) → DdAll K H2 xs (ds ++ es) → Q (.ref p) H2) : GAdd K v w H Q := by
  cases h1 with
  | lst e1 a1 =>
    cases h2 with
    | lst e2 a2 =>
      exact .inr (.inr (.inl ⟨_, _, _, _, rfl, rfl, e1, e2, sz_of (by rw [a1.length, a2.length]; exact hl), fun p hp => q p _ _ hp (Same.new hp) upd_same (DdAll.same (Same.new hp) _ _ (a1.append a2))⟩))
theorem DdAll.at_ {vs : List V} {ds : List PyData} (h : DdAll K H vs ds) {r : Int} (h0 : 0 ≤ r) (h1 : r < (ds.length : Nat)) : ∃ v d, atI vs r = some v ∧ d ∈ ds ∧ Dd K H v d := by
  obtain ⟨n, rfl⟩ := Int.eq_ofNat_of_zero_le h0
  have hn : n < vs.length := by rw [h.length]; omega
  have hm : n < ds.length := by omega
  have e : vs[n]? = some vs[n] := List.getElem?_eq_getElem hn
  refine ⟨vs[n], ds[n], atI_nat e, List.getElem_mem hm, ?_⟩
  have go : ∀ {vs : List V} {ds : List PyData} (n : Nat) (a : n < vs.length) (b : n < ds.length), DdAll K H vs ds → Dd K H vs[n] ds[n] := by
    intro vs ds n a b h
    induction n generalizing vs ds with
    | zero =>
      cases h with
      | nil => exact absurd a (Nat.not_lt_zero _)
      | cons h0 t => exact h0
    | succ n ih =>
      cases h with
      | nil => exact absurd a (Nat.not_lt_zero _)
      | cons h0 t => exact ih (by simpa using a) (by simpa using b) t
  exact go n hn hm h
/-- an item of a list of data at a drawn place, the list made ahead of the draw -/
theorem list_at {v : V} {ds : List PyData} {p : Addr} {Q : VK} (h : Dd K H v (.list ds)) (np : npD (.list ds) = true) (D : Drawn p H H') (hp : PoolAt H p) {r : Int} (h0 : 0 ≤ r) (h1 : r < (ds.length : Nat)) (q : ∀ v' d, d ∈ ds → Dd K H' v' d → Q v' H') : rIx K v (.int r) H' Q := by
  have h' := Dd.drawn h np D hp
  cases h' with
  | lst e al =>
    obtain ⟨v', d, a1, a2, a3⟩ := al.at_ h0 h1
    exact r_ixL e a1 (q v' d a2 a3)
end
end Tk

set_option Elab.async false
set_option linter.all false
set_option maxRecDepth 100000
set_option maxHeartbeats 4000000
/-! own errors over KeyError, LookupError, RuntimeError, too; errors kept as values; made by keyword -/
namespace Tk
open PySem PySem.Spec PyProof.Rows L2
/-! ### KeyError takes stores -/
abbrev keyMro : List Value := [.type "KeyError", .type "LookupError", .type "Exception", .type "BaseException", .type "object"]
theorem st_key : StoreFacts "KeyError" keyMro "object.__setattr__" "object" := {
  mro := by kernel_rfl
  slot := by
    refine .of (owner := "object") (n := "__setattr__") ?_ ?_ ?_ ?_ ?_ ?_
    · rw [typeLookup_type]
      rw [builtinLookup_eq_fast]
      kernel_rfl
    · decide +kernel
    · decide +kernel
    · decide +kernel
    · first
        | exact .inl (by decide +kernel)
        | exact .inr (by decide +kernel)
    · rw [isSubtype_type]
      kernel_rfl
  entry := F.store_object.entry
  kind := F.store_object.kind
  split := F.store_object.split
  hasOwner := by decide +kernel
  args := F.store_object.args
  passes := fun self => by kernel_rfl }
/-! ### making -/
section
open Builtin
variable {prog : Program} {w : World} {M : Model} {A : Around} {E : Value → Shared → Prop} {R : Result → Shared → Prop} {h : Heap} {g : Array GenState} {d : PySem.Drawn} {t : Nat} {os : OsState}
variable {nm q : Str} {C N : Addr} {bs bm mB : List Value} {hdct : Bool} {sn : List Str} {sub : List Value} {ab : Bool} {col : Option Bool} {dd : Option Addr} {k0 k1 k2 k3 k5 : Option Value} {B nI iI : String} {kw : List (Str × Value)}
theorem xo_chk (Z : ExcBaseFacts B nI iI mB) (tB : bm.contains (.type B) = true) {us : List Value} {Q : Unit → Shared → Prop}
    (o : h.get? C = some (excClassObj nm q C N bs bm hdct sn sub ab col dd k0 k1 k2 k3 k5 nI)) (z : Q () ⟨h, g, d, t, os⟩) : wpAny M A (checkBuiltinCall nI ⟨.ref C :: us, kw⟩) Q E ⟨h, g, d, t, os⟩ := by
  have c1 : (Value.ref C :: bm).contains (.type B) = true := by rw [List.contains_cons, tB, Bool.or_true]
  have c2 := Z.noStar
  simp only [checkBuiltinCall, Z.newKind, Z.newSplit, Z.newRow]
  repeat (first
    | refine wpAny_loadPart_at o ?_
    | (refine wpAny_isSubtype_exc o ?_
       rw [c1])
    | refine wpAny_staticBase_exc o ?_
    | refine wpAny_madeBy_exc o ?_
    | simp only [bne_self_eq_false, Bool.false_eq_true, if_false]
    | wp_step)
  exact z
theorem xo_new (Z : ExcBaseFacts B nI iI mB) (tB : bm.contains (.type B) = true) (tA : bm.contains (.type "AttributeError") = false) (tN : bm.contains (.type "NameError") = false) {us : List Value} (fits : us.length ≤ sizeLine)
    (o : h.get? C = some (excClassObj nm q C N bs bm hdct sn sub ab col dd k0 k1 k2 k3 k5 nI))
    (z : R (.ok (.ret (.ref (h.objs.size + 1)))) ⟨(h.push (PySem.W.kdv_tup us)).push (HandSPX.excO C h.objs.size), g, d, t, os⟩) :
    codeAny (model prog w) A (.builtin nI ⟨.ref C :: us, kw⟩) R ⟨h, g, d, t, os⟩ := by
  have c0 := Z.ends
  have c1 : (Value.ref C :: bm).contains (.type B) = true := by rw [List.contains_cons, tB, Bool.or_true]
  have c2 : (Value.ref C :: bm).contains (.type "AttributeError") = false := by
    rw [List.contains_cons, tA]
    rfl
  have c3 : (Value.ref C :: bm).contains (.type "NameError") = false := by
    rw [List.contains_cons, tN]
    rfl
  apply codeAny_builtinAt Z.entry
  delta Builtin.«BaseException.__new__»
  apply PySem.wpAt_bind
  show PySem.wpAt _ _ _ (stack >>= _) _ _ _
  apply PySem.wpAt_bind
  apply PySem.wpAt_stack
  intro top below
  apply PySem.wpAt_of_wpAny
  wp_walk
  apply PySem.wpAt_of_wpAny
  rw [Z.owner]
  repeat (first
    | with_reducible refine wpAny_madeHere_exc Z.canon o ?_
    | with_reducible refine wpAny_loadPart_at o ?_
    | (with_reducible refine wpAny_isSubtype_exc o ?_
       first
         | rw [c1]
         | rw [c2]
         | rw [c3])
    | wp_step)
  show R _ _
  rw [Heap.size_push]
  exact z
theorem xo_type (Z : ExcBaseFacts B nI iI mB) (tB : bm.contains (.type B) = true) (tA : bm.contains (.type "AttributeError") = false) (tN : bm.contains (.type "NameError") = false) {us : List Value} {fI : Addr} {Q : Fin → Shared → Prop} (fits : us.length ≤ sizeLine)
    (o : h.get? C = some (excClassObj nm q C N bs bm hdct sn sub ab col dd k0 k1 k2 k3 k5 nI)) (lk : PySem.W.Looks (model prog w) h (typeLookup (.ref C) "__init__") (some (.ref fI))) (bd : ∀ self, PySem.W.Looks (model prog w) h (bindSpecial (.ref fI) self) (.ref fI, [self]))
    (z : codeAny (model prog w) A (.call (.ref fI) ⟨.ref (h.objs.size + 1) :: us, kw⟩) (fun r s' => match r with | .ok (.ret v) => v = .none ∧ Q (.done (.ret (.ref (h.objs.size + 1)))) s' | .ok _ => False | .error e => E e s') ⟨(h.push (PySem.W.kdv_tup us)).push (HandSPX.excO C h.objs.size), g, d, t, os⟩) :
    wpAny (model prog w) A (Builtin.«type.__call__» ⟨.ref C :: us, kw⟩) Q E ⟨h, g, d, t, os⟩ := by
  repeat (first
    | with_reducible refine wpAny_loadPart_at o ?_
    | with_reducible refine wpAny_madeBy_exc o ?_
    | wp_step)
  apply codeAny_call_builtin_code (Code.quiet_builtin _ Z.quiet)
  refine xo_chk Z tB o ?_
  refine xo_new Z tB tA tN fits o ?_
  show wpAny _ _ _ _ _ _
  have kp : ∀ b y, h.get? b = some y → ((h.push (PySem.W.kdv_tup us)).push (HandSPX.excO C h.objs.size)).get? b = some y := fun b y e => Heap.get?_push_of_some _ (Heap.get?_push_of_some _ e)
  have o1 := kp _ _ o
  have new : ((h.push (PySem.W.kdv_tup us)).push (HandSPX.excO C h.objs.size)).get? (h.objs.size + 1) = some (HandSPX.excO C h.objs.size) := by heap_get
  have own : (Value.ref C :: bm).contains (.ref C) = true := by simp
  have l1 := lk.keeps kp
  have l2 := (bd (.ref (h.objs.size + 1))).keeps kp
  delta isInstance
  repeat (first
    | with_reducible refine wpAny_loadPart_at new ?_
    | (with_reducible refine wpAny_isSubtype_exc o1 ?_
       rw [own])
    | wp_step)
  show wpAny _ _ (typeLookup (.ref C) _) _ _ _
  apply l1.at
  apply wpAny_holding
  apply wpAny_bind
  apply l2.at
  apply wpAny_bind
  apply wpAny_call
  refine codeAny_mono z fun r s' y => ?_
  cases r with
  | error e => exact y
  | ok fl =>
    cases fl with
    | ret v =>
      obtain ⟨rfl, y⟩ := y
      first
        | exact wpAny_pure (wpAny_pure y)
        | (wp_walk
           exact y)
    | next => exact y.elim
    | brk => exact y.elim
    | cont => exact y.elim
theorem xo_call (Z : ExcBaseFacts B nI iI mB) (tB : bm.contains (.type B) = true) (tA : bm.contains (.type "AttributeError") = false) (tN : bm.contains (.type "NameError") = false) {us : List Value} {fI : Addr} (fits : us.length ≤ sizeLine)
    (o : h.get? C = some (excClassObj nm q C N bs bm hdct sn sub ab col dd k0 k1 k2 k3 k5 nI)) (lk : PySem.W.Looks (model prog w) h (typeLookup (.ref C) "__init__") (some (.ref fI))) (bd : ∀ self, PySem.W.Looks (model prog w) h (bindSpecial (.ref fI) self) (.ref fI, [self]))
    (z : codeAny (model prog w) (A.under (.builtin "type.__call__" ⟨.ref C :: us, kw⟩)) (.call (.ref fI) ⟨.ref (h.objs.size + 1) :: us, kw⟩) (PySem.W.InitBack (h.objs.size + 1) R) ⟨(h.push (PySem.W.kdv_tup us)).push (HandSPX.excO C h.objs.size), g, d, t, os⟩) :
    codeAny (model prog w) A (.call (.ref C) ⟨us, kw⟩) R ⟨h, g, d, t, os⟩ := by
  have t1 := PySem.tc_lookup
  have t2 := PySem.tc_bind (.ref C)
  have t3 : (⟨h, g, d, t, os⟩ : Shared).TypeIs (.ref C) "type" := ⟨_, o, rfl⟩
  apply codeAny_of_tree
  show wpAny _ _ (callAny (.ref C) _) _ _ _
  repeat (any_goals (first
    | assumption
    | with_reducible refine wpAny_loadPart_at o ?_
    | wp_step))
  refine ⟨rfl, ?_⟩
  apply codeAny_call_builtin_at (Code.quiet_builtin _ (by decide +kernel)) PySem.entry_typeCall
  apply wpAny_check_type_call_sub o
  apply xo_type Z tB tA tN fits o lk bd
  refine codeAny_mono z fun r s' y => ?_
  rcases r with e | (v | _ | _ | _) <;> exact y
end

/-! ### storing -/
/-- what the written part says of an error's class, over whichever base -/
structure OexG (K : PySem.W.Frag) (C : Addr) : Prop where
  cls : ∃ nm q N bs bm sn sub ab col dd k0 k1 k2 k3 k5 B nI iI mB, K.lookup C = some (excClassObj nm q C N bs bm true sn sub ab col dd k0 k1 k2 k3 k5 nI) ∧ ExcBaseFacts B nI iI mB ∧ bm.contains (.type B) = true ∧ bm.contains (.type "AttributeError") = false ∧ bm.contains (.type "NameError") = false
  over : ∃ B m, StoreFacts B m "object.__setattr__" "object" ∧ PySem.W.excOver K C m = true
  sa : PySem.W.findIn K (.ref C) "__setattr__" = some (some (.builtin "object.__setattr__"))
  exC : PySem.W.subIn K (.ref C) (.type "BaseException") = some true
  tyC : PySem.W.typeIn K (.ref C) = some (.type "type")
  kC : PySem.W.keepIn K (.ref C) = true
theorem OexG.data {K : PySem.W.Frag} {C : Addr} (T : OexG K C) : ∃ cd, PySem.W.clsIn K C = some cd ∧ cd.hasDict = true := by
  obtain ⟨nm, q, N, bs, bm, sn, sub, ab, col, dd, k0, k1, k2, k3, k5, B, nI, iI, mB, hC, _⟩ := T.cls
  have e : PySem.W.clsIn K C = some {
      name := nm, qualname := q
      bases := bs, mro := .ref C :: bm
      ns := N, slotNames := sn, subclasses := sub
      hasDict := true, hasDel := false
      abstract := ab, collection := col } := by
    unfold PySem.W.clsIn
    rw [hC]
  exact ⟨_, e, rfl⟩
section
open Builtin Builtin.ObjectAttr
variable {prog : Program} {w : World} {A : Around} {R : Result → Shared → Prop} {hp : Heap} {g : Array GenState} {d : PySem.Drawn} {t : Nat} {os : OsState} {K : PySem.W.Frag} {f : Str} {tk : Tok} {v : Value} {x C dx : Addr} {fv : Array Value} {m0 : Str → Option Value} {nl : List Str}
theorem taker_none (no : PySem.W.findIn K (.ref C) f = some none) : PySem.W.takerIn K C f = some none := by
  unfold PySem.W.takerIn
  rw [no]
  rfl
theorem xs_new (X : K.In hp) (T : OexG K C) (at0 : hp.get? x = some { cls := .ref C, data := .fields fv }) (no : PySem.W.findIn K (.ref C) f = some none)
    (z : ∀ h' tk' dx, (∀ b o, b ≠ x → hp.get? b = some o → h'.get? b = some o) → hp.objs.size ≤ dx → dx ≠ x → h'.get? x = some { cls := .ref C, dict := some dx, data := .fields fv } →
      h'.Ns1 dx (fun y => if y = f then some v else none) → R (.ok (.ret .none)) ⟨h', g, d, tk', os⟩) :
    codeAny (model prog w) A (.call (.builtin "object.__setattr__") ⟨[.ref x, .str f tk, v], []⟩) R ⟨hp, g, d, t, os⟩ := by
  obtain ⟨B, m, SF, ov⟩ := T.over
  obtain ⟨cd, hcl, hh⟩ := T.data
  have far : x ≠ hp.objs.size := Nat.ne_of_lt (Heap.lt_size at0)
  refine PySem.W.osa_openX (od := none) (r := none) SF X ⟨at0, rfl, rfl, trivial⟩ ov (taker_none no) fun b => ?_
  show wpAny _ _ (storeInOwnDict (.ref x) (.ref C) (.str f tk) f v b) _ _ _
  have see : PySem.W.Looks (model prog w) hp (classData C) cd := PySem.W.looks_clsIn X hcl
  obtain ⟨nm, bs, mro, ns, qn, hd, sn, sb, ab, col, del⟩ := cd
  dsimp only at hh
  subst hh
  delta storeInOwnDict ownDictForStores
  repeat (first
    | with_reducible refine HandSPX.store_in_new ?_ ?_
    | with_reducible refine wpAny_loadPart_at at0 ?_
    | with_reducible refine see.at ?_
    | wp_step)
  · exact ⟨_, #[], _,
      (Heap.get?_update_ne _ _ _ _ far.symm).trans (Heap.get?_push_at rfl rfl),
      rfl, (fun e he => absurd he (by simp)), (fun _ => rfl)⟩
  · intro h' tk' ns1 same
    have at1 : (hp.push { cls := .type "dict", data := .dict #[] }).get? x = some { cls := .ref C, data := .fields fv } := Heap.get?_push_of_some _ at0
    refine z h' tk' hp.objs.size ?_ (Nat.le_refl _) far.symm ?_ ns1
    · intro b o nb e
      refine (same.2 b (Nat.ne_of_lt (Heap.lt_size e))).trans ?_
      exact (Heap.get?_update_ne _ _ _ _ nb).trans (Heap.get?_push_of_some _ e)
    · exact (same.2 x far).trans (Heap.get?_update_self _ at1 rfl)
theorem xs_old (X : K.In hp) (T : OexG K C) (at0 : hp.get? x = some { cls := .ref C, dict := some dx, data := .fields fv }) (ns0 : hp.Ns1 dx m0) (wi : Within m0 nl) (few : nl.length ≤ 1000) (no : PySem.W.findIn K (.ref C) f = some none)
    (z : ∀ h' tk', (∀ b o, b ≠ dx → hp.get? b = some o → h'.get? b = some o) → h'.Ns1 dx (fun y => if y = f then some v else m0 y) → R (.ok (.ret .none)) ⟨h', g, d, tk', os⟩) :
    codeAny (model prog w) A (.call (.builtin "object.__setattr__") ⟨[.ref x, .str f tk, v], []⟩) R ⟨hp, g, d, t, os⟩ := by
  obtain ⟨B, m, SF, ov⟩ := T.over
  obtain ⟨cd, hcl, hh⟩ := T.data
  obtain ⟨oD, e1, e2, there, _⟩ := ns0.count wi
  refine PySem.W.osa_openX (od := some oD) (r := none) SF X ⟨at0, rfl, rfl, there⟩ ov (taker_none no) fun b => ?_
  show wpAny _ _ (storeInOwnDict (.ref x) (.ref C) (.str f tk) f v b) _ _ _
  have see : PySem.W.Looks (model prog w) hp (classData C) cd := PySem.W.looks_clsIn X hcl
  obtain ⟨nm, bs, mro, ns, qn, hd, sn, sb, ab, col, del⟩ := cd
  dsimp only at hh
  subst hh
  delta storeInOwnDict ownDictForStores
  repeat (first
    | with_reducible refine PySem.OEX.store_in_old ns0 wi few ?_
    | with_reducible refine wpAny_loadPart_at at0 ?_
    | with_reducible refine see.at ?_
    | wp_step)
  intro h' tk' ns1 same
  exact z h' tk' (fun b o nb e => (same.2 b nb).trans e) ns1
end
section
variable {X : Cx} {pins : List (Addr × Obj)} {σ : L2.St} {H : Hp} {s : Shared} {a C dx : Addr} {f : Str} {y : V} {u : Value} {fs : List (Str × V)} {Q : Unit → Shared → Prop} {E : Value → Shared → Prop} {A : Around}
/-- e.f = y, the first one -/
theorem gst_new (T : OexG X.K C) (I : Inv X pins σ H s) (e : H a = some (exo a C none)) (no : PySem.W.findIn X.K (.ref C) f = some none) (ry : RelV y u)
    (h : ∀ dx s', H dx = none → dx ≠ a → Inv X pins σ (upd (upd H dx (exd dx [(f, y)])) a (exo a C (some dx))) s' → Q () s') : wpAny (model X.prog X.w) A (setAttr (.ref a) f u) Q E s := by
  obtain ⟨t1, ho⟩ := exo_at I.hok e
  obtain ⟨hp, g, d, t, os⟩ := s
  refine PySem.W.set_plain I.kIn (ox := { cls := .ref C, dict := none, data := .fields #[.ref t1, .none, .none, .none, .bool false, .none] }) (od := none) ⟨ho, rfl, rfl, trivial⟩ T.sa ?_
  refine xs_new I.kIn T ho no fun h' tk' dx k dn dne hx hn => ?_
  have fresh : H dx = none := I.hok.fresh dn
  have n1 : ∀ {b : Addr} {o : Obj}, hp.get? b = some o → b ≠ dx := fun {b o} q => Nat.ne_of_lt (Nat.lt_of_lt_of_le (Heap.lt_size q) dn)
  have n2 : ∀ {b : Addr}, H b = none → b ≠ a := by
    intro b n z
    rw [z, e] at n
    cases n
  have step : Un X.fs [] H (upd (upd H dx (exd dx [(f, y)])) a (exo a C (some dx))) hp h' := {
    keep := fun b o q n _ _ => k b o (n2 n) q
    slot := fun b o q n _ _ => ⟨o.slots, k b o (n2 n) q⟩
    free := fun b o q n _ => (upd_ne (n2 n)).trans ((upd_ne (n1 q)).trans n)
    there := fun b o q _ => by
      by_cases hb : b = a
      · subst hb
        exact ⟨_, hx⟩
      · exact ⟨o, k b o hb q⟩
    tups := fun b xs q => (upd_ne (at_ne e q exo_tup)).trans ((upd_ne (ne_of_none q fresh)).trans q)
    frzs := fun b o v q => (upd_ne (at_ne e q exo_frz)).trans ((upd_ne (ne_of_none q fresh)).trans q)
    tbls := fun b ps q => ⟨#[], by
      rw [upd_ne (at_ne e q exo_tbl)]
      rw [upd_ne (ne_of_none q fresh), q]
      simp⟩ }
  refine h dx _ fresh dne (I.un (t' := tk') step fun b o q => ?_)
  by_cases hb : b = a
  · subst hb
    rw [upd_same] at q
    cases q
    exact exo_ok hx
  rw [upd_ne hb] at q
  by_cases hd : b = dx
  · subst hd
    rw [upd_same] at q
    cases q
    exact exd_ok hn (relO_put (fs := []) ry fun g => True.intro)
  rw [upd_ne hd] at q
  refine (I.hok b o q).stay (fun c v hc z => k c v ?_ z) (fun c hc => ?_) (fun c xs hc => ?_)
  · rcases hc with hc | hc
    · subst hc
      exact hb
    · exact at_ne e hc exo_own
  · exact (upd_ne (at_ne e hc exo_own)).trans ((upd_ne (ne_of_none hc fresh)).trans hc)
  · exact (upd_ne (at_ne e hc exo_tup)).trans ((upd_ne (ne_of_none hc fresh)).trans hc)
/-- e.f = y, a further one -/
theorem gst_old (T : OexG X.K C) (I : Inv X pins σ H s) (e : H a = some (exo a C (some dx))) (ed : H dx = some (exd dx fs)) (few : fs.length ≤ 900) (no : PySem.W.findIn X.K (.ref C) f = some none) (ry : RelV y u)
    (h : ∀ s', Inv X pins σ (upd H dx (exd dx ((f, y) :: fs))) s' → Q () s') : wpAny (model X.prog X.w) A (setAttr (.ref a) f u) Q E s := by
  obtain ⟨t1, ho⟩ := exo_at I.hok e
  obtain ⟨mA, ns0, rel⟩ := exd_at I.hok ed
  have wi := within_of rel
  obtain ⟨hp, g, d, t, os⟩ := s
  obtain ⟨oD, e1, e2, there, _⟩ := ns0.count wi
  refine PySem.W.set_plain I.kIn (ox := { cls := .ref C, dict := some dx, data := .fields #[.ref t1, .none, .none, .none, .bool false, .none] }) (od := some oD) ⟨ho, rfl, rfl, there⟩ T.sa ?_
  refine xs_old I.kIn T ho ns0 wi (by simp only [List.length_map]; omega) no fun h' tk' k hn => ?_
  have at1 : ∃ o, h'.get? dx = some o := by
    obtain ⟨o, _, _, z, _⟩ := hn
    exact ⟨o, z⟩
  refine h _ (I.write (t' := tk') (x := dx) (e := dx) (o := exd dx ((f, y) :: fs)) ?_ (.inl rfl) k at1 (exd_ok hn (relO_put ry rel)))
  rw [ed]
  exact True.intro
end
/-- self.f = e, of an error of whichever base -/
def tGst (K : PySem.W.Frag) (f : Str) (to te : TE) : TS := fun D σ H => te σ H fun y H1 => to σ H1 fun x H2 => ∃ a C : Addr, x = .ref a ∧ OexG K C ∧ PySem.W.findIn K (.ref C) f = some none ∧
  ((H2 a = some (exo a C none) ∧ ∀ dx, H2 dx = none → dx ≠ a → D.nx σ (upd (upd H2 dx (exd dx [(f, y)])) a (exo a C (some dx)))) ∨
    ∃ (dx : Addr) (fs : List (Str × V)), H2 a = some (exo a C (some dx)) ∧ H2 dx = some (exd dx fs) ∧ fs.length ≤ 900 ∧ D.nx σ (upd H2 dx (exd dx ((f, y) :: fs))))
section
variable {X : Cx} {o e : Expr} {to te : TE} {f : Str} {p' pos : Pos}
theorem ps_gst (ho : PE X o to) (he : PE X e te) (hs : swapsWith e (some (.Attribute o f p')) pos.line X.env = pure false := by rfl) : PS X (.Assign [.Attribute o f p'] e pos) (tGst X.K f to te) := by
  constructor
  intro pins s σ H D I h
  refine plainObj_wpAny_Assign_Attribute (thn (he.run pins s σ H _ I h) fun v s1 hv => ?_) hs
  obtain ⟨y, H1, I1, r1, q1⟩ := hv
  refine thn (ho.run pins s1 σ H1 _ I1 q1) fun u s2 hu => ?_
  obtain ⟨x, H2, I2, r2, a, C, rfl, T, no, q⟩ := hu
  cases r2
  rcases q with ⟨ea, q⟩ | ⟨dx, fs, ea, ed, few, q⟩
  · exact gst_new T I2 ea no r1 fun dx s' n ne J => ⟨σ, _, J, q dx n ne⟩
  · exact gst_old T I2 ea ed few no r1 fun s' J => ⟨σ, _, J, q⟩
end
end Tk

set_option Elab.async false
set_option linter.all false
set_option maxRecDepth 100000
set_option maxHeartbeats 4000000
/-! errors of any base kept as values: made by place or by keyword, asked by isinstance, their fields read -/
namespace Tk
open PySem PySem.Spec PyProof.Rows L2
/-- an error's object, its class C, its dict with the fields fs -/
def ErrAt (H : Hp) (a C : Addr) (fs : List (Str × V)) : Prop := ∃ d, H a = some (exo a C (some d)) ∧ H d = some (exd d fs)
theorem ErrAt.same {H H2 : Hp} {a C : Addr} {fs : List (Str × V)} (S : Same H H2) (h : ErrAt H a C fs) : ErrAt H2 a C fs := by
  obtain ⟨d, h1, h2⟩ := h
  exact ⟨d, S _ _ h1, S _ _ h2⟩
/-- no positional default, all by place -/
theorem kb_all {K : PySem.W.Frag} {fd : FuncData} {ps : List Str} (b : Binds K fd ps []) : KBn K fd ps ps.length [] (fun us _ => us) (fun vs _ => vs) where
  to := fun s us ws hK l1 l2 => by
    have z := b s us hK (by rw [List.append_nil]; exact l1)
    rw [List.append_nil] at z
    exact z
  rel := fun r _ => r
/-- all but the first by keyword -/
theorem kb_kw {K : PySem.W.Frag} {x q : Str} {st : Stmt} {f : Addr} {fd : FuncData} {ks ps : List Str} (F : Fun K x q st f fd)
    (h : ∀ (kV doc pm : Value) (an : Option Addr) (cdv ct : Value) (u : Value) (ws : List Value), ws.length = ks.length → bindArgs (PySem.W.fnOf x q (defArgs st) (defBody st) (defScope st) .none kV doc pm an cdv ct) ⟨[u], ks.zip ws⟩ = pure (ps.zip (u :: ws))) :
    KBn K fd ps 1 ks (fun us ws => us ++ ws) (fun vs zs => vs ++ zs) where
  to := fun s us ws hK l1 l2 => by
    obtain ⟨oc, od, kV, doc, pm, an, cdv, ct, osl, rfl, _⟩ := F.ex
    match us, l1 with
    | [u], _ => exact .of_eq (h kV doc pm an cdv ct u ws l2)
  rel := fun r1 r2 => r1.append r2
section
variable {X : Cx} {CX : CXT} {k n : Nat} {fI C : Addr} {fd : FuncData} {ps ks : List Str} {sp : Sp} {E : XK} {x : Str} {p pos : Pos} {e : Expr} {es : List Expr} {kws : List Keyword} {t tk : TA} {g : List Value → List Value → List Value} {gV : List V → List V → List V}
/-- C(..), an error as a value -/
theorem run_mkE {pn : List (Addr × Obj)} {σ : L2.St} {H : Hp} {s : Shared} {Q : VK} {us ws : List Value} {vs zs : List V} (T : OexG X.K C) (iC : PySem.W.findIn X.K (.ref C) "__init__" = some (some (.ref fI))) (tI : PySem.W.typeIn X.K (.ref fI) = some (.type "function"))
    (F1 : FnOk X.prog X.w X.K X.mg X.base CX k fI fd ps sp) (hr : Room (k + 1) X.A) (hb : KBn X.K fd ps (n + 1) ks g gV) (hx : Passes CX X E) (I : Inv X pn σ H s) (r : Vals vs us) (rz : Vals zs ws) (l1 : vs.length = n) (l2 : zs.length = ks.length) (few : n ≤ 1000)
    (h : ∀ a, H a = none → sp (gV (.ref a :: vs) zs) (upd H a (exo a C none)) (fun v H2 => v = .non ∧ Q (.ref a) H2) E) :
    wpAny (model X.prog X.w) X.A (call (.ref C) us (ks.zip ws)) (EP X pn σ Q) X.xe s := by
  obtain ⟨nm, q, N, bs, bm, sn, sub, ab, col, dd, k0, k1, k2, k3, k5, B, nI, iI, mB, hC, Z, tB, tA, tN⟩ := T.cls
  obtain ⟨hp, gs, dr, tk0, os⟩ := s
  have hsz : hp.objs.size ≤ hp.objs.size + 1 := Nat.le_succ _
  have hn : H (hp.objs.size + 1) = none := I.hok.fresh hsz
  have hq := h (hp.objs.size + 1) hn
  have kk : ∀ b o, hp.get? b = some o → ((hp.push (PySem.W.kdv_tup us)).push (HandSPX.excO C hp.objs.size)).get? b = some o := fun b o e => Heap.get?_push_of_some _ (Heap.get?_push_of_some _ e)
  have new : ((hp.push (PySem.W.kdv_tup us)).push (HandSPX.excO C hp.objs.size)).get? (hp.objs.size + 1) = some (HandSPX.excO C hp.objs.size) := by heap_get
  have I2 : Inv X pn σ (upd H (hp.objs.size + 1) (exo (hp.objs.size + 1) C none)) ⟨(hp.push (PySem.W.kdv_tup us)).push (HandSPX.excO C hp.objs.size), gs, dr, tk0, os⟩ := by
    refine I.laid (t' := tk0) (a := hp.objs.size + 1) (o := exo (hp.objs.size + 1) C none) ?_ hsz (exo_ok new)
    exact kk
  have r1 : Vals (V.ref (hp.objs.size + 1) :: vs) (Value.ref (hp.objs.size + 1) :: us) := .cons rfl r
  have r2 := hb.rel r1 rz
  have e1 : (Value.ref (hp.objs.size + 1) :: us).length = n + 1 := r1.length.symm.trans (congrArg Nat.succ l1)
  have e2 : ws.length = ks.length := rz.length.symm.trans l2
  have fits : us.length ≤ sizeLine := by
    rw [← r.length, l1, sizeLine_eq]
    omega
  apply wpAny_call
  apply xo_call Z tB tA tN fits (I.kIn _ _ hC) (PySem.W.looks_findIn I.kIn iC) (fun self => PySem.W.bind_fn I.kIn self tI)
  refine codeAny_mono (F1.run _ X.stack _ _ ⟨Value.ref (hp.objs.size + 1) :: us, ks.zip ws⟩ (g (Value.ref (hp.objs.size + 1) :: us) ws) _ _ E (hr.make C us (ks.zip ws)) (I2.env0.make C us (ks.zip ws)) (hb.to _ _ ws I2.kIn e1 e2) r2 hq) fun ans s' back => ?_
  match ans, back with
  | .error z, back => exact hx pn σ _ _ z s' I2 back
  | .ok (.ret u), back =>
    obtain ⟨v, H', I3, rv, ev, q3⟩ := I2.after back
    subst ev
    exact ⟨rv, V.ref (hp.objs.size + 1), H', I3, rfl, q3⟩
  | .ok .next, back => exact back.elim
  | .ok .brk, back => exact back.elim
  | .ok .cont, back => exact back.elim
/-- C(e, ..) as a value: n values, m keywords -/
def tMkE (C : Addr) (n m : Nat) (sp : Sp) (gV : List V → List V → List V) (E : XK) (t tk : TA) : TE := fun σ H Q => t σ H fun vs H1 => tk σ H1 fun zs H2 => vs.length = n ∧ zs.length = m ∧
  ∀ a, H2 a = none → sp (gV (.ref a :: vs) zs) (upd H2 a (exo a C none)) (fun v H3 => v = .non ∧ Q (.ref a) H3) E
/-- what is known of C in X -/
structure ErrC (P : Program) (w : World) (K : PySem.W.Frag) (mg : Str → Option Value) (base : Heap) (x : Str) (C : Addr) (ps : List Str) (sp : Sp) : Prop where
  gC : mg x = some (.ref C)
  T : OexG K C
  ini : ∃ (fI : Addr) (fd : FuncData), PySem.W.findIn K (.ref C) "__init__" = some (some (.ref fI)) ∧ PySem.W.typeIn K (.ref fI) = some (.type "function") ∧ Binds K fd ps [] ∧ KBn K fd ps 1 ps.tail (fun us ws => us ++ ws) (fun vs zs => vs ++ zs) ∧ FnOk P w K mg base CX0 1 fI fd ps sp
theorem pe_mkE1 (Z : ErrC X.prog X.w X.K X.mg X.base x C ps sp) (hr : Room 2 X.A) (hl : ps.length = n + 1) (few : n ≤ 1000) (ha : PA X (e :: es) t) (hg : Gl X x := by rfl)
    (hdb : (x == ("__debug__" : Str)) = false := by decide) (he : starEach (e :: es) X.env = (false, eval e X.env) :: starEach es X.env := by rfl) (hpl : (backTo pos (starEach es X.env)).any (·.1) = false := by rfl) :
    PE X (.Call (.Name x p) (e :: es) [] pos) (tMkE C n 0 sp (fun vs _ => vs) (fun _ _ _ => False) t tNil) := by
  constructor
  intro pn s σ H Q I h
  obtain ⟨fI, fd, iC, tI, b, _, F1⟩ := Z.ini
  apply wpAny_Call_Name_kw (ld_glob I hg Z.gC ?_ hdb)
  apply PySem.W.callWith_K (h₀ := X.base) I.ok.mod.kin Z.T.kC (thn (ha.run pos pn s σ H _ I h) fun us s1 hz => ?_) he hpl
  obtain ⟨vs, H1, I1, r, l1, _, q⟩ := hz
  refine ⟨I1.kIn, ?_⟩
  have kb : KBn X.K fd ps (n + 1) [] (fun us _ => us) (fun vs _ => vs) := hl ▸ kb_all b
  exact run_mkE (ws := []) (zs := []) Z.T iC tI F1 hr kb pass0 I1 r .nil l1 rfl few q
theorem pe_mkE0 (Z : ErrC X.prog X.w X.K X.mg X.base x C ps sp) (hr : Room 2 X.A) (hl : ps.length = 1) (hg : Gl X x := by rfl) (hdb : (x == ("__debug__" : Str)) = false := by decide) :
    PE X (.Call (.Name x p) [] [] pos) (tMkE C 0 0 sp (fun vs _ => vs) (fun _ _ _ => False) tNil tNil) := by
  constructor
  intro pn s σ H Q I h
  obtain ⟨fI, fd, iC, tI, b, _, F1⟩ := Z.ini
  apply wpAny_Call_Name_kw (ld_glob I hg Z.gC ?_ hdb)
  have kb : KBn X.K fd ps (0 + 1) [] (fun us _ => us) (fun vs _ => vs) := by have z := kb_all b; rw [hl] at z; exact z
  obtain ⟨_, _, q⟩ := h
  exact PySem.W.callWith_K0 I.kIn Z.T.kC (run_mkE (us := []) (vs := []) (ws := []) (zs := []) Z.T iC tI F1 hr kb pass0 I .nil .nil rfl rfl (by decide) q)
theorem pe_mkEK (Z : ErrC X.prog X.w X.K X.mg X.base x C ps sp) (hr : Room 2 X.A) (hkw : PK X kws tk) (hg : Gl X x := by rfl)
    (hall : (backToKw pos (keywordEach kws X.env)).all (·.1.isSome) = true := by rfl) (hks : (backToKw pos (keywordEach kws X.env)).filterMap (·.1) = ps.tail := by rfl) (hdb : (x == ("__debug__" : Str)) = false := by decide)
    (hpl : ((backTo pos (starEach [] X.env)).any (·.1) || (backToKw pos (keywordEach kws X.env)).any (·.1.isNone)) = false := by rfl) :
    PE X (.Call (.Name x p) [] kws pos) (tMkE C 0 ps.tail.length sp (fun vs zs => vs ++ zs) (fun _ _ _ => False) tNil tk) := by
  constructor
  intro pn s σ H Q I h
  obtain ⟨fI, fd, iC, tI, _, kb, F1⟩ := Z.ini
  apply wpAny_Call_Name_kw (ld_glob I hg Z.gC ?_ hdb)
  apply PySem.W.callWith_KW0 (h₀ := X.base) I.ok.mod.kin Z.T.kC hall ?_ hpl
  refine thn (hkw.run pos pn s σ H _ I h) fun ws s2 hz => ?_
  obtain ⟨zs, H2, I2, rz, l1, l2, q⟩ := hz
  refine ⟨I2.kIn, ?_⟩
  rw [hks]
  exact run_mkE (us := []) (vs := []) Z.T iC tI F1 hr kb pass0 I2 .nil rz rfl l2 (by decide) q
end
/-! ### the errors' own __init__ -/
/-- __init__(self, value): self.value = value -/
def spI1 (K : PySem.W.Frag) (C : Addr) : Sp := fun vs H Q _ => ∃ (a : Addr) (v : V), vs = [.ref a, v] ∧ H a = some (exo a C none) ∧ ∀ dx, H dx = none → dx ≠ a → Q .non (upd (upd H dx (exd dx [(("value" : Str), v)])) a (exo a C (some dx)))
theorem ok_i1 {P : Program} {w : World} {K : PySem.W.Frag} {mg : Str → Option Value} {base : Heap} {st : Stmt} {q : Str} {f C : Addr} {fd : FuncData} (F : Fun K "__init__" q st f fd) (sc : FnScope ["self", "value"] ["self", "value"] (defScope st))
    (hb : ∃ p1 p2 p3 p4, defBody st = [.Assign [.Attribute (.Name "self" p1) "value" p2] (.Name "value" p3) p4]) (T : OexG K C) (nv : PySem.W.findIn K (.ref C) "value" = some none) : FnOk P w K mg base CX0 1 f fd ["self", "value"] (spI1 K C) := by
  apply F.ok sc
  · rintro vs H Q E ⟨a, v, rfl, _⟩
    rfl
  · rintro cdv A outer s H vs Q E hr ⟨a, v, rfl, ha, k⟩
    obtain ⟨p1, p2, p3, p4, eb⟩ := hb
    rw [eb]
    have v0 : Vis (defScope st) "self" := (sc.par "self" (by simp)).elim Or.inl fun z => Or.inr (Or.inl z)
    have v1 : Vis (defScope st) "value" := (sc.par "value" (by simp)).elim Or.inl fun z => Or.inr (Or.inl z)
    exact ⟨_, pss_one (ps_gst (pv 0 rfl v0) (pv 1 rfl v1)), _, rfl, _, rfl, a, C, rfl, T, nv, .inl ⟨ha, fun dx hd hn => k dx hd hn⟩⟩
/-- __init__(self, word, value) -/
def spI2 (K : PySem.W.Frag) (C : Addr) : Sp := fun vs H Q _ => ∃ (a : Addr) (v1 v2 : V), vs = [.ref a, v1, v2] ∧ H a = some (exo a C none) ∧ ∀ dx, H dx = none → dx ≠ a →
  Q .non (upd (upd (upd H dx (exd dx [(("word" : Str), v1)])) a (exo a C (some dx))) dx (exd dx [(("value" : Str), v2), (("word" : Str), v1)]))
theorem ok_i2 {P : Program} {w : World} {K : PySem.W.Frag} {mg : Str → Option Value} {base : Heap} {st : Stmt} {q : Str} {f C : Addr} {fd : FuncData} (F : Fun K "__init__" q st f fd) (sc : FnScope ["self", "word", "value"] ["self", "word", "value"] (defScope st))
    (hb : ∃ p1 p2 p3 p4 q1 q2 q3 q4, defBody st = [.Assign [.Attribute (.Name "self" p1) "word" p2] (.Name "word" p3) p4, .Assign [.Attribute (.Name "self" q1) "value" q2] (.Name "value" q3) q4])
    (T : OexG K C) (nv : PySem.W.findIn K (.ref C) "value" = some none) (nw : PySem.W.findIn K (.ref C) "word" = some none) : FnOk P w K mg base CX0 1 f fd ["self", "word", "value"] (spI2 K C) := by
  apply F.ok sc
  · rintro vs H Q E ⟨a, u, v, rfl, _⟩
    rfl
  · rintro cdv A outer s H vs Q E hr ⟨a, u, v, rfl, ha, k⟩
    obtain ⟨p1, p2, p3, p4, q1, q2, q3, q4, eb⟩ := hb
    rw [eb]
    have v0 : Vis (defScope st) "self" := (sc.par "self" (by simp)).elim Or.inl fun z => Or.inr (Or.inl z)
    have v1 : Vis (defScope st) "word" := (sc.par "word" (by simp)).elim Or.inl fun z => Or.inr (Or.inl z)
    have v2 : Vis (defScope st) "value" := (sc.par "value" (by simp)).elim Or.inl fun z => Or.inr (Or.inl z)
    refine ⟨_, pss_cons (ps_gst (pv 0 rfl v0) (pv 1 rfl v1)) (pss_one (ps_gst (pv 0 rfl v0) (pv 2 rfl v2))), ?_⟩
    refine ⟨_, rfl, _, rfl, a, C, rfl, T, nw, .inl ⟨ha, fun dx hd hn => ?_⟩⟩
    refine ⟨_, rfl, _, rfl, a, C, rfl, T, nv, .inr ⟨dx, _, upd_same, ?_, ?_, k dx hd hn⟩⟩
    · rw [upd_ne hn, upd_same]
    · simp
end Tk

set_option Elab.async false
set_option linter.all false
set_option maxRecDepth 100000
set_option maxHeartbeats 4000000
/-! errors kept as values: isinstance, fields, RuntimeError's own __init__ -/
namespace Tk
open PySem PySem.Spec PyProof.Rows L2
/-- isinstance(e, c), e an error that is kept -/
def rIsX (K : PySem.W.Frag) : List V → Hp → VK → Prop := fun xs H Q => ∃ (a D : Addr) (d : Option Addr) (c : V) (cv : Value) (b : Bool), xs = [.ref a, c] ∧ H a = some (exo a D d) ∧ (∀ dd, d = some dd → ∃ fs, H dd = some (exd dd fs)) ∧ ExcC K D ∧
  (∀ u, RelV c u → u = cv) ∧ PySem.W.kitOne K (.ref D) cv = some b ∧ Q (.bl b) H
theorem call_isX {X : Cx} {K : PySem.W.Frag} (eK : X.K = K := by rfl) : CallR X (.builtin "isinstance") (rIsX K) := by
  subst eK
  intro pn s σ H xs us Q I r h
  obtain ⟨a, D, d, c, cv, b, rfl, ha, hd, Z, hcv, e, q⟩ := h
  obtain ⟨u1, u2, rfl, r1, r2⟩ := vals2 r
  cases r1
  have ec := hcv _ r2
  subst ec
  obtain ⟨t1, ho⟩ := exo_at I.hok ha
  have hcl : (PySem.W.clsIn X.K D).isSome = true := by
    obtain ⟨cd, hc, _⟩ := PySem.W.any_some Z.hd
    rw [hc]
    rfl
  have fin : ∀ tk, EP X pn σ Q (.bool b) { s with toks := tk } := fun tk => ⟨.bl b, H, I.kept (t' := tk) fun _ _ z => z, rfl, q⟩
  cases d with
  | none =>
    have J : PySem.W.InstAt s.heap a { cls := .ref D, dict := none, data := .fields #[.ref t1, .none, .none, .none, .bool false, .none] } D none := ⟨ho, rfl, rfl, trivial⟩
    exact PySem.W.kia_one (PySem.W.kitx_exc hcl Z.hg Z.hk Z.hs Z.ha Z.hn Z.ht Z.hm) I.kIn J e (fun z => nomatch z) fin
  | some dd =>
    obtain ⟨fs, hf⟩ := hd dd rfl
    obtain ⟨mA, ns, rel⟩ := exd_at I.hok hf
    obtain ⟨oD, _, _, there, _⟩ := ns.count (within_of rel)
    have J : PySem.W.InstAt s.heap a { cls := .ref D, dict := some dd, data := .fields #[.ref t1, .none, .none, .none, .bool false, .none] } D (some oD) := ⟨ho, rfl, rfl, there⟩
    exact PySem.W.kia_one (PySem.W.kitx_exc hcl Z.hg Z.hk Z.hs Z.ha Z.hn Z.ht Z.hm) I.kIn J e (fun z => nomatch z) fin
/-- e.n, e an error that is kept -/
def tFldX (K : PySem.W.Frag) (n : Str) (te : TE) : TE := fun σ H Q => te σ H fun x H1 => ∃ (a D dd : Addr) (fs : List (Str × V)) (v : V), x = .ref a ∧ H1 a = some (exo a D (some dd)) ∧ H1 dd = some (exd dd fs) ∧ fs.lookup n = some v ∧ XfC K D ∧ PySem.W.findIn K (.ref D) n = some none ∧ Q v H1
theorem pe_fldX {X : Cx} {K : PySem.W.Frag} {e : Expr} {te : TE} {pos : Pos} {n : Str} (he : PE X e te) (eK : X.K = K := by rfl) (hb : attributeBase e n X.env (eval e X.env) = eval e X.env := by rfl) : PE X (.Attribute e n pos) (tFldX K n te) := by
  subst eK
  constructor
  intro pn s σ H Q I h
  refine attr_of hb (thn (he.run pn s σ H _ I h) fun u s1 hh => ?_)
  obtain ⟨x, H1, I1, rx, a, D, dd, fs, v, rfl, ha, hd, hl, T, no, q⟩ := hh
  cases rx
  obtain ⟨t1, ho⟩ := exo_at I1.hok ha
  obtain ⟨mA, ns, rel⟩ := exd_at I1.hok hd
  obtain ⟨oD, e1, l1⟩ := lookIn_ns ns
  obtain ⟨u, hu, ru⟩ := RelO.some_of (v := v) (o := mA n) (by rw [← hl]; exact rel n)
  have J : PySem.W.InstAt s1.heap a { cls := .ref D, dict := some dd, data := .fields #[.ref t1, .none, .none, .none, .bool false, .none] } D (some oD) := ⟨ho, rfl, rfl, e1⟩
  refine HandSPX.exc_get I1.kIn J T.ga T.gg T.exC (PySem.W.findObj_own T.hdC no rfl ?_) (handed_of ru) ?_
  · rw [l1, hu]
  · exact ⟨v, H1, I1.tok _, ru, q⟩
/-! ### RuntimeError.__init__(self, text) -/
theorem typ_re : typeOf (.type "RuntimeError") = pure (.type "type") := by kernel_rfl
def OverR (K : PySem.W.Frag) (C : Addr) : Prop := ∃ nm q N bs bm sn sub ab col dd k0 k1 k2 k3 k5, K.lookup C = some (excClassObj nm q C N bs bm true sn sub ab col dd k0 k1 k2 k3 k5 "RuntimeError.__new__") ∧ PySem.W.excTail [.type "RuntimeError", .type "Exception", .type "BaseException", .type "object"] bm = true
def tReI (K : PySem.W.Frag) (ta : TA) : TE := fun σ H Q => ta σ H fun vs H1 => ∃ (a C : Addr) (ws : List V), vs = .ref a :: ws ∧ ws.length ≤ 1000 ∧ OverR K C ∧ H1 a = some (exo a C none) ∧ Q .non H1
theorem pe_reinit {X : Cx} {e : Expr} {es : List Expr} {ta : TA} {p1 p2 pos : Pos} {pl : Sem Bool} (hg : Gl X "RuntimeError") (hm : X.mg "RuntimeError" = none) (vV : PySem.W.findCls X.K (.type "RuntimeError") (.type "type") "__init__" = some (.val (.builtin "RuntimeError.__init__"))) (ha : PA X (e :: es) ta)
    (hc : eval (.Call (.Attribute (.Name "RuntimeError" p1) "__init__" p2) (e :: es) [] pos) X.env = (do
      let ov ← eval (.Name "RuntimeError" p1) X.env
      standAt p2.atName
      let (f, first) ← holding [ov] (getMethod ov "__init__" pl)
      callWith pos f first (backTo pos (starEach (e :: es) X.env)) (backToKw pos (keywordEach [] X.env))) := by rfl)
    (he : starEach (e :: es) X.env = (false, eval e X.env) :: starEach es X.env := by rfl) (hpl : (backTo pos (starEach es X.env)).any (·.1) = false := by rfl) :
    PE X (.Call (.Attribute (.Name "RuntimeError" p1) "__init__" p2) (e :: es) [] pos) (tReI X.K ta) := by
  constructor
  intro pn s σ H Q I h
  refine PySem.W.methodCall_KW (ld_blt I hg hm PyProof.Rows.Boot.«RuntimeError» ?_ (by decide) (by decide)) hc
  obtain ⟨m, fr⟩ := I.fr
  refine PySem.W.method_type fr I.ok.mod.kin typ_re (by decide +kernel) vV (by decide +kernel) ?_
  show wpAny _ _ (callWith pos (Value.builtin "RuntimeError.__init__") [] (backTo pos (starEach (e :: es) X.env)) []) _ _ _
  refine PyProof.Rows.callWith_method1 (thn (ha.run pos pn _ σ H _ (I.tok _) h) fun us s1 hz => ?_) he hpl
  obtain ⟨vs, H1, I1, r1, a, C, ws, rfl, hl, hC, ea, q⟩ := hz
  obtain ⟨nm, qn, N, bs, bm, sn, sub, ab, col, dd, k0, k1, k2, k3, k5, o, tl⟩ := hC
  cases r1 with
  | @cons _ u0 _ ur ra rw' =>
    cases ra
    have fits : ur.length ≤ sizeLine := by
      rw [← Paired.length rw', sizeLine_eq]
      omega
    obtain ⟨t1, ho⟩ := exo_at I1.hok ea
    obtain ⟨hp, gs, d, t, os⟩ := s1
    apply wpAny_call
    refine HandSPX.init_base F.excBase_RuntimeError (fun Y => PySem.W.excTail_contains Y bm tl) (I1.kIn _ _ o) ho fits fun h' t2 k hx => ?_
    have J := I1.write (t' := t) (x := a) (e := a) (o := exo a C none) (by rw [ea]; exact True.intro) (.inl rfl) k ⟨_, hx⟩ (exo_ok hx)
    have same : upd H1 a (exo a C none) = H1 := by
      funext b
      by_cases hb : b = a
      · subst hb
        rw [upd_same, ea]
      · exact upd_ne hb
    rw [same] at J
    exact ⟨.non, H1, J, rfl, q⟩
def spI0 (K : PySem.W.Frag) (C : Addr) : Sp := fun vs H Q _ => ∃ a : Addr, vs = [.ref a] ∧ H a = some (exo a C none) ∧ Q .non H
end Tk

set_option Elab.async false
set_option linter.all false
set_option maxRecDepth 100000
set_option maxHeartbeats 4000000
-- TOKS 
namespace K03
open PySem PySem.Spec PyProof.Rows L2 Tk
local macro_rules | `(tactic| walk_at "rd1") => `(tactic| first
  | with_reducible refine r_seq ?_
  | ((with_reducible refine r_var (v := ?vv) ?hrv ?_); (case hrv => rfl))
  | with_reducible refine r_c ?_
  | with_reducible refine r_op ?_
  | ((with_reducible refine r_ixL (xs := ?xx) (v := ?vv) ?hh ?he ?_); (case hh => first | assumption | exact upd_same); (case he => rfl))
  | with_reducible refine r_asg ?_
  | with_reducible refine r_sub ?_
  | ((with_reducible refine r_gTup (xs := ?xx) ?hh ?he ?_); (case hh => assumption); (case he => rfl))
  | with_reducible refine r_gCons ?_
  | with_reducible refine r_gNil ?_
  | ((with_reducible refine r_setL (xs := ?xx) (j := ?vv) ?hh ?he ?_); (case hh => first | assumption | exact upd_same); (case he => rfl))
  | with_reducible refine r_pow15 ?_
  | with_reducible refine r_pow18 ?_
  | with_reducible refine r_repr ?_
  | with_reducible refine iteT ?_
  | with_reducible refine iteF ?_
  | with_reducible refine r_cons ?_
  | with_reducible refine r_nil ?_
  | with_reducible refine r_call ?_
  | with_reducible refine r_cb ?_
  | with_reducible refine r_ret ?_
  | with_reducible refine r_gName ?_
  | with_reducible refine r_next ?_
  | with_reducible refine r_ifS ?_
  | with_reducible refine r_un ?_
  | with_reducible refine r_U ?_
  | with_reducible refine r_max2 ?_
  | with_reducible refine r_min2 ?_
  | with_reducible refine r_sl ?_
  | with_reducible refine r_noPart ?_
  | with_reducible refine r_part ?_
  | with_reducible refine r_inti ?_
  | with_reducible refine r_lc ?_
  | with_reducible refine r_for ?_
  | with_reducible refine r_rng1 ?_
  | with_reducible refine r_iList ?_
  | with_reducible refine r_iTup ?_
  | with_reducible refine r_iStr ?_
  | with_reducible refine r_strx ?_
  | ((with_reducible refine r_j ?hh ?hi ?_); (case hh => omega); (case hi => omega))
  | with_reducible refine r_m1 ?_
  | with_reducible refine r_test ?_
  | with_reducible refine r_B ?_
  | with_reducible refine r_not ?_
  | with_reducible refine r_and ?_
  | with_reducible refine r_or ?_
  | with_reducible refine r_andV ?_
  | with_reducible refine r_orV ?_
  | with_reducible refine r_notV ?_
  | with_reducible refine r_if ?_
  | with_reducible refine r_chain ?_
  | with_reducible refine r_lst ?_
  | with_reducible refine r_tup ?_
  | with_reducible refine r_k ?_
  | ((with_reducible refine r_isiS (d := ?dd) ?hh ?_); (case hh => assumption))
  | ((with_reducible refine r_isiT (d := ?dd) ?hh ?_); (case hh => assumption))
  | ((with_reducible refine r_isiI (d := ?dd) ?hh ?_); (case hh => assumption))
  | ((with_reducible refine r_isiB (d := ?dd) ?hh ?_); (case hh => assumption))
  | ((with_reducible refine r_lenS ?hh ?_); (case hh => assumption))
  | ((with_reducible refine r_lenT (xs := ?dd) ?hh ?_); (case hh => assumption))
  | ((with_reducible refine r_ixT (xs := ?xx) (v := ?vv) ?hh ?he ?_); (case hh => assumption); (case he => rfl))
  | with_reducible refine r_isN ?_
  | with_reducible refine r_I0 ?_
  | with_reducible refine g_addI ?_
  | ((with_reducible refine r_mod ?hh ?_); (case hh => first | decide | omega))
  | ((with_reducible refine r_div ?hh ?hi ?_); (case hh => first | decide | omega); (case hi => first | decide | omega))
  | ((with_reducible refine g_mulB ?hh ?hi ?_); (case hh => omega); (case hi => omega))
  | with_reducible refine g_ltI ?_
  | with_reducible refine g_leI ?_
  | with_reducible refine g_gtI ?_
  | with_reducible refine g_geI ?_
  | with_reducible refine g_eqI ?_
  | with_reducible refine g_neI ?_
  | with_reducible refine g_eqS ?_
  | with_reducible refine g_neS ?_
  | with_reducible refine g_leS ?_
  | with_reducible refine g_ltS ?_)
local macro_rules | `(tactic| walk_at "rd") => `(tactic| repeat (walk_at "rd1"))
local macro_rules | `(tactic| walk_at "ed") => `(tactic| repeat first
  | exact ed_int
  | exact ed_str
  | exact ed_bl
  | exact ed_non
  | exact ed_nil
  | exact ed_dct
  | exact ed_neg
  | with_reducible apply ed_cons
  | with_reducible apply ed_tup
  | with_reducible apply ed_lst
  | exact Nat.le_of_ble_eq_true rfl)
local macro_rules | `(tactic| walk_at "tx1") => `(tactic| first
  | walk_at "rd1"
  | with_reducible refine r_callS ?_
  | with_reducible refine r_zipA ?_
  | with_reducible refine r_par ?_
  | with_reducible refine r_pair ?_
  | with_reducible refine r_pow6 ?_
  | with_reducible refine r_m0 ?_
  | with_reducible refine r_bm ?_
  | with_reducible refine r_isS ?_
  | with_reducible refine r_told ?_
  | with_reducible refine r_js ?_
  | with_reducible refine r_jsNil ?_
  | with_reducible refine r_repl ?_
  | ((with_reducible refine r_gLst (xs := ?xx) ?hh ?he ?_); (case hh => assumption); (case he => rfl))
  | ((with_reducible refine r_lenL (xs := ?xx) ?hh ?_); (case hh => assumption)))
local macro_rules | `(tactic| walk_at "tx") => `(tactic| repeat (walk_at "tx1"))
def top (i : Nat) : Stmt := PySem.Challenge.pw_tombkeeper_k03_exceptions_apart.main.body.getD i (.Pass ⟨0, 0, 0, 0⟩)
structure Txt (mg : Str → Option Value) : Prop where
  z_len : mg "len" = none
  z_isinstance : mg "isinstance" = none
  z_repr : mg "repr" = none
  z_range : mg "range" = none
  z_max : mg "max" = none
  z_min : mg "min" = none
  z_enumerate : mg "enumerate" = none
  z_ValueError : mg "ValueError" = none
  z_KeyError : mg "KeyError" = none
  z_RuntimeError : mg "RuntimeError" = none
/-- where the classes are -/
structure Ad where
  BadEntry : Addr
  BadEntries : Addr
  BadText : Addr
  BadEvent : Addr
  BadWorld : Addr
  BadKey : Addr
  BadStamp : Addr
  BadHomes : Addr
  BadRow : Addr
  BadStory : Addr
  BadLimit : Addr
  BadPolicy : Addr
  BadKeys : Addr
  BadDepth : Addr
  BadSkips : Addr
  BadPlan : Addr
  BadQuestion : Addr
  BadLine : Addr
  NotARun : Addr
  NoMoment : Addr
  TooLong : Addr
  NoEntry : Addr
  NoHome : Addr
  NoLink : Addr
  Refused : Addr
  NoWorld : Addr
  TombError : Addr
def Ad.all (A : Ad) : List Addr := [A.BadEntry, A.BadEntries, A.BadText, A.BadEvent, A.BadWorld, A.BadKey, A.BadStamp, A.BadHomes, A.BadRow, A.BadStory, A.BadLimit, A.BadPolicy, A.BadKeys, A.BadDepth, A.BadSkips, A.BadPlan, A.BadQuestion, A.BadLine, A.NotARun, A.NoMoment, A.TooLong, A.NoEntry, A.NoHome, A.NoLink, A.Refused]
def Ad.every (A : Ad) : List Addr := A.NoWorld :: A.all
def isK (K : PySem.W.Frag) (D : Addr) (c : Value) : Bool := (PySem.W.kitOne K (.ref D) c).getD false
def Ad.vals (A : Ad) : List Value := [.ref A.TombError, .type "ValueError", .type "KeyError", .type "RuntimeError"] ++ A.all.map .ref
def kindsD (K : PySem.W.Frag) (A : Ad) (D : Addr) : List PyData := [.bool (isK K D (.ref A.TombError)), .bool (isK K D (.type "ValueError")), .bool (isK K D (.type "KeyError")), .bool (isK K D (.type "RuntimeError"))]
def clasD (K : PySem.W.Frag) (A : Ad) (D : Addr) : List PyData := A.all.map fun C => .bool (isK K D (.ref C))
structure Errs (P : Program) (w : World) (K : PySem.W.Frag) (mg : Str → Option Value) (base : Heap) (A : Ad) : Prop where
  z_BadEntry : ErrC P w K mg base "BadEntry" A.BadEntry ["self", "value"] (spI1 K A.BadEntry)
  z_BadEntries : ErrC P w K mg base "BadEntries" A.BadEntries ["self", "value"] (spI1 K A.BadEntries)
  z_BadText : ErrC P w K mg base "BadText" A.BadText ["self", "value"] (spI1 K A.BadText)
  z_BadEvent : ErrC P w K mg base "BadEvent" A.BadEvent ["self", "value"] (spI1 K A.BadEvent)
  z_BadWorld : ErrC P w K mg base "BadWorld" A.BadWorld ["self", "value"] (spI1 K A.BadWorld)
  z_BadKey : ErrC P w K mg base "BadKey" A.BadKey ["self", "value"] (spI1 K A.BadKey)
  z_BadStamp : ErrC P w K mg base "BadStamp" A.BadStamp ["self", "value"] (spI1 K A.BadStamp)
  z_BadHomes : ErrC P w K mg base "BadHomes" A.BadHomes ["self", "value"] (spI1 K A.BadHomes)
  z_BadRow : ErrC P w K mg base "BadRow" A.BadRow ["self", "value"] (spI1 K A.BadRow)
  z_BadStory : ErrC P w K mg base "BadStory" A.BadStory ["self", "value"] (spI1 K A.BadStory)
  z_BadLimit : ErrC P w K mg base "BadLimit" A.BadLimit ["self", "value"] (spI1 K A.BadLimit)
  z_BadPolicy : ErrC P w K mg base "BadPolicy" A.BadPolicy ["self", "value"] (spI1 K A.BadPolicy)
  z_BadKeys : ErrC P w K mg base "BadKeys" A.BadKeys ["self", "value"] (spI1 K A.BadKeys)
  z_BadDepth : ErrC P w K mg base "BadDepth" A.BadDepth ["self", "value"] (spI1 K A.BadDepth)
  z_BadSkips : ErrC P w K mg base "BadSkips" A.BadSkips ["self", "value"] (spI1 K A.BadSkips)
  z_BadPlan : ErrC P w K mg base "BadPlan" A.BadPlan ["self", "value"] (spI1 K A.BadPlan)
  z_BadQuestion : ErrC P w K mg base "BadQuestion" A.BadQuestion ["self", "value"] (spI1 K A.BadQuestion)
  z_BadLine : ErrC P w K mg base "BadLine" A.BadLine ["self", "value"] (spI1 K A.BadLine)
  z_NotARun : ErrC P w K mg base "NotARun" A.NotARun ["self", "value"] (spI1 K A.NotARun)
  z_NoMoment : ErrC P w K mg base "NoMoment" A.NoMoment ["self", "value"] (spI1 K A.NoMoment)
  z_TooLong : ErrC P w K mg base "TooLong" A.TooLong ["self", "value"] (spI1 K A.TooLong)
  z_NoEntry : ErrC P w K mg base "NoEntry" A.NoEntry ["self", "value"] (spI1 K A.NoEntry)
  z_NoHome : ErrC P w K mg base "NoHome" A.NoHome ["self", "value"] (spI1 K A.NoHome)
  z_NoLink : ErrC P w K mg base "NoLink" A.NoLink ["self", "value"] (spI1 K A.NoLink)
  z_Refused : ErrC P w K mg base "Refused" A.Refused ["self", "word", "value"] (spI2 K A.Refused)
  z_NoWorld : ErrC P w K mg base "NoWorld" A.NoWorld ["self"] (spI0 K A.NoWorld)
  tomb : mg "TombError" = some (.ref A.TombError)
  xc : ∀ D ∈ A.every, ExcC K D
  xf : ∀ D ∈ A.all, XfC K D ∧ PySem.W.findIn K (.ref D) "value" = some none
  xw : PySem.W.findIn K (.ref A.Refused) "word" = some none
  tab : ∀ D ∈ A.every, ∀ c ∈ A.vals, (PySem.W.kitOne K (.ref D) c).isSome = true
  kin : ∀ i (h : i < 25), kindsD K A (A.all[i]'h) = if i < 21 then [.bool true, .bool true, .bool false, .bool false] else [.bool false, .bool false, .bool (decide (i < 24)), .bool (i == 24)]
  cla : ∀ i (h : i < 25), clasD K A (A.all[i]'h) = (List.range 25).map fun j => .bool (i == j)
  kinW : kindsD K A A.NoWorld = [.bool false, .bool false, .bool false, .bool true]
  claW : clasD K A A.NoWorld = List.replicate 25 (.bool false)
theorem g_catL {K : PySem.W.Frag} {l b : Addr} {xs zs : List V} {H : Hp} {Q : VK} (e1 : H l = some (.lst xs)) (e2 : H b = some (.lst zs)) (hl : xs.length + zs.length ≤ 100000) (q : ∀ p H', H p = none → Same H H' → H' p = some (.lst (xs ++ zs)) → Q (.ref p) H') : GAdd K (.ref l) (.ref b) H Q :=
  .inr (.inr (.inl ⟨l, b, xs, zs, rfl, rfl, e1, e2, by unfold sizeLine; omega, fun p hp => q p _ hp (Same.new hp) upd_same⟩))
/-- an error, with a dict or without -/
def ErrX (H : Hp) (a D : Addr) : Prop := ∃ d, H a = some (exo a D d) ∧ ∀ dd, d = some dd → ∃ fs, H dd = some (exd dd fs)
theorem ErrX.same {H H2 : Hp} {a D : Addr} (S : Same H H2) (h : ErrX H a D) : ErrX H2 a D := by
  obtain ⟨d, h1, h2⟩ := h
  refine ⟨d, S _ _ h1, fun dd e => ?_⟩
  obtain ⟨fs, q⟩ := h2 dd e
  exact ⟨fs, S _ _ q⟩
theorem ErrX.of {H : Hp} {a D : Addr} {fs : List (Str × V)} (h : ErrAt H a D fs) : ErrX H a D := by
  obtain ⟨d, h1, h2⟩ := h
  refine ⟨some d, h1, fun dd e => ?_⟩
  cases e
  exact ⟨fs, h2⟩
section
variable {P : Program} {w : World} {K : PySem.W.Frag} {mg : Str → Option Value} {base : Heap} {A : Ad} {H : Hp} {a D C : Addr} {Q : VK}
theorem r_isR (Z : Errs P w K mg base A) (hx : ErrX H a D) (hD : D ∈ A.every) (hC : Value.ref C ∈ A.vals) (q : Q (.bl (isK K D (.ref C))) H) : rIsX K [.ref a, .ref C] H Q := by
  obtain ⟨d, h1, h2⟩ := hx
  have t := Z.tab D hD _ hC
  obtain ⟨b, hb⟩ := Option.isSome_iff_exists.mp t
  have e : isK K D (.ref C) = b := by unfold isK; rw [hb]; rfl
  rw [e] at q
  exact ⟨a, D, d, .ref C, .ref C, b, rfl, h1, h2, Z.xc D hD, fun u r => r, hb, q⟩
theorem r_isN (Z : Errs P w K mg base A) {n : String} (hx : ErrX H a D) (hD : D ∈ A.every) (hC : Value.type n ∈ A.vals) (q : Q (.bl (isK K D (.type n))) H) : rIsX K [.ref a, .ty n] H Q := by
  obtain ⟨d, h1, h2⟩ := hx
  have t := Z.tab D hD _ hC
  obtain ⟨b, hb⟩ := Option.isSome_iff_exists.mp t
  have e : isK K D (.type n) = b := by unfold isK; rw [hb]; rfl
  rw [e] at q
  exact ⟨a, D, d, .ty n, .type n, b, rfl, h1, h2, Z.xc D hD, fun u r => r, hb, q⟩
theorem bools_all : ∀ {bs : List Bool} {H : Hp}, DdAll K H (bs.map V.bl) (bs.map PyData.bool)
  | [], _ => .nil
  | b :: r, _ => .cons (.bl b) bools_all
end
section
variable {P : Program} {w : World} {K : PySem.W.Frag} {mg : Str → Option Value} {base : Heap}
abbrev s_L_take : Stmt := top 30
abbrev n_L_take : List Str := ["_law_pool_here", "_law_many", "_law_found"]
abbrev p_L_take : List Str := ["_law_pool_here", "_law_many"]
theorem sc_L_take : FnScope n_L_take p_L_take (defScope s_L_take) := ⟨rfl, rfl, rfl, by decide +kernel, rfl, by decide +kernel, by decide +kernel⟩
theorem ok_L_take (T : Txt mg ) {f : Addr} {fd : FuncData} (F : Fun K "_law_take" "_law_take" s_L_take f fd) : FnOk P w K mg base CX0 1 f fd p_L_take spTake := by
  refine F.ok sc_L_take (fun vs H Q E h => spTake_len h) (fun cdv A outer s H vs Q E hr h => ?_)
  obtain ⟨p, m, rfl, ⟨a, b, hp, ha, hb, hb2⟩, hm, hm2, k⟩ := h
  have hu := hr.units
  have dr : ∀ {o : HO}, PoolAt (upd H p o) p → Drawn p H (upd H p o) := fun h => ⟨fun c u e n => by rw [upd_ne n]; exact e, h⟩
  refine ⟨_, (pss_cons (ps_if (pt_cmpR o_gt (pe_ix k_ix (pv 0) pe_int (fun _ _ => rfl)) pe_int (nomark _)) (pss_cons (ps_set (i := 2) sc_L_take.nd rfl (by first | exact Or.inl rfl | exact Or.inr rfl) (pe_op op_mod (pe_ix k_ix (pv 0) pe_int (fun _ _ => rfl)) (pv 1)))
      (pss_cons (ps_asg (pe_op o_fdiv (pe_ix k_ix (pv 0) pe_int (fun _ _ => rfl)) (pv 1)) (pg_sub (pv 0) pe_int set_list))
      (pss_one (ps_ret (pv 2))))) pss_nil)
      (pss_cons (ps_asg (pe_op op_mod (pe_op k_add (pe_op o_mul (pe_ix k_ix (pv 0) pe_int (fun _ _ => rfl)) pe_int) pe_int) pe_int) (pg_sub (pv 0) pe_int set_list))
      (pss_one (ps_ret (pe_op op_mod (pe_op o_fdiv (pe_op op_mod (pe_op o_mul (pe_ix k_ix (pv 0) pe_int (fun _ _ => rfl)) (pe_ix k_ix (pv 0) pe_int (fun _ _ => rfl))) pe_int) pe_int) (pv 1)))))), ?_⟩
  walk_at "rd"
  refine r_dec (fun c => ?_) (fun c => ?_)
  · walk_at "rd"
    exact k _ _ (Int.emod_nonneg _ (by omega)) (Int.emod_lt_of_pos _ hm) (dr (pool_mk (Int.ediv_nonneg ha (Int.le_of_lt hm)) hb hb2))
  · walk_at "rd"
    exact k _ _ (Int.emod_nonneg _ (by omega)) (Int.emod_lt_of_pos _ hm) (dr (pool_mk ha (Int.emod_nonneg _ (by decide)) (Int.emod_lt_of_pos _ (by decide))))
abbrev s_L_pool : Stmt := top 29
abbrev n_L_pool : List Str := ["_law_script", "_law_k", "_law_cell", "_law_seed"]
abbrev p_L_pool : List Str := ["_law_script", "_law_k"]
theorem sc_L_pool : FnScope n_L_pool p_L_pool (defScope s_L_pool) := ⟨rfl, rfl, rfl, by decide +kernel, rfl, by decide +kernel, by decide +kernel⟩
theorem ok_L_pool (T : Txt mg ) {f : Addr} {fd : FuncData} (F : Fun K "_law_pool" "_law_pool" s_L_pool f fd) : FnOk P w K mg base CX0 1 f fd p_L_pool (spPool K) := by
  refine F.ok sc_L_pool (fun vs H Q E h => spPool_len h) (fun cdv A outer s H vs Q E hr h => ?_)
  obtain ⟨sc, ns, i, rfl, hS, hl, h0, h1, k⟩ := h
  have hu := hr.units
  refine ⟨_, (pss_cons (ps_set (i := 2) sc_L_pool.nd rfl (by first | exact Or.inl rfl | exact Or.inr rfl) pe_int)
      (pss_cons (ps_if (pt_cmpR o_lt (pv 1) (pe_callB k_len (by rfl) T.z_len (by decide +kernel) (pa_cons (pv 0) pa_nil)) (nomark _)) (pss_one (ps_set (i := 2) sc_L_pool.nd rfl (by first | exact Or.inl rfl | exact Or.inr rfl) (pe_ix k_ix (pv 0) (pv 1) (fun _ _ => rfl)))) pss_nil)
      (pss_cons (ps_set (i := 3) sc_L_pool.nd rfl (by first | exact Or.inl rfl | exact Or.inr rfl) (pe_op op_mod (pe_op o_mul (pe_op k_add (pe_op k_add (pe_op op_mod (pv 2) pe_int) (pe_op o_mul (pe_op o_mul pe_int (pv 1)) (pv 1))) pe_int) pe_int) pe_int))
      (pss_cons (ps_if (pt_cmpR o_lt (pv 2) (pe_op op_pow pe_int pe_int) (nomark _)) (pss_one (ps_set (i := 2) sc_L_pool.nd rfl (by first | exact Or.inl rfl | exact Or.inr rfl) pe_int)) pss_nil)
      (pss_one (ps_ret (pe_lst (pa_cons (pv 2) (pa_cons (pe_op k_add (pe_op op_mod (pe_op o_mul (pv 3) (pv 3)) pe_int) pe_int) pa_nil))))))))), ?_⟩
  have fin : ∀ c : Int, (tSeq (tAsg (tOp (rI (fun x j => 0 < j) fun i j => V.int (i % j)) (tOp GMul (tOp (GAdd K) (tOp (GAdd K) (tOp (rI (fun x j => 0 < j) fun i j => V.int (i % j)) (tVar 2) (tC (V.int 2147483629))) (tOp GMul (tOp GMul (tC (V.int 7919)) (tVar 1)) (tVar 1))) (tC (V.int 13))) (tC (V.int 48271))) (tC (V.int 2147483647))) (gName 3)) (tSeq (tIfS (tTest (tOp GLt (tVar 2) (tOp (rI CPow fun i j => V.int (i ^ j.toNat)) (tC (V.int 10)) (tC (V.int 18))))) (tAsg (tC (V.int 0)) (gName 2)) tNext) (tRet (tLst (tCons (tVar 2) (tCons (tOp (GAdd K) (tOp (rI (fun x j => 0 < j) fun i j => V.int (i % j)) (tOp GMul (tVar 3) (tVar 3)) (tC (V.int 2147483587))) (tC (V.int 1))) tNil)))))) { nx := fun x H' => Q V.non H', rt := Q } [some (.ref sc), some (.int i), some (.int c), none] H := by
    intro c
    have e1 := Int.emod_nonneg c (show (2147483629 : Int) ≠ 0 by decide)
    have e2 := Int.emod_lt_of_pos c (show (0 : Int) < 2147483629 by decide)
    have e3 : 0 ≤ 7919 * i * i := Int.mul_nonneg (Int.mul_nonneg (by decide) h0) h0
    have e4 : 7919 * i * i ≤ 7919 * i * 64 := Int.mul_le_mul_of_nonneg_left (by omega) (Int.mul_nonneg (by decide) h0)
    walk_at "rd"
    generalize hx : (c % 2147483629 + 7919 * i * i + 13) * 48271 % 2147483647 = x
    have x1 : 0 ≤ x := by rw [← hx]; exact Int.emod_nonneg _ (by decide)
    have x2 : x < 2147483647 := by rw [← hx]; exact Int.emod_lt_of_pos _ (by decide)
    have y1 := Int.emod_nonneg (x * x) (show (2147483587 : Int) ≠ 0 by decide)
    have y2 := Int.emod_lt_of_pos (x * x) (show (0 : Int) < 2147483587 by decide)
    refine r_dec (fun c1 => ?_) (fun c1 => ?_)
    · walk_at "rd"
      exact ⟨by show 2 ≤ sizeLine; decide, fun p hp => k p _ hp (Same.new hp) (pool_mk (by decide) (by omega) (by omega))⟩
    · walk_at "rd"
      exact ⟨by show 2 ≤ sizeLine; decide, fun p hp => k p _ hp (Same.new hp) (pool_mk (by omega) (by omega) (by omega))⟩
  walk_at "rd"
  refine r_lenQ hS ?_
  walk_at "rd"
  refine r_dec (fun c1 => ?_) (fun c1 => ?_)
  · rw [List.length_map] at c1
    walk_at "rd"
    obtain ⟨j, rfl⟩ := Int.eq_ofNat_of_zero_le h0
    have hj : j < ns.length := by omega
    refine r_ixQ (v := .int ns[j]) hS (atI_nat (by simp [hj])) ?_
    exact fin _
  · exact fin _

end
end K03

set_option Elab.async false
set_option linter.all false
set_option maxRecDepth 100000
set_option maxHeartbeats 4000000
namespace K03
open PySem PySem.Spec PyProof.Rows L2 Tk
local macro_rules | `(tactic| walk_at "rd1") => `(tactic| first
  | with_reducible refine r_seq ?_
  | ((with_reducible refine r_var (v := ?vv) ?hrv ?_); (case hrv => rfl))
  | with_reducible refine r_c ?_
  | with_reducible refine r_op ?_
  | ((with_reducible refine r_ixL (xs := ?xx) (v := ?vv) ?hh ?he ?_); (case hh => first | assumption | exact upd_same); (case he => rfl))
  | with_reducible refine r_asg ?_
  | with_reducible refine r_sub ?_
  | ((with_reducible refine r_gTup (xs := ?xx) ?hh ?he ?_); (case hh => assumption); (case he => rfl))
  | with_reducible refine r_gCons ?_
  | with_reducible refine r_gNil ?_
  | ((with_reducible refine r_setL (xs := ?xx) (j := ?vv) ?hh ?he ?_); (case hh => first | assumption | exact upd_same); (case he => rfl))
  | with_reducible refine r_pow15 ?_
  | with_reducible refine r_pow18 ?_
  | with_reducible refine r_repr ?_
  | with_reducible refine iteT ?_
  | with_reducible refine iteF ?_
  | with_reducible refine r_cons ?_
  | with_reducible refine r_nil ?_
  | with_reducible refine r_call ?_
  | with_reducible refine r_cb ?_
  | with_reducible refine r_ret ?_
  | with_reducible refine r_gName ?_
  | with_reducible refine r_next ?_
  | with_reducible refine r_ifS ?_
  | with_reducible refine r_un ?_
  | with_reducible refine r_U ?_
  | with_reducible refine r_max2 ?_
  | with_reducible refine r_min2 ?_
  | with_reducible refine r_sl ?_
  | with_reducible refine r_noPart ?_
  | with_reducible refine r_part ?_
  | with_reducible refine r_inti ?_
  | with_reducible refine r_lc ?_
  | with_reducible refine r_for ?_
  | with_reducible refine r_rng1 ?_
  | with_reducible refine r_iList ?_
  | with_reducible refine r_iTup ?_
  | with_reducible refine r_iStr ?_
  | with_reducible refine r_strx ?_
  | ((with_reducible refine r_j ?hh ?hi ?_); (case hh => omega); (case hi => omega))
  | with_reducible refine r_m1 ?_
  | with_reducible refine r_test ?_
  | with_reducible refine r_B ?_
  | with_reducible refine r_not ?_
  | with_reducible refine r_and ?_
  | with_reducible refine r_or ?_
  | with_reducible refine r_andV ?_
  | with_reducible refine r_orV ?_
  | with_reducible refine r_notV ?_
  | with_reducible refine r_if ?_
  | with_reducible refine r_chain ?_
  | with_reducible refine r_lst ?_
  | with_reducible refine r_tup ?_
  | with_reducible refine r_k ?_
  | ((with_reducible refine r_isiS (d := ?dd) ?hh ?_); (case hh => assumption))
  | ((with_reducible refine r_isiT (d := ?dd) ?hh ?_); (case hh => assumption))
  | ((with_reducible refine r_isiI (d := ?dd) ?hh ?_); (case hh => assumption))
  | ((with_reducible refine r_isiB (d := ?dd) ?hh ?_); (case hh => assumption))
  | ((with_reducible refine r_lenS ?hh ?_); (case hh => assumption))
  | ((with_reducible refine r_lenT (xs := ?dd) ?hh ?_); (case hh => assumption))
  | ((with_reducible refine r_ixT (xs := ?xx) (v := ?vv) ?hh ?he ?_); (case hh => assumption); (case he => rfl))
  | with_reducible refine r_isN ?_
  | with_reducible refine r_I0 ?_
  | with_reducible refine g_addI ?_
  | ((with_reducible refine r_mod ?hh ?_); (case hh => first | decide | omega))
  | ((with_reducible refine r_div ?hh ?hi ?_); (case hh => first | decide | omega); (case hi => first | decide | omega))
  | ((with_reducible refine g_mulB ?hh ?hi ?_); (case hh => omega); (case hi => omega))
  | with_reducible refine g_ltI ?_
  | with_reducible refine g_leI ?_
  | with_reducible refine g_gtI ?_
  | with_reducible refine g_geI ?_
  | with_reducible refine g_eqI ?_
  | with_reducible refine g_neI ?_
  | with_reducible refine g_eqS ?_
  | with_reducible refine g_neS ?_
  | with_reducible refine g_leS ?_
  | with_reducible refine g_ltS ?_)
local macro_rules | `(tactic| walk_at "rd") => `(tactic| repeat (walk_at "rd1"))
local macro_rules | `(tactic| walk_at "ed") => `(tactic| repeat first
  | exact ed_int
  | exact ed_str
  | exact ed_bl
  | exact ed_non
  | exact ed_nil
  | exact ed_dct
  | exact ed_neg
  | with_reducible apply ed_cons
  | with_reducible apply ed_tup
  | with_reducible apply ed_lst
  | exact Nat.le_of_ble_eq_true rfl)
local macro_rules | `(tactic| walk_at "tx1") => `(tactic| first
  | walk_at "rd1"
  | with_reducible refine r_callS ?_
  | with_reducible refine r_zipA ?_
  | with_reducible refine r_par ?_
  | with_reducible refine r_pair ?_
  | with_reducible refine r_pow6 ?_
  | with_reducible refine r_m0 ?_
  | with_reducible refine r_bm ?_
  | with_reducible refine r_isS ?_
  | with_reducible refine r_told ?_
  | with_reducible refine r_js ?_
  | with_reducible refine r_jsNil ?_
  | with_reducible refine r_repl ?_
  | ((with_reducible refine r_gLst (xs := ?xx) ?hh ?he ?_); (case hh => assumption); (case he => rfl))
  | ((with_reducible refine r_lenL (xs := ?xx) ?hh ?_); (case hh => assumption)))
local macro_rules | `(tactic| walk_at "tx") => `(tactic| repeat (walk_at "tx1"))
section
variable {P : Program} {w : World} {K : PySem.W.Frag} {mg : Str → Option Value} {base : Heap} {A : Ad}
def spKinds (K : PySem.W.Frag) (A : Ad) : Sp := fun vs H Q _ => ∃ a D : Addr, vs = [.ref a] ∧ ErrX H a D ∧ D ∈ A.every ∧ ∀ p H2, Same H H2 → Dd K H2 p (.list (kindsD K A D)) → Q p H2
def spClas (K : PySem.W.Frag) (A : Ad) : Sp := fun vs H Q _ => ∃ a D : Addr, vs = [.ref a] ∧ ErrX H a D ∧ D ∈ A.every ∧ ∀ p H2, Same H H2 → Dd K H2 p (.list (clasD K A D)) → Q p H2
abbrev s_NoWorld___init__ : Stmt := inClass (top 27) 0
abbrev n_NoWorld___init__ : List Str := ["self"]
abbrev p_NoWorld___init__ : List Str := ["self"]
theorem sc_NoWorld___init__ : FnScope n_NoWorld___init__ p_NoWorld___init__ (defScope s_NoWorld___init__) := ⟨rfl, rfl, rfl, by decide +kernel, rfl, by decide +kernel, by decide +kernel⟩
theorem ok_NoWorld (T : Txt mg) {f C : Addr} {fd : FuncData} (hRe : PySem.W.findCls K (.type "RuntimeError") (.type "type") "__init__" = some (.val (.builtin "RuntimeError.__init__"))) (O : OverR K C) (F : Fun K "__init__" "NoWorld.__init__" s_NoWorld___init__ f fd) : FnOk P w K mg base CX0 1 f fd p_NoWorld___init__ (spI0 K C) := by
  refine F.ok sc_NoWorld___init__ (fun vs H Q E h => ?_) (fun cdv A outer s H vs Q E hr h => ?_)
  · obtain ⟨a, rfl, _⟩ := h
    rfl
  obtain ⟨a, rfl, ha, k⟩ := h
  have hu := hr.units
  refine ⟨_, (pss_one (ps_expr (pe_reinit rfl T.z_RuntimeError hRe (pa_cons (pv 0) (pa_cons pe_str pa_nil))))), ?_⟩
  walk_at "rd"
  exact ⟨_, rfl, a, C, [.str _], rfl, by simp, O, ha, k⟩
abbrev s_L_kinds : Stmt := top 32
abbrev n_L_kinds : List Str := ["_law_e"]
abbrev p_L_kinds : List Str := ["_law_e"]
theorem sc_L_kinds : FnScope n_L_kinds p_L_kinds (defScope s_L_kinds) := ⟨rfl, rfl, rfl, by decide +kernel, rfl, by decide +kernel, by decide +kernel⟩
theorem ok_L_kinds (T : Txt mg) (Z : Errs P w K mg base A) {f : Addr} {fd : FuncData} (F : Fun K "_law_kinds" "_law_kinds" s_L_kinds f fd) : FnOk P w K mg base CX0 2 f fd p_L_kinds (spKinds K A) := by
  refine F.ok sc_L_kinds (fun vs H Q E h => ?_) (fun cdv AR outer s H vs Q E hr h => ?_)
  · obtain ⟨a, D, rfl, _⟩ := h
    rfl
  obtain ⟨a, D, rfl, hx, hD, k⟩ := h
  have hu := hr.units
  refine ⟨_, (pss_one (ps_ret (pe_lst (pa_cons (pe_callB call_isX (by rfl) T.z_isinstance (by decide +kernel) (pa_cons (pv 0) (pa_cons (pe_glob (v := .ref A.TombError) rfl Z.tomb rfl) pa_nil))) (pa_cons (pe_callB call_isX (by rfl) T.z_isinstance (by decide +kernel) (pa_cons (pv 0) (pa_cons (pe_bltn (v := .ty "ValueError") rfl T.z_ValueError (by decide +kernel) rfl) pa_nil))) (pa_cons (pe_callB call_isX (by rfl) T.z_isinstance (by decide +kernel) (pa_cons (pv 0) (pa_cons (pe_bltn (v := .ty "KeyError") rfl T.z_KeyError (by decide +kernel) rfl) pa_nil))) (pa_cons (pe_callB call_isX (by rfl) T.z_isinstance (by decide +kernel) (pa_cons (pv 0) (pa_cons (pe_bltn (v := .ty "RuntimeError") rfl T.z_RuntimeError (by decide +kernel) rfl) pa_nil))) pa_nil))))))), ?_⟩
  walk_at "rd"
  refine r_isR (K := K) Z hx hD (by simp [Ad.vals, Ad.all]) ?_
  walk_at "rd"
  refine r_isN (K := K) Z hx hD (by simp [Ad.vals, Ad.all]) ?_
  walk_at "rd"
  refine r_isN (K := K) Z hx hD (by simp [Ad.vals, Ad.all]) ?_
  walk_at "rd"
  refine r_isN (K := K) Z hx hD (by simp [Ad.vals, Ad.all]) ?_
  walk_at "rd"
  refine a_lst (by simp) fun p H2 n2 s2 e2 => ?_
  exact k _ _ s2 (.lst e2 (.cons (.bl _) (.cons (.bl _) (.cons (.bl _) (.cons (.bl _) .nil)))))
abbrev s_L_classes : Stmt := top 33
abbrev n_L_classes : List Str := ["_law_e", "_law_found"]
abbrev p_L_classes : List Str := ["_law_e"]
theorem sc_L_classes : FnScope n_L_classes p_L_classes (defScope s_L_classes) := ⟨rfl, rfl, rfl, by decide +kernel, rfl, by decide +kernel, by decide +kernel⟩
theorem ok_L_classes (T : Txt mg) (Z : Errs P w K mg base A) {f : Addr} {fd : FuncData} (F : Fun K "_law_classes" "_law_classes" s_L_classes f fd) : FnOk P w K mg base CX0 2 f fd p_L_classes (spClas K A) := by
  refine F.ok sc_L_classes (fun vs H Q E h => ?_) (fun cdv AR outer s H vs Q E hr h => ?_)
  · obtain ⟨a, D, rfl, _⟩ := h
    rfl
  obtain ⟨a, D, rfl, hx, hD, k⟩ := h
  have hu := hr.units
  refine ⟨_, (pss_cons (ps_set (i := 1) sc_L_classes.nd rfl (by first | exact Or.inl rfl | exact Or.inr rfl) (pe_lst (pa_cons (pe_callB call_isX (by rfl) T.z_isinstance (by decide +kernel) (pa_cons (pv 0) (pa_cons (pe_glob (v := .ref A.BadEntry) rfl Z.z_BadEntry.gC rfl) pa_nil))) (pa_cons (pe_callB call_isX (by rfl) T.z_isinstance (by decide +kernel) (pa_cons (pv 0) (pa_cons (pe_glob (v := .ref A.BadEntries) rfl Z.z_BadEntries.gC rfl) pa_nil))) (pa_cons (pe_callB call_isX (by rfl) T.z_isinstance (by decide +kernel) (pa_cons (pv 0) (pa_cons (pe_glob (v := .ref A.BadText) rfl Z.z_BadText.gC rfl) pa_nil))) pa_nil)))))
      (pss_cons (ps_set (i := 1) sc_L_classes.nd rfl (by first | exact Or.inl rfl | exact Or.inr rfl) (pe_op k_add (pv 1) (pe_lst (pa_cons (pe_callB call_isX (by rfl) T.z_isinstance (by decide +kernel) (pa_cons (pv 0) (pa_cons (pe_glob (v := .ref A.BadEvent) rfl Z.z_BadEvent.gC rfl) pa_nil))) (pa_cons (pe_callB call_isX (by rfl) T.z_isinstance (by decide +kernel) (pa_cons (pv 0) (pa_cons (pe_glob (v := .ref A.BadWorld) rfl Z.z_BadWorld.gC rfl) pa_nil))) (pa_cons (pe_callB call_isX (by rfl) T.z_isinstance (by decide +kernel) (pa_cons (pv 0) (pa_cons (pe_glob (v := .ref A.BadKey) rfl Z.z_BadKey.gC rfl) pa_nil))) pa_nil))))))
      (pss_cons (ps_set (i := 1) sc_L_classes.nd rfl (by first | exact Or.inl rfl | exact Or.inr rfl) (pe_op k_add (pv 1) (pe_lst (pa_cons (pe_callB call_isX (by rfl) T.z_isinstance (by decide +kernel) (pa_cons (pv 0) (pa_cons (pe_glob (v := .ref A.BadStamp) rfl Z.z_BadStamp.gC rfl) pa_nil))) (pa_cons (pe_callB call_isX (by rfl) T.z_isinstance (by decide +kernel) (pa_cons (pv 0) (pa_cons (pe_glob (v := .ref A.BadHomes) rfl Z.z_BadHomes.gC rfl) pa_nil))) (pa_cons (pe_callB call_isX (by rfl) T.z_isinstance (by decide +kernel) (pa_cons (pv 0) (pa_cons (pe_glob (v := .ref A.BadRow) rfl Z.z_BadRow.gC rfl) pa_nil))) pa_nil))))))
      (pss_cons (ps_set (i := 1) sc_L_classes.nd rfl (by first | exact Or.inl rfl | exact Or.inr rfl) (pe_op k_add (pv 1) (pe_lst (pa_cons (pe_callB call_isX (by rfl) T.z_isinstance (by decide +kernel) (pa_cons (pv 0) (pa_cons (pe_glob (v := .ref A.BadStory) rfl Z.z_BadStory.gC rfl) pa_nil))) (pa_cons (pe_callB call_isX (by rfl) T.z_isinstance (by decide +kernel) (pa_cons (pv 0) (pa_cons (pe_glob (v := .ref A.BadLimit) rfl Z.z_BadLimit.gC rfl) pa_nil))) (pa_cons (pe_callB call_isX (by rfl) T.z_isinstance (by decide +kernel) (pa_cons (pv 0) (pa_cons (pe_glob (v := .ref A.BadPolicy) rfl Z.z_BadPolicy.gC rfl) pa_nil))) pa_nil))))))
      (pss_cons (ps_set (i := 1) sc_L_classes.nd rfl (by first | exact Or.inl rfl | exact Or.inr rfl) (pe_op k_add (pv 1) (pe_lst (pa_cons (pe_callB call_isX (by rfl) T.z_isinstance (by decide +kernel) (pa_cons (pv 0) (pa_cons (pe_glob (v := .ref A.BadKeys) rfl Z.z_BadKeys.gC rfl) pa_nil))) (pa_cons (pe_callB call_isX (by rfl) T.z_isinstance (by decide +kernel) (pa_cons (pv 0) (pa_cons (pe_glob (v := .ref A.BadDepth) rfl Z.z_BadDepth.gC rfl) pa_nil))) (pa_cons (pe_callB call_isX (by rfl) T.z_isinstance (by decide +kernel) (pa_cons (pv 0) (pa_cons (pe_glob (v := .ref A.BadSkips) rfl Z.z_BadSkips.gC rfl) pa_nil))) pa_nil))))))
      (pss_cons (ps_set (i := 1) sc_L_classes.nd rfl (by first | exact Or.inl rfl | exact Or.inr rfl) (pe_op k_add (pv 1) (pe_lst (pa_cons (pe_callB call_isX (by rfl) T.z_isinstance (by decide +kernel) (pa_cons (pv 0) (pa_cons (pe_glob (v := .ref A.BadPlan) rfl Z.z_BadPlan.gC rfl) pa_nil))) (pa_cons (pe_callB call_isX (by rfl) T.z_isinstance (by decide +kernel) (pa_cons (pv 0) (pa_cons (pe_glob (v := .ref A.BadQuestion) rfl Z.z_BadQuestion.gC rfl) pa_nil))) (pa_cons (pe_callB call_isX (by rfl) T.z_isinstance (by decide +kernel) (pa_cons (pv 0) (pa_cons (pe_glob (v := .ref A.BadLine) rfl Z.z_BadLine.gC rfl) pa_nil))) pa_nil))))))
      (pss_cons (ps_set (i := 1) sc_L_classes.nd rfl (by first | exact Or.inl rfl | exact Or.inr rfl) (pe_op k_add (pv 1) (pe_lst (pa_cons (pe_callB call_isX (by rfl) T.z_isinstance (by decide +kernel) (pa_cons (pv 0) (pa_cons (pe_glob (v := .ref A.NotARun) rfl Z.z_NotARun.gC rfl) pa_nil))) (pa_cons (pe_callB call_isX (by rfl) T.z_isinstance (by decide +kernel) (pa_cons (pv 0) (pa_cons (pe_glob (v := .ref A.NoMoment) rfl Z.z_NoMoment.gC rfl) pa_nil))) (pa_cons (pe_callB call_isX (by rfl) T.z_isinstance (by decide +kernel) (pa_cons (pv 0) (pa_cons (pe_glob (v := .ref A.TooLong) rfl Z.z_TooLong.gC rfl) pa_nil))) pa_nil))))))
      (pss_cons (ps_set (i := 1) sc_L_classes.nd rfl (by first | exact Or.inl rfl | exact Or.inr rfl) (pe_op k_add (pv 1) (pe_lst (pa_cons (pe_callB call_isX (by rfl) T.z_isinstance (by decide +kernel) (pa_cons (pv 0) (pa_cons (pe_glob (v := .ref A.NoEntry) rfl Z.z_NoEntry.gC rfl) pa_nil))) (pa_cons (pe_callB call_isX (by rfl) T.z_isinstance (by decide +kernel) (pa_cons (pv 0) (pa_cons (pe_glob (v := .ref A.NoHome) rfl Z.z_NoHome.gC rfl) pa_nil))) (pa_cons (pe_callB call_isX (by rfl) T.z_isinstance (by decide +kernel) (pa_cons (pv 0) (pa_cons (pe_glob (v := .ref A.NoLink) rfl Z.z_NoLink.gC rfl) pa_nil))) pa_nil))))))
      (pss_cons (ps_set (i := 1) sc_L_classes.nd rfl (by first | exact Or.inl rfl | exact Or.inr rfl) (pe_op k_add (pv 1) (pe_lst (pa_cons (pe_callB call_isX (by rfl) T.z_isinstance (by decide +kernel) (pa_cons (pv 0) (pa_cons (pe_glob (v := .ref A.Refused) rfl Z.z_Refused.gC rfl) pa_nil))) pa_nil))))
      (pss_one (ps_ret (pv 1)))))))))))), ?_⟩
  walk_at "rd"
  (iterate 2 (refine r_isR (K := K) Z hx hD (by simp [Ad.vals, Ad.all]) ?_; walk_at "rd"))
  refine r_isR (K := K) Z hx hD (by simp [Ad.vals, Ad.all]) ?_
  walk_at "rd"
  refine a_lst (by simp) fun L0 H0 n0 s0 e0 => ?_
  walk_at "rd"
  refine r_isR (K := K) Z (hx.same s0) hD (by simp [Ad.vals, Ad.all]) ?_
  walk_at "rd"
  refine r_isR (K := K) Z (hx.same s0) hD (by simp [Ad.vals, Ad.all]) ?_
  walk_at "rd"
  refine r_isR (K := K) Z (hx.same s0) hD (by simp [Ad.vals, Ad.all]) ?_
  walk_at "rd"
  refine a_lst (by simp) fun M1 G1 m1 z1 f1 => ?_
  walk_at "rd"
  refine g_catL (z1 _ _ e0) f1 (by simp) fun L1 H1 n1 y1 e1 => ?_
  have s1 := (s0.trans z1).trans y1
  walk_at "rd"
  refine r_isR (K := K) Z (hx.same s1) hD (by simp [Ad.vals, Ad.all]) ?_
  walk_at "rd"
  refine r_isR (K := K) Z (hx.same s1) hD (by simp [Ad.vals, Ad.all]) ?_
  walk_at "rd"
  refine r_isR (K := K) Z (hx.same s1) hD (by simp [Ad.vals, Ad.all]) ?_
  walk_at "rd"
  refine a_lst (by simp) fun M2 G2 m2 z2 f2 => ?_
  walk_at "rd"
  refine g_catL (z2 _ _ e1) f2 (by simp) fun L2 H2 n2 y2 e2 => ?_
  have s2 := (s1.trans z2).trans y2
  walk_at "rd"
  refine r_isR (K := K) Z (hx.same s2) hD (by simp [Ad.vals, Ad.all]) ?_
  walk_at "rd"
  refine r_isR (K := K) Z (hx.same s2) hD (by simp [Ad.vals, Ad.all]) ?_
  walk_at "rd"
  refine r_isR (K := K) Z (hx.same s2) hD (by simp [Ad.vals, Ad.all]) ?_
  walk_at "rd"
  refine a_lst (by simp) fun M3 G3 m3 z3 f3 => ?_
  walk_at "rd"
  refine g_catL (z3 _ _ e2) f3 (by simp) fun L3 H3 n3 y3 e3 => ?_
  have s3 := (s2.trans z3).trans y3
  walk_at "rd"
  refine r_isR (K := K) Z (hx.same s3) hD (by simp [Ad.vals, Ad.all]) ?_
  walk_at "rd"
  refine r_isR (K := K) Z (hx.same s3) hD (by simp [Ad.vals, Ad.all]) ?_
  walk_at "rd"
  refine r_isR (K := K) Z (hx.same s3) hD (by simp [Ad.vals, Ad.all]) ?_
  walk_at "rd"
  refine a_lst (by simp) fun M4 G4 m4 z4 f4 => ?_
  walk_at "rd"
  refine g_catL (z4 _ _ e3) f4 (by simp) fun L4 H4 n4 y4 e4 => ?_
  have s4 := (s3.trans z4).trans y4
  walk_at "rd"
  refine r_isR (K := K) Z (hx.same s4) hD (by simp [Ad.vals, Ad.all]) ?_
  walk_at "rd"
  refine r_isR (K := K) Z (hx.same s4) hD (by simp [Ad.vals, Ad.all]) ?_
  walk_at "rd"
  refine r_isR (K := K) Z (hx.same s4) hD (by simp [Ad.vals, Ad.all]) ?_
  walk_at "rd"
  refine a_lst (by simp) fun M5 G5 m5 z5 f5 => ?_
  walk_at "rd"
  refine g_catL (z5 _ _ e4) f5 (by simp) fun L5 H5 n5 y5 e5 => ?_
  have s5 := (s4.trans z5).trans y5
  walk_at "rd"
  refine r_isR (K := K) Z (hx.same s5) hD (by simp [Ad.vals, Ad.all]) ?_
  walk_at "rd"
  refine r_isR (K := K) Z (hx.same s5) hD (by simp [Ad.vals, Ad.all]) ?_
  walk_at "rd"
  refine r_isR (K := K) Z (hx.same s5) hD (by simp [Ad.vals, Ad.all]) ?_
  walk_at "rd"
  refine a_lst (by simp) fun M6 G6 m6 z6 f6 => ?_
  walk_at "rd"
  refine g_catL (z6 _ _ e5) f6 (by simp) fun L6 H6 n6 y6 e6 => ?_
  have s6 := (s5.trans z6).trans y6
  walk_at "rd"
  refine r_isR (K := K) Z (hx.same s6) hD (by simp [Ad.vals, Ad.all]) ?_
  walk_at "rd"
  refine r_isR (K := K) Z (hx.same s6) hD (by simp [Ad.vals, Ad.all]) ?_
  walk_at "rd"
  refine r_isR (K := K) Z (hx.same s6) hD (by simp [Ad.vals, Ad.all]) ?_
  walk_at "rd"
  refine a_lst (by simp) fun M7 G7 m7 z7 f7 => ?_
  walk_at "rd"
  refine g_catL (z7 _ _ e6) f7 (by simp) fun L7 H7 n7 y7 e7 => ?_
  have s7 := (s6.trans z7).trans y7
  walk_at "rd"
  refine r_isR (K := K) Z (hx.same s7) hD (by simp [Ad.vals, Ad.all]) ?_
  walk_at "rd"
  refine a_lst (by simp) fun M8 G8 m8 z8 f8 => ?_
  walk_at "rd"
  refine g_catL (z8 _ _ e7) f8 (by simp) fun L8 H8 n8 y8 e8 => ?_
  have s8 := (s7.trans z8).trans y8
  walk_at "rd"
  exact k _ _ s8 (.lst e8 (bools_all (bs := A.all.map fun C => isK K D (.ref C))))
end
end K03

set_option Elab.async false
set_option linter.all false
set_option maxRecDepth 100000
set_option maxHeartbeats 4000000
namespace K03
open PySem PySem.Spec PyProof.Rows L2 Tk
local macro_rules | `(tactic| walk_at "rd1") => `(tactic| first
  | with_reducible refine r_seq ?_
  | ((with_reducible refine r_var (v := ?vv) ?hrv ?_); (case hrv => rfl))
  | with_reducible refine r_c ?_
  | with_reducible refine r_op ?_
  | ((with_reducible refine r_ixL (xs := ?xx) (v := ?vv) ?hh ?he ?_); (case hh => first | assumption | exact upd_same); (case he => rfl))
  | with_reducible refine r_asg ?_
  | with_reducible refine r_sub ?_
  | ((with_reducible refine r_gTup (xs := ?xx) ?hh ?he ?_); (case hh => assumption); (case he => rfl))
  | with_reducible refine r_gCons ?_
  | with_reducible refine r_gNil ?_
  | ((with_reducible refine r_setL (xs := ?xx) (j := ?vv) ?hh ?he ?_); (case hh => first | assumption | exact upd_same); (case he => rfl))
  | with_reducible refine r_pow15 ?_
  | with_reducible refine r_pow18 ?_
  | with_reducible refine r_repr ?_
  | with_reducible refine iteT ?_
  | with_reducible refine iteF ?_
  | with_reducible refine r_cons ?_
  | with_reducible refine r_nil ?_
  | with_reducible refine r_call ?_
  | with_reducible refine r_cb ?_
  | with_reducible refine r_ret ?_
  | with_reducible refine r_gName ?_
  | with_reducible refine r_next ?_
  | with_reducible refine r_ifS ?_
  | with_reducible refine r_un ?_
  | with_reducible refine r_U ?_
  | with_reducible refine r_max2 ?_
  | with_reducible refine r_min2 ?_
  | with_reducible refine r_sl ?_
  | with_reducible refine r_noPart ?_
  | with_reducible refine r_part ?_
  | with_reducible refine r_inti ?_
  | with_reducible refine r_lc ?_
  | with_reducible refine r_for ?_
  | with_reducible refine r_rng1 ?_
  | with_reducible refine r_iList ?_
  | with_reducible refine r_iTup ?_
  | with_reducible refine r_iStr ?_
  | with_reducible refine r_strx ?_
  | ((with_reducible refine r_j ?hh ?hi ?_); (case hh => omega); (case hi => omega))
  | with_reducible refine r_m1 ?_
  | with_reducible refine r_test ?_
  | with_reducible refine r_B ?_
  | with_reducible refine r_not ?_
  | with_reducible refine r_and ?_
  | with_reducible refine r_or ?_
  | with_reducible refine r_andV ?_
  | with_reducible refine r_orV ?_
  | with_reducible refine r_notV ?_
  | with_reducible refine r_if ?_
  | with_reducible refine r_chain ?_
  | with_reducible refine r_lst ?_
  | with_reducible refine r_tup ?_
  | with_reducible refine r_k ?_
  | ((with_reducible refine r_isiS (d := ?dd) ?hh ?_); (case hh => assumption))
  | ((with_reducible refine r_isiT (d := ?dd) ?hh ?_); (case hh => assumption))
  | ((with_reducible refine r_isiI (d := ?dd) ?hh ?_); (case hh => assumption))
  | ((with_reducible refine r_isiB (d := ?dd) ?hh ?_); (case hh => assumption))
  | ((with_reducible refine r_lenS ?hh ?_); (case hh => assumption))
  | ((with_reducible refine r_lenT (xs := ?dd) ?hh ?_); (case hh => assumption))
  | ((with_reducible refine r_ixT (xs := ?xx) (v := ?vv) ?hh ?he ?_); (case hh => assumption); (case he => rfl))
  | with_reducible refine r_isN ?_
  | with_reducible refine r_I0 ?_
  | with_reducible refine g_addI ?_
  | ((with_reducible refine r_mod ?hh ?_); (case hh => first | decide | omega))
  | ((with_reducible refine r_div ?hh ?hi ?_); (case hh => first | decide | omega); (case hi => first | decide | omega))
  | ((with_reducible refine g_mulB ?hh ?hi ?_); (case hh => omega); (case hi => omega))
  | with_reducible refine g_ltI ?_
  | with_reducible refine g_leI ?_
  | with_reducible refine g_gtI ?_
  | with_reducible refine g_geI ?_
  | with_reducible refine g_eqI ?_
  | with_reducible refine g_neI ?_
  | with_reducible refine g_eqS ?_
  | with_reducible refine g_neS ?_
  | with_reducible refine g_leS ?_
  | with_reducible refine g_ltS ?_)
local macro_rules | `(tactic| walk_at "rd") => `(tactic| repeat (walk_at "rd1"))
local macro_rules | `(tactic| walk_at "ed") => `(tactic| repeat first
  | exact ed_int
  | exact ed_str
  | exact ed_bl
  | exact ed_non
  | exact ed_nil
  | exact ed_dct
  | exact ed_neg
  | with_reducible apply ed_cons
  | with_reducible apply ed_tup
  | with_reducible apply ed_lst
  | exact Nat.le_of_ble_eq_true rfl)
local macro_rules | `(tactic| walk_at "tx1") => `(tactic| first
  | walk_at "rd1"
  | with_reducible refine r_callS ?_
  | with_reducible refine r_zipA ?_
  | with_reducible refine r_par ?_
  | with_reducible refine r_pair ?_
  | with_reducible refine r_pow6 ?_
  | with_reducible refine r_m0 ?_
  | with_reducible refine r_bm ?_
  | with_reducible refine r_isS ?_
  | with_reducible refine r_told ?_
  | with_reducible refine r_js ?_
  | with_reducible refine r_jsNil ?_
  | with_reducible refine r_repl ?_
  | ((with_reducible refine r_gLst (xs := ?xx) ?hh ?he ?_); (case hh => assumption); (case he => rfl))
  | ((with_reducible refine r_lenL (xs := ?xx) ?hh ?_); (case hh => assumption)))
local macro_rules | `(tactic| walk_at "tx") => `(tactic| repeat (walk_at "tx1"))
/-- an error that keeps v as value -/
def ErrV (H : Hp) (a D : Addr) (v : V) : Prop := ∃ fs, ErrAt H a D fs ∧ fs.lookup ("value" : Str) = some v
theorem ErrV.same {H H2 : Hp} {a D : Addr} {v : V} (S : Same H H2) (h : ErrV H a D v) : ErrV H2 a D v := by
  obtain ⟨fs, h1, h2⟩ := h
  exact ⟨fs, h1.same S, h2⟩
def ErrL (H : Hp) (v : V) : List Addr → List Addr → Prop
  | [], [] => True
  | a :: as, D :: Ds => ErrV H a D v ∧ ErrL H v as Ds
  | _, _ => False
theorem ErrL.same {H H2 : Hp} {v : V} (S : Same H H2) : ∀ {as Ds : List Addr}, ErrL H v as Ds → ErrL H2 v as Ds
  | [], [], _ => True.intro
  | [], _ :: _, h => h.elim
  | _ :: _, [], h => h.elim
  | a :: as, D :: Ds, h => ⟨h.1.same S, ErrL.same S h.2⟩
theorem ErrL.app {H : Hp} {v : V} : ∀ {as Ds bs Es : List Addr}, ErrL H v as Ds → ErrL H v bs Es → ErrL H v (as ++ bs) (Ds ++ Es)
  | [], [], _, _, _, h => h
  | [], _ :: _, _, _, h, _ => h.elim
  | _ :: _, [], _, _, h, _ => h.elim
  | a :: as, D :: Ds, _, _, h, g => ⟨h.1, ErrL.app h.2 g⟩
theorem ErrL.len {H : Hp} {v : V} : ∀ {as Ds : List Addr}, ErrL H v as Ds → as.length = Ds.length
  | [], [], _ => rfl
  | [], _ :: _, h => h.elim
  | _ :: _, [], h => h.elim
  | a :: as, D :: Ds, h => congrArg Nat.succ h.2.len
theorem ErrL.get {H : Hp} {v : V} : ∀ {as Ds : List Addr}, ErrL H v as Ds → ∀ (i : Nat) (a D : Addr), as[i]? = some a → Ds[i]? = some D → ErrV H a D v
  | [], [], _, i, a, D, h, _ => by simp at h
  | [], _ :: _, h, _, _, _, _, _ => h.elim
  | _ :: _, [], h, _, _, _, _, _ => h.elim
  | a :: as, D :: Ds, h, 0, b, E, e1, e2 => by
    simp at e1 e2
    rw [← e1, ← e2]
    exact h.1
  | a :: as, D :: Ds, h, i + 1, b, E, e1, e2 => ErrL.get h.2 i b E (by simpa using e1) (by simpa using e2)
section
variable {P : Program} {w : World} {K : PySem.W.Frag} {mg : Str → Option Value} {base : Heap} {A : Ad}
theorem made_new {C a dx : Addr} {v : V} {H : Hp} {fs : List (Str × V)} (ha : H a = none) (hd : upd H a (exo a C none) dx = none) (hn : dx ≠ a) (hl : fs.lookup ("value" : Str) = some v) :
    Same H (upd (upd (upd H a (exo a C none)) dx (exd dx fs)) a (exo a C (some dx))) ∧ ErrV (upd (upd (upd H a (exo a C none)) dx (exd dx fs)) a (exo a C (some dx))) a C v := by
  rw [upd_ne hn] at hd
  refine ⟨fun b o e => ?_, fs, ⟨dx, upd_same, ?_⟩, hl⟩
  · rw [upd_ne (ne_of_none e ha), upd_ne (ne_of_none e hd), upd_ne (ne_of_none e ha)]
    exact e
  · rw [upd_ne hn, upd_same]
theorem r_mkE {C : Addr} {n m : Nat} {sp : Sp} {gV : List V → List V → List V} {E : XK} {t tk : TA} {σ : L2.St} {H : Hp} {Q : VK} (h : t σ H fun vs H1 => tk σ H1 fun zs H2 => vs.length = n ∧ zs.length = m ∧ ∀ a, H2 a = none → sp (gV (.ref a :: vs) zs) (upd H2 a (exo a C none)) (fun v H3 => v = .non ∧ Q (.ref a) H3) E) :
    tMkE C n m sp gV E t tk σ H Q := h
theorem made_two {C a dx : Addr} {u v : V} {H : Hp} (hn : dx ≠ a) : upd (upd (upd (upd H a (exo a C none)) dx (exd dx [(("word" : Str), u)])) a (exo a C (some dx))) dx (exd dx [(("value" : Str), v), (("word" : Str), u)]) =
    upd (upd (upd H a (exo a C none)) dx (exd dx [(("value" : Str), v), (("word" : Str), u)])) a (exo a C (some dx)) := by
  funext b
  by_cases h1 : b = a
  · subst h1
    rw [upd_ne (Ne.symm hn), upd_same, upd_same]
  · by_cases h2 : b = dx
    · subst h2
      rw [upd_same, upd_ne hn, upd_same]
    · rw [upd_ne h2, upd_ne h1, upd_ne h2, upd_ne h1, upd_ne h1, upd_ne h2, upd_ne h1]
def spMade (K : PySem.W.Frag) (A : Ad) : Sp := fun vs H Q _ => ∃ v : V, vs = [v] ∧ ∀ L H2 as, H L = none → Same H H2 → H2 L = some (.lst (as.map V.ref)) → ErrL H2 v as A.all → Q (.ref L) H2
abbrev s_L_made : Stmt := top 31
abbrev n_L_made : List Str := ["_law_thing", "_law_some"]
abbrev p_L_made : List Str := ["_law_thing"]
theorem sc_L_made : FnScope n_L_made p_L_made (defScope s_L_made) := ⟨rfl, rfl, rfl, by decide +kernel, rfl, by decide +kernel, by decide +kernel⟩
theorem ok_L_made (T : Txt mg) (Z : Errs P w K mg base A) {f : Addr} {fd : FuncData} (F : Fun K "_law_made" "_law_made" s_L_made f fd) : FnOk P w K mg base CX0 3 f fd p_L_made (spMade K A) := by
  refine F.ok sc_L_made (fun vs H Q E h => ?_) (fun cdv AR outer s H vs Q E hr h => ?_)
  · obtain ⟨v, rfl, _⟩ := h
    rfl
  obtain ⟨v, rfl, k⟩ := h
  have hu := hr.units
  refine ⟨_, (pss_cons (ps_set (i := 1) sc_L_made.nd rfl (by first | exact Or.inl rfl | exact Or.inr rfl) (pe_lst (pa_cons (pe_mkEK Z.z_BadEntry (hr.mono (by decide)) (pk_cons (pv 0) pk_nil)) (pa_cons (pe_mkE1 (n := 1) Z.z_BadEntries (hr.mono (by decide)) rfl (by decide) (pa_cons (pv 0) pa_nil)) (pa_cons (pe_mkEK Z.z_BadText (hr.mono (by decide)) (pk_cons (pv 0) pk_nil)) (pa_cons (pe_mkE1 (n := 1) Z.z_BadEvent (hr.mono (by decide)) rfl (by decide) (pa_cons (pv 0) pa_nil)) pa_nil))))))
      (pss_cons (ps_set (i := 1) sc_L_made.nd rfl (by first | exact Or.inl rfl | exact Or.inr rfl) (pe_op k_add (pv 1) (pe_lst (pa_cons (pe_mkEK Z.z_BadWorld (hr.mono (by decide)) (pk_cons (pv 0) pk_nil)) (pa_cons (pe_mkE1 (n := 1) Z.z_BadKey (hr.mono (by decide)) rfl (by decide) (pa_cons (pv 0) pa_nil)) (pa_cons (pe_mkEK Z.z_BadStamp (hr.mono (by decide)) (pk_cons (pv 0) pk_nil)) (pa_cons (pe_mkE1 (n := 1) Z.z_BadHomes (hr.mono (by decide)) rfl (by decide) (pa_cons (pv 0) pa_nil)) pa_nil)))))))
      (pss_cons (ps_set (i := 1) sc_L_made.nd rfl (by first | exact Or.inl rfl | exact Or.inr rfl) (pe_op k_add (pv 1) (pe_lst (pa_cons (pe_mkEK Z.z_BadRow (hr.mono (by decide)) (pk_cons (pv 0) pk_nil)) (pa_cons (pe_mkE1 (n := 1) Z.z_BadStory (hr.mono (by decide)) rfl (by decide) (pa_cons (pv 0) pa_nil)) (pa_cons (pe_mkEK Z.z_BadLimit (hr.mono (by decide)) (pk_cons (pv 0) pk_nil)) (pa_cons (pe_mkE1 (n := 1) Z.z_BadPolicy (hr.mono (by decide)) rfl (by decide) (pa_cons (pv 0) pa_nil)) pa_nil)))))))
      (pss_cons (ps_set (i := 1) sc_L_made.nd rfl (by first | exact Or.inl rfl | exact Or.inr rfl) (pe_op k_add (pv 1) (pe_lst (pa_cons (pe_mkEK Z.z_BadKeys (hr.mono (by decide)) (pk_cons (pv 0) pk_nil)) (pa_cons (pe_mkE1 (n := 1) Z.z_BadDepth (hr.mono (by decide)) rfl (by decide) (pa_cons (pv 0) pa_nil)) (pa_cons (pe_mkEK Z.z_BadSkips (hr.mono (by decide)) (pk_cons (pv 0) pk_nil)) (pa_cons (pe_mkE1 (n := 1) Z.z_BadPlan (hr.mono (by decide)) rfl (by decide) (pa_cons (pv 0) pa_nil)) pa_nil)))))))
      (pss_cons (ps_set (i := 1) sc_L_made.nd rfl (by first | exact Or.inl rfl | exact Or.inr rfl) (pe_op k_add (pv 1) (pe_lst (pa_cons (pe_mkEK Z.z_BadQuestion (hr.mono (by decide)) (pk_cons (pv 0) pk_nil)) (pa_cons (pe_mkE1 (n := 1) Z.z_BadLine (hr.mono (by decide)) rfl (by decide) (pa_cons (pv 0) pa_nil)) (pa_cons (pe_mkEK Z.z_NotARun (hr.mono (by decide)) (pk_cons (pv 0) pk_nil)) (pa_cons (pe_mkE1 (n := 1) Z.z_NoMoment (hr.mono (by decide)) rfl (by decide) (pa_cons (pv 0) pa_nil)) pa_nil)))))))
      (pss_cons (ps_set (i := 1) sc_L_made.nd rfl (by first | exact Or.inl rfl | exact Or.inr rfl) (pe_op k_add (pv 1) (pe_lst (pa_cons (pe_mkEK Z.z_TooLong (hr.mono (by decide)) (pk_cons (pv 0) pk_nil)) (pa_cons (pe_mkE1 (n := 1) Z.z_NoEntry (hr.mono (by decide)) rfl (by decide) (pa_cons (pv 0) pa_nil)) (pa_cons (pe_mkEK Z.z_NoHome (hr.mono (by decide)) (pk_cons (pv 0) pk_nil)) (pa_cons (pe_mkE1 (n := 1) Z.z_NoLink (hr.mono (by decide)) rfl (by decide) (pa_cons (pv 0) pa_nil)) pa_nil)))))))
      (pss_one (ps_ret (pe_op k_add (pv 1) (pe_lst (pa_cons (pe_mkE1 (n := 2) Z.z_Refused (hr.mono (by decide)) rfl (by decide) (pa_cons pe_str (pa_cons (pv 0) pa_nil))) pa_nil))))))))))), ?_⟩
  walk_at "rd"
  refine r_mkE ?_
  walk_at "rd"
  refine ⟨rfl, rfl, fun a0_0 n0_0 => ⟨a0_0, v, rfl, upd_same, fun d0_0 p0_0 q0_0 => ⟨rfl, ?_⟩⟩⟩
  obtain ⟨s0_0, x0_0⟩ := made_new (C := A.BadEntry) (v := v) (fs := [(("value" : Str), v)]) n0_0 p0_0 q0_0 (by simp [List.lookup])
  generalize upd (upd (upd H a0_0 (exo a0_0 A.BadEntry none)) d0_0 (exd d0_0 [(("value" : Str), v)])) a0_0 (exo a0_0 A.BadEntry (some d0_0)) = H0_0 at s0_0 x0_0 ⊢
  walk_at "rd"
  refine r_mkE ?_
  walk_at "rd"
  refine ⟨rfl, rfl, fun a0_1 n0_1 => ⟨a0_1, v, rfl, upd_same, fun d0_1 p0_1 q0_1 => ⟨rfl, ?_⟩⟩⟩
  obtain ⟨s0_1, x0_1⟩ := made_new (C := A.BadEntries) (v := v) (fs := [(("value" : Str), v)]) n0_1 p0_1 q0_1 (by simp [List.lookup])
  generalize upd (upd (upd H0_0 a0_1 (exo a0_1 A.BadEntries none)) d0_1 (exd d0_1 [(("value" : Str), v)])) a0_1 (exo a0_1 A.BadEntries (some d0_1)) = H0_1 at s0_1 x0_1 ⊢
  walk_at "rd"
  refine r_mkE ?_
  walk_at "rd"
  refine ⟨rfl, rfl, fun a0_2 n0_2 => ⟨a0_2, v, rfl, upd_same, fun d0_2 p0_2 q0_2 => ⟨rfl, ?_⟩⟩⟩
  obtain ⟨s0_2, x0_2⟩ := made_new (C := A.BadText) (v := v) (fs := [(("value" : Str), v)]) n0_2 p0_2 q0_2 (by simp [List.lookup])
  generalize upd (upd (upd H0_1 a0_2 (exo a0_2 A.BadText none)) d0_2 (exd d0_2 [(("value" : Str), v)])) a0_2 (exo a0_2 A.BadText (some d0_2)) = H0_2 at s0_2 x0_2 ⊢
  walk_at "rd"
  refine r_mkE ?_
  walk_at "rd"
  refine ⟨rfl, rfl, fun a0_3 n0_3 => ⟨a0_3, v, rfl, upd_same, fun d0_3 p0_3 q0_3 => ⟨rfl, ?_⟩⟩⟩
  obtain ⟨s0_3, x0_3⟩ := made_new (C := A.BadEvent) (v := v) (fs := [(("value" : Str), v)]) n0_3 p0_3 q0_3 (by simp [List.lookup])
  generalize upd (upd (upd H0_2 a0_3 (exo a0_3 A.BadEvent none)) d0_3 (exd d0_3 [(("value" : Str), v)])) a0_3 (exo a0_3 A.BadEvent (some d0_3)) = H0_3 at s0_3 x0_3 ⊢
  walk_at "rd"
  refine a_lst (by simp) fun M0 G0 m0 z0 f0 => ?_
  walk_at "rd"
  have r0 : ErrL G0 v [a0_0, a0_1, a0_2, a0_3] [A.BadEntry, A.BadEntries, A.BadText, A.BadEvent] := ⟨x0_0.same (s0_1.trans (s0_2.trans (s0_3.trans z0))), x0_1.same (s0_2.trans (s0_3.trans z0)), x0_2.same (s0_3.trans z0), x0_3.same z0, True.intro⟩
  have c0 := (s0_0.trans (s0_1.trans (s0_2.trans (s0_3.trans z0))))
  have S0 := c0
  have R0 := r0
  have E0 : G0 M0 = some (.lst ([a0_0, a0_1, a0_2, a0_3].map V.ref)) := f0
  refine r_mkE ?_
  walk_at "rd"
  refine ⟨rfl, rfl, fun a1_0 n1_0 => ⟨a1_0, v, rfl, upd_same, fun d1_0 p1_0 q1_0 => ⟨rfl, ?_⟩⟩⟩
  obtain ⟨s1_0, x1_0⟩ := made_new (C := A.BadWorld) (v := v) (fs := [(("value" : Str), v)]) n1_0 p1_0 q1_0 (by simp [List.lookup])
  generalize upd (upd (upd G0 a1_0 (exo a1_0 A.BadWorld none)) d1_0 (exd d1_0 [(("value" : Str), v)])) a1_0 (exo a1_0 A.BadWorld (some d1_0)) = H1_0 at s1_0 x1_0 ⊢
  walk_at "rd"
  refine r_mkE ?_
  walk_at "rd"
  refine ⟨rfl, rfl, fun a1_1 n1_1 => ⟨a1_1, v, rfl, upd_same, fun d1_1 p1_1 q1_1 => ⟨rfl, ?_⟩⟩⟩
  obtain ⟨s1_1, x1_1⟩ := made_new (C := A.BadKey) (v := v) (fs := [(("value" : Str), v)]) n1_1 p1_1 q1_1 (by simp [List.lookup])
  generalize upd (upd (upd H1_0 a1_1 (exo a1_1 A.BadKey none)) d1_1 (exd d1_1 [(("value" : Str), v)])) a1_1 (exo a1_1 A.BadKey (some d1_1)) = H1_1 at s1_1 x1_1 ⊢
  walk_at "rd"
  refine r_mkE ?_
  walk_at "rd"
  refine ⟨rfl, rfl, fun a1_2 n1_2 => ⟨a1_2, v, rfl, upd_same, fun d1_2 p1_2 q1_2 => ⟨rfl, ?_⟩⟩⟩
  obtain ⟨s1_2, x1_2⟩ := made_new (C := A.BadStamp) (v := v) (fs := [(("value" : Str), v)]) n1_2 p1_2 q1_2 (by simp [List.lookup])
  generalize upd (upd (upd H1_1 a1_2 (exo a1_2 A.BadStamp none)) d1_2 (exd d1_2 [(("value" : Str), v)])) a1_2 (exo a1_2 A.BadStamp (some d1_2)) = H1_2 at s1_2 x1_2 ⊢
  walk_at "rd"
  refine r_mkE ?_
  walk_at "rd"
  refine ⟨rfl, rfl, fun a1_3 n1_3 => ⟨a1_3, v, rfl, upd_same, fun d1_3 p1_3 q1_3 => ⟨rfl, ?_⟩⟩⟩
  obtain ⟨s1_3, x1_3⟩ := made_new (C := A.BadHomes) (v := v) (fs := [(("value" : Str), v)]) n1_3 p1_3 q1_3 (by simp [List.lookup])
  generalize upd (upd (upd H1_2 a1_3 (exo a1_3 A.BadHomes none)) d1_3 (exd d1_3 [(("value" : Str), v)])) a1_3 (exo a1_3 A.BadHomes (some d1_3)) = H1_3 at s1_3 x1_3 ⊢
  walk_at "rd"
  refine a_lst (by simp) fun M1 G1 m1 z1 f1 => ?_
  walk_at "rd"
  have r1 : ErrL G1 v [a1_0, a1_1, a1_2, a1_3] [A.BadWorld, A.BadKey, A.BadStamp, A.BadHomes] := ⟨x1_0.same (s1_1.trans (s1_2.trans (s1_3.trans z1))), x1_1.same (s1_2.trans (s1_3.trans z1)), x1_2.same (s1_3.trans z1), x1_3.same z1, True.intro⟩
  have c1 := (s1_0.trans (s1_1.trans (s1_2.trans (s1_3.trans z1))))
  refine g_catL (c1 _ _ E0) f1 (by simp) fun L1 K1 n1 y1 e1 => ?_
  walk_at "rd"
  have S1 := (S0.trans c1).trans y1
  have R1 := (R0.same (c1.trans y1)).app (r1.same y1)
  have E1 : K1 L1 = some (.lst (([a0_0, a0_1, a0_2, a0_3] ++ [a1_0, a1_1, a1_2, a1_3]).map V.ref)) := by rw [List.map_append]; exact e1
  refine r_mkE ?_
  walk_at "rd"
  refine ⟨rfl, rfl, fun a2_0 n2_0 => ⟨a2_0, v, rfl, upd_same, fun d2_0 p2_0 q2_0 => ⟨rfl, ?_⟩⟩⟩
  obtain ⟨s2_0, x2_0⟩ := made_new (C := A.BadRow) (v := v) (fs := [(("value" : Str), v)]) n2_0 p2_0 q2_0 (by simp [List.lookup])
  generalize upd (upd (upd K1 a2_0 (exo a2_0 A.BadRow none)) d2_0 (exd d2_0 [(("value" : Str), v)])) a2_0 (exo a2_0 A.BadRow (some d2_0)) = H2_0 at s2_0 x2_0 ⊢
  walk_at "rd"
  refine r_mkE ?_
  walk_at "rd"
  refine ⟨rfl, rfl, fun a2_1 n2_1 => ⟨a2_1, v, rfl, upd_same, fun d2_1 p2_1 q2_1 => ⟨rfl, ?_⟩⟩⟩
  obtain ⟨s2_1, x2_1⟩ := made_new (C := A.BadStory) (v := v) (fs := [(("value" : Str), v)]) n2_1 p2_1 q2_1 (by simp [List.lookup])
  generalize upd (upd (upd H2_0 a2_1 (exo a2_1 A.BadStory none)) d2_1 (exd d2_1 [(("value" : Str), v)])) a2_1 (exo a2_1 A.BadStory (some d2_1)) = H2_1 at s2_1 x2_1 ⊢
  walk_at "rd"
  refine r_mkE ?_
  walk_at "rd"
  refine ⟨rfl, rfl, fun a2_2 n2_2 => ⟨a2_2, v, rfl, upd_same, fun d2_2 p2_2 q2_2 => ⟨rfl, ?_⟩⟩⟩
  obtain ⟨s2_2, x2_2⟩ := made_new (C := A.BadLimit) (v := v) (fs := [(("value" : Str), v)]) n2_2 p2_2 q2_2 (by simp [List.lookup])
  generalize upd (upd (upd H2_1 a2_2 (exo a2_2 A.BadLimit none)) d2_2 (exd d2_2 [(("value" : Str), v)])) a2_2 (exo a2_2 A.BadLimit (some d2_2)) = H2_2 at s2_2 x2_2 ⊢
  walk_at "rd"
  refine r_mkE ?_
  walk_at "rd"
  refine ⟨rfl, rfl, fun a2_3 n2_3 => ⟨a2_3, v, rfl, upd_same, fun d2_3 p2_3 q2_3 => ⟨rfl, ?_⟩⟩⟩
  obtain ⟨s2_3, x2_3⟩ := made_new (C := A.BadPolicy) (v := v) (fs := [(("value" : Str), v)]) n2_3 p2_3 q2_3 (by simp [List.lookup])
  generalize upd (upd (upd H2_2 a2_3 (exo a2_3 A.BadPolicy none)) d2_3 (exd d2_3 [(("value" : Str), v)])) a2_3 (exo a2_3 A.BadPolicy (some d2_3)) = H2_3 at s2_3 x2_3 ⊢
  walk_at "rd"
  refine a_lst (by simp) fun M2 G2 m2 z2 f2 => ?_
  walk_at "rd"
  have r2 : ErrL G2 v [a2_0, a2_1, a2_2, a2_3] [A.BadRow, A.BadStory, A.BadLimit, A.BadPolicy] := ⟨x2_0.same (s2_1.trans (s2_2.trans (s2_3.trans z2))), x2_1.same (s2_2.trans (s2_3.trans z2)), x2_2.same (s2_3.trans z2), x2_3.same z2, True.intro⟩
  have c2 := (s2_0.trans (s2_1.trans (s2_2.trans (s2_3.trans z2))))
  refine g_catL (c2 _ _ E1) f2 (by simp) fun L2 K2 n2 y2 e2 => ?_
  walk_at "rd"
  have S2 := (S1.trans c2).trans y2
  have R2 := (R1.same (c2.trans y2)).app (r2.same y2)
  have E2 : K2 L2 = some (.lst ((([a0_0, a0_1, a0_2, a0_3] ++ [a1_0, a1_1, a1_2, a1_3]) ++ [a2_0, a2_1, a2_2, a2_3]).map V.ref)) := by rw [List.map_append]; exact e2
  refine r_mkE ?_
  walk_at "rd"
  refine ⟨rfl, rfl, fun a3_0 n3_0 => ⟨a3_0, v, rfl, upd_same, fun d3_0 p3_0 q3_0 => ⟨rfl, ?_⟩⟩⟩
  obtain ⟨s3_0, x3_0⟩ := made_new (C := A.BadKeys) (v := v) (fs := [(("value" : Str), v)]) n3_0 p3_0 q3_0 (by simp [List.lookup])
  generalize upd (upd (upd K2 a3_0 (exo a3_0 A.BadKeys none)) d3_0 (exd d3_0 [(("value" : Str), v)])) a3_0 (exo a3_0 A.BadKeys (some d3_0)) = H3_0 at s3_0 x3_0 ⊢
  walk_at "rd"
  refine r_mkE ?_
  walk_at "rd"
  refine ⟨rfl, rfl, fun a3_1 n3_1 => ⟨a3_1, v, rfl, upd_same, fun d3_1 p3_1 q3_1 => ⟨rfl, ?_⟩⟩⟩
  obtain ⟨s3_1, x3_1⟩ := made_new (C := A.BadDepth) (v := v) (fs := [(("value" : Str), v)]) n3_1 p3_1 q3_1 (by simp [List.lookup])
  generalize upd (upd (upd H3_0 a3_1 (exo a3_1 A.BadDepth none)) d3_1 (exd d3_1 [(("value" : Str), v)])) a3_1 (exo a3_1 A.BadDepth (some d3_1)) = H3_1 at s3_1 x3_1 ⊢
  walk_at "rd"
  refine r_mkE ?_
  walk_at "rd"
  refine ⟨rfl, rfl, fun a3_2 n3_2 => ⟨a3_2, v, rfl, upd_same, fun d3_2 p3_2 q3_2 => ⟨rfl, ?_⟩⟩⟩
  obtain ⟨s3_2, x3_2⟩ := made_new (C := A.BadSkips) (v := v) (fs := [(("value" : Str), v)]) n3_2 p3_2 q3_2 (by simp [List.lookup])
  generalize upd (upd (upd H3_1 a3_2 (exo a3_2 A.BadSkips none)) d3_2 (exd d3_2 [(("value" : Str), v)])) a3_2 (exo a3_2 A.BadSkips (some d3_2)) = H3_2 at s3_2 x3_2 ⊢
  walk_at "rd"
  refine r_mkE ?_
  walk_at "rd"
  refine ⟨rfl, rfl, fun a3_3 n3_3 => ⟨a3_3, v, rfl, upd_same, fun d3_3 p3_3 q3_3 => ⟨rfl, ?_⟩⟩⟩
  obtain ⟨s3_3, x3_3⟩ := made_new (C := A.BadPlan) (v := v) (fs := [(("value" : Str), v)]) n3_3 p3_3 q3_3 (by simp [List.lookup])
  generalize upd (upd (upd H3_2 a3_3 (exo a3_3 A.BadPlan none)) d3_3 (exd d3_3 [(("value" : Str), v)])) a3_3 (exo a3_3 A.BadPlan (some d3_3)) = H3_3 at s3_3 x3_3 ⊢
  walk_at "rd"
  refine a_lst (by simp) fun M3 G3 m3 z3 f3 => ?_
  walk_at "rd"
  have r3 : ErrL G3 v [a3_0, a3_1, a3_2, a3_3] [A.BadKeys, A.BadDepth, A.BadSkips, A.BadPlan] := ⟨x3_0.same (s3_1.trans (s3_2.trans (s3_3.trans z3))), x3_1.same (s3_2.trans (s3_3.trans z3)), x3_2.same (s3_3.trans z3), x3_3.same z3, True.intro⟩
  have c3 := (s3_0.trans (s3_1.trans (s3_2.trans (s3_3.trans z3))))
  refine g_catL (c3 _ _ E2) f3 (by simp) fun L3 K3 n3 y3 e3 => ?_
  walk_at "rd"
  have S3 := (S2.trans c3).trans y3
  have R3 := (R2.same (c3.trans y3)).app (r3.same y3)
  have E3 : K3 L3 = some (.lst (((([a0_0, a0_1, a0_2, a0_3] ++ [a1_0, a1_1, a1_2, a1_3]) ++ [a2_0, a2_1, a2_2, a2_3]) ++ [a3_0, a3_1, a3_2, a3_3]).map V.ref)) := by rw [List.map_append]; exact e3
  refine r_mkE ?_
  walk_at "rd"
  refine ⟨rfl, rfl, fun a4_0 n4_0 => ⟨a4_0, v, rfl, upd_same, fun d4_0 p4_0 q4_0 => ⟨rfl, ?_⟩⟩⟩
  obtain ⟨s4_0, x4_0⟩ := made_new (C := A.BadQuestion) (v := v) (fs := [(("value" : Str), v)]) n4_0 p4_0 q4_0 (by simp [List.lookup])
  generalize upd (upd (upd K3 a4_0 (exo a4_0 A.BadQuestion none)) d4_0 (exd d4_0 [(("value" : Str), v)])) a4_0 (exo a4_0 A.BadQuestion (some d4_0)) = H4_0 at s4_0 x4_0 ⊢
  walk_at "rd"
  refine r_mkE ?_
  walk_at "rd"
  refine ⟨rfl, rfl, fun a4_1 n4_1 => ⟨a4_1, v, rfl, upd_same, fun d4_1 p4_1 q4_1 => ⟨rfl, ?_⟩⟩⟩
  obtain ⟨s4_1, x4_1⟩ := made_new (C := A.BadLine) (v := v) (fs := [(("value" : Str), v)]) n4_1 p4_1 q4_1 (by simp [List.lookup])
  generalize upd (upd (upd H4_0 a4_1 (exo a4_1 A.BadLine none)) d4_1 (exd d4_1 [(("value" : Str), v)])) a4_1 (exo a4_1 A.BadLine (some d4_1)) = H4_1 at s4_1 x4_1 ⊢
  walk_at "rd"
  refine r_mkE ?_
  walk_at "rd"
  refine ⟨rfl, rfl, fun a4_2 n4_2 => ⟨a4_2, v, rfl, upd_same, fun d4_2 p4_2 q4_2 => ⟨rfl, ?_⟩⟩⟩
  obtain ⟨s4_2, x4_2⟩ := made_new (C := A.NotARun) (v := v) (fs := [(("value" : Str), v)]) n4_2 p4_2 q4_2 (by simp [List.lookup])
  generalize upd (upd (upd H4_1 a4_2 (exo a4_2 A.NotARun none)) d4_2 (exd d4_2 [(("value" : Str), v)])) a4_2 (exo a4_2 A.NotARun (some d4_2)) = H4_2 at s4_2 x4_2 ⊢
  walk_at "rd"
  refine r_mkE ?_
  walk_at "rd"
  refine ⟨rfl, rfl, fun a4_3 n4_3 => ⟨a4_3, v, rfl, upd_same, fun d4_3 p4_3 q4_3 => ⟨rfl, ?_⟩⟩⟩
  obtain ⟨s4_3, x4_3⟩ := made_new (C := A.NoMoment) (v := v) (fs := [(("value" : Str), v)]) n4_3 p4_3 q4_3 (by simp [List.lookup])
  generalize upd (upd (upd H4_2 a4_3 (exo a4_3 A.NoMoment none)) d4_3 (exd d4_3 [(("value" : Str), v)])) a4_3 (exo a4_3 A.NoMoment (some d4_3)) = H4_3 at s4_3 x4_3 ⊢
  walk_at "rd"
  refine a_lst (by simp) fun M4 G4 m4 z4 f4 => ?_
  walk_at "rd"
  have r4 : ErrL G4 v [a4_0, a4_1, a4_2, a4_3] [A.BadQuestion, A.BadLine, A.NotARun, A.NoMoment] := ⟨x4_0.same (s4_1.trans (s4_2.trans (s4_3.trans z4))), x4_1.same (s4_2.trans (s4_3.trans z4)), x4_2.same (s4_3.trans z4), x4_3.same z4, True.intro⟩
  have c4 := (s4_0.trans (s4_1.trans (s4_2.trans (s4_3.trans z4))))
  refine g_catL (c4 _ _ E3) f4 (by simp) fun L4 K4 n4 y4 e4 => ?_
  walk_at "rd"
  have S4 := (S3.trans c4).trans y4
  have R4 := (R3.same (c4.trans y4)).app (r4.same y4)
  have E4 : K4 L4 = some (.lst ((((([a0_0, a0_1, a0_2, a0_3] ++ [a1_0, a1_1, a1_2, a1_3]) ++ [a2_0, a2_1, a2_2, a2_3]) ++ [a3_0, a3_1, a3_2, a3_3]) ++ [a4_0, a4_1, a4_2, a4_3]).map V.ref)) := by rw [List.map_append]; exact e4
  refine r_mkE ?_
  walk_at "rd"
  refine ⟨rfl, rfl, fun a5_0 n5_0 => ⟨a5_0, v, rfl, upd_same, fun d5_0 p5_0 q5_0 => ⟨rfl, ?_⟩⟩⟩
  obtain ⟨s5_0, x5_0⟩ := made_new (C := A.TooLong) (v := v) (fs := [(("value" : Str), v)]) n5_0 p5_0 q5_0 (by simp [List.lookup])
  generalize upd (upd (upd K4 a5_0 (exo a5_0 A.TooLong none)) d5_0 (exd d5_0 [(("value" : Str), v)])) a5_0 (exo a5_0 A.TooLong (some d5_0)) = H5_0 at s5_0 x5_0 ⊢
  walk_at "rd"
  refine r_mkE ?_
  walk_at "rd"
  refine ⟨rfl, rfl, fun a5_1 n5_1 => ⟨a5_1, v, rfl, upd_same, fun d5_1 p5_1 q5_1 => ⟨rfl, ?_⟩⟩⟩
  obtain ⟨s5_1, x5_1⟩ := made_new (C := A.NoEntry) (v := v) (fs := [(("value" : Str), v)]) n5_1 p5_1 q5_1 (by simp [List.lookup])
  generalize upd (upd (upd H5_0 a5_1 (exo a5_1 A.NoEntry none)) d5_1 (exd d5_1 [(("value" : Str), v)])) a5_1 (exo a5_1 A.NoEntry (some d5_1)) = H5_1 at s5_1 x5_1 ⊢
  walk_at "rd"
  refine r_mkE ?_
  walk_at "rd"
  refine ⟨rfl, rfl, fun a5_2 n5_2 => ⟨a5_2, v, rfl, upd_same, fun d5_2 p5_2 q5_2 => ⟨rfl, ?_⟩⟩⟩
  obtain ⟨s5_2, x5_2⟩ := made_new (C := A.NoHome) (v := v) (fs := [(("value" : Str), v)]) n5_2 p5_2 q5_2 (by simp [List.lookup])
  generalize upd (upd (upd H5_1 a5_2 (exo a5_2 A.NoHome none)) d5_2 (exd d5_2 [(("value" : Str), v)])) a5_2 (exo a5_2 A.NoHome (some d5_2)) = H5_2 at s5_2 x5_2 ⊢
  walk_at "rd"
  refine r_mkE ?_
  walk_at "rd"
  refine ⟨rfl, rfl, fun a5_3 n5_3 => ⟨a5_3, v, rfl, upd_same, fun d5_3 p5_3 q5_3 => ⟨rfl, ?_⟩⟩⟩
  obtain ⟨s5_3, x5_3⟩ := made_new (C := A.NoLink) (v := v) (fs := [(("value" : Str), v)]) n5_3 p5_3 q5_3 (by simp [List.lookup])
  generalize upd (upd (upd H5_2 a5_3 (exo a5_3 A.NoLink none)) d5_3 (exd d5_3 [(("value" : Str), v)])) a5_3 (exo a5_3 A.NoLink (some d5_3)) = H5_3 at s5_3 x5_3 ⊢
  walk_at "rd"
  refine a_lst (by simp) fun M5 G5 m5 z5 f5 => ?_
  walk_at "rd"
  have r5 : ErrL G5 v [a5_0, a5_1, a5_2, a5_3] [A.TooLong, A.NoEntry, A.NoHome, A.NoLink] := ⟨x5_0.same (s5_1.trans (s5_2.trans (s5_3.trans z5))), x5_1.same (s5_2.trans (s5_3.trans z5)), x5_2.same (s5_3.trans z5), x5_3.same z5, True.intro⟩
  have c5 := (s5_0.trans (s5_1.trans (s5_2.trans (s5_3.trans z5))))
  refine g_catL (c5 _ _ E4) f5 (by simp) fun L5 K5 n5 y5 e5 => ?_
  walk_at "rd"
  have S5 := (S4.trans c5).trans y5
  have R5 := (R4.same (c5.trans y5)).app (r5.same y5)
  have E5 : K5 L5 = some (.lst (((((([a0_0, a0_1, a0_2, a0_3] ++ [a1_0, a1_1, a1_2, a1_3]) ++ [a2_0, a2_1, a2_2, a2_3]) ++ [a3_0, a3_1, a3_2, a3_3]) ++ [a4_0, a4_1, a4_2, a4_3]) ++ [a5_0, a5_1, a5_2, a5_3]).map V.ref)) := by rw [List.map_append]; exact e5
  refine r_mkE ?_
  walk_at "rd"
  refine ⟨rfl, rfl, fun a6_0 n6_0 => ⟨a6_0, .str "way", v, rfl, upd_same, fun d6_0 p6_0 q6_0 => ⟨rfl, ?_⟩⟩⟩
  rw [made_two q6_0]
  obtain ⟨s6_0, x6_0⟩ := made_new (C := A.Refused) (v := v) (fs := [(("value" : Str), v), (("word" : Str), V.str "way")]) n6_0 p6_0 q6_0 (by simp [List.lookup])
  generalize upd (upd (upd K5 a6_0 (exo a6_0 A.Refused none)) d6_0 (exd d6_0 [(("value" : Str), v), (("word" : Str), V.str "way")])) a6_0 (exo a6_0 A.Refused (some d6_0)) = H6_0 at s6_0 x6_0 ⊢
  walk_at "rd"
  refine a_lst (by simp) fun M6 G6 m6 z6 f6 => ?_
  walk_at "rd"
  have r6 : ErrL G6 v [a6_0] [A.Refused] := ⟨x6_0.same z6, True.intro⟩
  have c6 := (s6_0.trans z6)
  refine g_catL (c6 _ _ E5) f6 (by simp) fun L6 K6 n6 y6 e6 => ?_
  walk_at "rd"
  have S6 := (S5.trans c6).trans y6
  have R6 := (R5.same (c6.trans y6)).app (r6.same y6)
  have E6 : K6 L6 = some (.lst ((((((([a0_0, a0_1, a0_2, a0_3] ++ [a1_0, a1_1, a1_2, a1_3]) ++ [a2_0, a2_1, a2_2, a2_3]) ++ [a3_0, a3_1, a3_2, a3_3]) ++ [a4_0, a4_1, a4_2, a4_3]) ++ [a5_0, a5_1, a5_2, a5_3]) ++ [a6_0]).map V.ref)) := by rw [List.map_append]; exact e6
  exact k L6 _ _ (by
    cases z : H L6 with
    | none => rfl
    | some o =>
      rw [(S5.trans c6) _ _ z] at n6
      cases n6) S6 E6 R6
end
end K03

set_option Elab.async false
set_option linter.all false
set_option maxRecDepth 100000
set_option maxHeartbeats 4000000
namespace K03
open PySem PySem.Spec PyProof.Rows L2 Tk
local macro_rules | `(tactic| walk_at "rd1") => `(tactic| first
  | with_reducible refine r_seq ?_
  | ((with_reducible refine r_var (v := ?vv) ?hrv ?_); (case hrv => rfl))
  | with_reducible refine r_c ?_
  | with_reducible refine r_op ?_
  | ((with_reducible refine r_ixL (xs := ?xx) (v := ?vv) ?hh ?he ?_); (case hh => first | assumption | exact upd_same); (case he => rfl))
  | with_reducible refine r_asg ?_
  | with_reducible refine r_sub ?_
  | ((with_reducible refine r_gTup (xs := ?xx) ?hh ?he ?_); (case hh => assumption); (case he => rfl))
  | with_reducible refine r_gCons ?_
  | with_reducible refine r_gNil ?_
  | ((with_reducible refine r_setL (xs := ?xx) (j := ?vv) ?hh ?he ?_); (case hh => first | assumption | exact upd_same); (case he => rfl))
  | with_reducible refine r_pow15 ?_
  | with_reducible refine r_pow18 ?_
  | with_reducible refine r_repr ?_
  | with_reducible refine iteT ?_
  | with_reducible refine iteF ?_
  | with_reducible refine r_cons ?_
  | with_reducible refine r_nil ?_
  | with_reducible refine r_call ?_
  | with_reducible refine r_cb ?_
  | with_reducible refine r_ret ?_
  | with_reducible refine r_gName ?_
  | with_reducible refine r_next ?_
  | with_reducible refine r_ifS ?_
  | with_reducible refine r_un ?_
  | with_reducible refine r_U ?_
  | with_reducible refine r_max2 ?_
  | with_reducible refine r_min2 ?_
  | with_reducible refine r_sl ?_
  | with_reducible refine r_noPart ?_
  | with_reducible refine r_part ?_
  | with_reducible refine r_inti ?_
  | with_reducible refine r_lc ?_
  | with_reducible refine r_for ?_
  | with_reducible refine r_rng1 ?_
  | with_reducible refine r_iList ?_
  | with_reducible refine r_iTup ?_
  | with_reducible refine r_iStr ?_
  | with_reducible refine r_strx ?_
  | ((with_reducible refine r_j ?hh ?hi ?_); (case hh => omega); (case hi => omega))
  | with_reducible refine r_m1 ?_
  | with_reducible refine r_test ?_
  | with_reducible refine r_B ?_
  | with_reducible refine r_not ?_
  | with_reducible refine r_and ?_
  | with_reducible refine r_or ?_
  | with_reducible refine r_andV ?_
  | with_reducible refine r_orV ?_
  | with_reducible refine r_notV ?_
  | with_reducible refine r_if ?_
  | with_reducible refine r_chain ?_
  | with_reducible refine r_lst ?_
  | with_reducible refine r_tup ?_
  | with_reducible refine r_k ?_
  | ((with_reducible refine r_isiS (d := ?dd) ?hh ?_); (case hh => assumption))
  | ((with_reducible refine r_isiT (d := ?dd) ?hh ?_); (case hh => assumption))
  | ((with_reducible refine r_isiI (d := ?dd) ?hh ?_); (case hh => assumption))
  | ((with_reducible refine r_isiB (d := ?dd) ?hh ?_); (case hh => assumption))
  | ((with_reducible refine r_lenS ?hh ?_); (case hh => assumption))
  | ((with_reducible refine r_lenT (xs := ?dd) ?hh ?_); (case hh => assumption))
  | ((with_reducible refine r_ixT (xs := ?xx) (v := ?vv) ?hh ?he ?_); (case hh => assumption); (case he => rfl))
  | with_reducible refine r_isN ?_
  | with_reducible refine r_I0 ?_
  | with_reducible refine g_addI ?_
  | ((with_reducible refine r_mod ?hh ?_); (case hh => first | decide | omega))
  | ((with_reducible refine r_div ?hh ?hi ?_); (case hh => first | decide | omega); (case hi => first | decide | omega))
  | ((with_reducible refine g_mulB ?hh ?hi ?_); (case hh => omega); (case hi => omega))
  | with_reducible refine g_ltI ?_
  | with_reducible refine g_leI ?_
  | with_reducible refine g_gtI ?_
  | with_reducible refine g_geI ?_
  | with_reducible refine g_eqI ?_
  | with_reducible refine g_neI ?_
  | with_reducible refine g_eqS ?_
  | with_reducible refine g_neS ?_
  | with_reducible refine g_leS ?_
  | with_reducible refine g_ltS ?_)
local macro_rules | `(tactic| walk_at "rd") => `(tactic| repeat (walk_at "rd1"))
local macro_rules | `(tactic| walk_at "ed") => `(tactic| repeat first
  | exact ed_int
  | exact ed_str
  | exact ed_bl
  | exact ed_non
  | exact ed_nil
  | exact ed_dct
  | exact ed_neg
  | with_reducible apply ed_cons
  | with_reducible apply ed_tup
  | with_reducible apply ed_lst
  | exact Nat.le_of_ble_eq_true rfl)
local macro_rules | `(tactic| walk_at "tx1") => `(tactic| first
  | walk_at "rd1"
  | with_reducible refine r_callS ?_
  | with_reducible refine r_zipA ?_
  | with_reducible refine r_par ?_
  | with_reducible refine r_pair ?_
  | with_reducible refine r_pow6 ?_
  | with_reducible refine r_m0 ?_
  | with_reducible refine r_bm ?_
  | with_reducible refine r_isS ?_
  | with_reducible refine r_told ?_
  | with_reducible refine r_js ?_
  | with_reducible refine r_jsNil ?_
  | with_reducible refine r_repl ?_
  | ((with_reducible refine r_gLst (xs := ?xx) ?hh ?he ?_); (case hh => assumption); (case he => rfl))
  | ((with_reducible refine r_lenL (xs := ?xx) ?hh ?_); (case hh => assumption)))
local macro_rules | `(tactic| walk_at "tx") => `(tactic| repeat (walk_at "tx1"))
section
variable {P : Program} {w : World} {K : PySem.W.Frag} {mg : Str → Option Value} {base : Heap} {A : Ad}
def things : List PyData := ([.none, .int (5), .bool true, .str (Str.ofString "ann"), .tuple [.str (Str.ofString "k")], .list [.str (Str.ofString "k")], .dict [], .int (-1)] : List PyData)
def noDict : PyData → Bool
  | .dict [] => true
  | d => !d.hasDict
theorem shows_things : ∀ d ∈ things, Shows d := by
  intro d hd
  have h : things.all (fun d => noDict d && (d.showable && (decide (d.shown.length ≤ 1000000) && decide (d.depth ≤ 60)))) = true := by decide +kernel
  have := List.all_eq_true.mp h d hd
  rw [Bool.and_eq_true, Bool.and_eq_true, Bool.and_eq_true, decide_eq_true_eq, decide_eq_true_eq] at this
  obtain ⟨h1, h2, h3, h4⟩ := this
  refine ⟨?_, h2, h3, h4⟩
  cases d with
  | dict kvs =>
    cases kvs with
    | nil => exact .inr rfl
    | cons _ _ => left; simpa [noDict] using h1
  | _ => left; simpa [noDict] using h1
theorem things_kept {H H' : Hp} {p : Addr} (D : Drawn p H H') (hp : PoolAt H p) : ∀ d ∈ things, ∀ v, Dd K H v d → Dd K H' v d := by
  intro d hd v h
  have hd : d ∈ (([.none, .int (5), .bool true, .str (Str.ofString "ann"), .tuple [.str (Str.ofString "k")], .list [.str (Str.ofString "k")], .dict [], .int (-1)] : List PyData)) := hd
  simp only [List.mem_cons, List.not_mem_nil, or_false] at hd
  rcases hd with rfl | rfl | rfl | rfl | rfl | rfl | rfl | rfl
  case inr.inr.inr.inr.inr.inr.inl =>
    cases h with
    | dct e =>
      refine .dct (D.kept _ _ e fun z => ?_)
      subst z
      obtain ⟨_, _, q, _⟩ := hp
      rw [q] at e
      cases e
  all_goals exact Dd.drawn h (by decide +kernel) D hp
theorem things_at {H H' : Hp} {v : V} {p : Addr} {Q : VK} (h : Dd K H v (.list things)) (D : Drawn p H H') (hp : PoolAt H p) {r : Int} (h0 : 0 ≤ r) (h1 : r < 8) (q : ∀ v' d, d ∈ things → Dd K H' v' d → Q v' H') : rIx K v (.int r) H' Q := by
  cases h with
  | lst e al =>
    obtain ⟨v', d, a1, a2, a3⟩ := al.at_ (r := r) h0 (by show r < ((8 : Nat) : Int); omega)
    have hl := al.length
    refine r_ixL (D.kept _ _ e fun z => ?_) a1 (q v' d a2 (things_kept D hp d a2 v' a3))
    subst z
    obtain ⟨_, _, y, _⟩ := hp
    rw [y] at e
    cases e
    simp [things] at hl
def dueD (j : Nat) : List PyData := if j < 21 then [.bool true, .bool true, .bool false, .bool false] else [.bool false, .bool false, .bool (decide (j < 24)), .bool (j == 24)]
theorem dueD_plain (j : Nat) : (PyData.list (dueD j)).plain = true ∧ (PyData.list (dueD j)).depth ≤ 60 := by
  unfold dueD
  by_cases c : j < 21
  · rw [if_pos c]
    exact ⟨by decide, by decide⟩
  · rw [if_neg c]
    cases decide (j < 24) <;> cases (j == 24) <;> exact ⟨by decide, by decide⟩
theorem r_due {j : Nat} {σ : L2.St} {H : Hp} {Q : VK} (h4 : σ[4]? = some (some (.int (j : Int)))) (h : ∀ w H8, Same H H8 → Dd K H8 w (.list (dueD j)) → Q w H8) :
    if decide ((j : Int) < 21) = true then tLst (tCons (tC (V.bl true)) (tCons (tC (V.bl true)) (tCons (tC (V.bl false)) (tCons (tC (V.bl false)) tNil)))) σ H Q
    else tLst (tCons (tC (V.bl false)) (tCons (tC (V.bl false)) (tCons (tOp GLt (tVar 4) (tC (V.int 24))) (tCons (tOp (GEq K) (tVar 4) (tC (V.int 24))) tNil)))) σ H Q := by
  by_cases c : (j : Int) < 21
  · rw [if_pos (decide_eq_true c)]
    walk_at "tx"
    refine a_lst (by simp) fun L H1 n1 s1 e1 => h _ _ s1 ?_
    have e : dueD j = [.bool true, .bool true, .bool false, .bool false] := by unfold dueD; rw [if_pos (by omega)]
    rw [e]
    exact .lst e1 (.cons (.bl _) (.cons (.bl _) (.cons (.bl _) (.cons (.bl _) .nil))))
  · rw [if_neg (by rw [decide_eq_false c]; decide)]
    walk_at "tx"
    refine r_var h4 ?_
    walk_at "tx"
    refine r_var h4 ?_
    walk_at "tx"
    refine a_lst (by simp) fun L H1 n1 s1 e1 => h _ _ s1 ?_
    have e : dueD j = [.bool false, .bool false, .bool (decide (j < 24)), .bool (j == 24)] := by unfold dueD; rw [if_neg (by omega)]
    have b1 : decide ((j : Int) < 24) = decide (j < 24) := by apply decide_eq_decide.mpr; omega
    have b2 : ((j : Int) == 24) = (j == 24) := by
      rw [Bool.eq_iff_iff, beq_iff_eq, beq_iff_eq]
      omega
    rw [e, ← b1, ← b2]
    exact .lst e1 (.cons (.bl _) (.cons (.bl _) (.cons (.bl _) (.cons (.bl _) .nil))))
theorem r_fldX {n : Str} {te : TE} {σ : L2.St} {H : Hp} {Q : VK} (h : te σ H fun x H1 => ∃ (a D dd : Addr) (fs : List (Str × V)) (v : V), x = .ref a ∧ H1 a = some (exo a D (some dd)) ∧ H1 dd = some (exd dd fs) ∧ fs.lookup n = some v ∧ XfC K D ∧ PySem.W.findIn K (.ref D) n = some none ∧ Q v H1) : tFldX K n te σ H Q := h
def eqTo (j : Nat) : V → V
  | .int z => .bl ((j : Int) == z)
  | _ => .non
theorem eq_row (j : Nat) : ((rngV 0 (25 : Int).toNat).filter (fun _ => true)).map (eqTo j) = ((List.range 25).map fun jj => (j == jj)).map V.bl := by
  have e : (rngV 0 (25 : Int).toNat).filter (fun _ => true) = rngV 0 25 := by
    rw [List.filter_eq_self.mpr (fun _ _ => rfl)]
    rfl
  rw [e]
  unfold rngV
  rw [List.map_map, List.map_map]
  apply List.map_congr_left
  intro jj _
  show V.bl ((j : Int) == 0 + (jj : Int)) = V.bl (j == jj)
  congr 1
  rw [Bool.eq_iff_iff, beq_iff_eq, beq_iff_eq]
  omega
theorem row_plain (bs : List Bool) : (PyData.list (bs.map PyData.bool)).plain = true ∧ (PyData.list (bs.map PyData.bool)).depth ≤ 60 := by
  have h1 : ∀ bs : List Bool, PyData.plainAll (bs.map PyData.bool) = true := by
    intro bs
    induction bs with
    | nil => rfl
    | cons b r ih => exact ih
  have h2 : ∀ bs : List Bool, PyData.depthAll (bs.map PyData.bool) = 0 := by
    intro bs
    induction bs with
    | nil => rfl
    | cons b r ih =>
      rw [List.map_cons, PyData.depthAll, ih]
      rfl
  refine ⟨h1 bs, ?_⟩
  show PyData.depthAll (bs.map PyData.bool) + 1 ≤ 60
  rw [h2 bs]
  decide
theorem made_at {C a dx : Addr} {v : V} {H : Hp} {fs : List (Str × V)} (ha : H a = none) (hd : upd H a (exo a C none) dx = none) (hn : dx ≠ a) :
    Same H (upd (upd (upd H a (exo a C none)) dx (exd dx fs)) a (exo a C (some dx))) ∧ ErrAt (upd (upd (upd H a (exo a C none)) dx (exd dx fs)) a (exo a C (some dx))) a C fs := by
  rw [upd_ne hn] at hd
  refine ⟨fun b o e => ?_, dx, upd_same, ?_⟩
  · rw [upd_ne (ne_of_none e ha), upd_ne (ne_of_none e hd), upd_ne (ne_of_none e ha)]
    exact e
  · rw [upd_ne hn, upd_same]
theorem r_iEnum {ta : TA} {σ : L2.St} {H : Hp} {R : It → Hp → Prop} (h : ta σ H fun vs H1 => ∃ a xs, vs = [.ref a] ∧ SqL K H1 a xs ∧ R (Ite K a) H1) : iEnum K ta σ H R := h
abbrev s_law : Stmt := top 34
abbrev n_law : List Str := ["_law_script", "_law_k", "_law_pool_here", "_law_thing", "_law_at", "_law_e", "_law_due", "_law_number", "_law_refused"]
abbrev p_law : List Str := ["_law_script"]
theorem sc_law : FnScope n_law p_law (defScope s_law) := ⟨rfl, rfl, rfl, by decide +kernel, rfl, by decide +kernel, by decide +kernel⟩
theorem ok_law (T : Txt mg) (Z : Errs P w K mg base A) {f : Addr} {fd : FuncData} (F : Fun K "law" "law" s_law f fd) (K_L_pool : Cal P w K mg base CX0 8 "_law_pool" p_L_pool (spPool K)) (K_L_take : Cal P w K mg base CX0 8 "_law_take" p_L_take spTake)
    (K_L_made : Cal P w K mg base CX0 8 "_law_made" p_L_made (spMade K A)) (K_L_kinds : Cal P w K mg base CX0 8 "_law_kinds" p_L_kinds (spKinds K A)) (K_L_classes : Cal P w K mg base CX0 8 "_law_classes" p_L_classes (spClas K A)) :
    FnG P w K mg base CX0 9 f fd p_law (spLaw K) := by
  refine funG0 F sc_law (fun vs H Q E h => spLaw_len h) (fun cdv AR outer s H vs Q E gd hr h => ?_)
  obtain ⟨a, ns, rfl, hS, hl, k⟩ := h
  have hu := hr.units
  refine ⟨_, (pss_cons (ps_for PassesOwn.never rfl (pi_range1 rfl T.z_range (pa_cons (pe_callB (c_max2 rfl) (by rfl) T.z_max (by decide +kernel) (pa_cons pe_int (pa_cons (pe_callB (c_min2 rfl) (by rfl) T.z_min (by decide +kernel) (pa_cons (pe_callB k_len (by rfl) T.z_len (by decide +kernel) (pa_cons (pv 0) pa_nil)) (pa_cons pe_int pa_nil))) pa_nil))) pa_nil)) (pg_name (i := 1) sc_law.nd rfl (by first | exact Or.inl rfl | exact Or.inr rfl))
      (pss_cons (ps_set (i := 2) sc_law.nd rfl (by first | exact Or.inl rfl | exact Or.inr rfl) (pe_cal K_L_pool (hr.mono (by decide)) pass0 (pa_cons (pv 0) (pa_cons (pv 1) pa_nil))))
      (pss_cons (ps_set (i := 3) sc_law.nd rfl (by first | exact Or.inl rfl | exact Or.inr rfl) (pe_ix k_ix (pe_lst (pa_cons pe_non (pa_cons pe_int (pa_cons pe_bl (pa_cons pe_str (pa_cons (pe_tup (pa_cons pe_str pa_nil)) (pa_cons (pe_lst (pa_cons pe_str pa_nil)) (pa_cons pe_dnewK (pa_cons (pe_un un_neg pe_int) pa_nil))))))))) (pe_cal K_L_take (hr.mono (by decide)) pass0 (pa_cons (pv 2) (pa_cons pe_int pa_nil))) (fun _ _ => rfl)))
      (pss_cons (ps_for PassesOwn.never rfl (pi_enum (by rfl) T.z_enumerate (pa_cons (pe_cal K_L_made (hr.mono (by decide)) pass0 (pa_cons (pv 3) pa_nil)) pa_nil)) (k_gtup (n := 2) rfl (pgs_cons (pg_name (i := 4) sc_law.nd rfl (by first | exact Or.inl rfl | exact Or.inr rfl)) (pgs_cons (pg_name (i := 5) sc_law.nd rfl (by first | exact Or.inl rfl | exact Or.inr rfl)) pgs_nil)))
      (pss_cons (ps_set (i := 6) sc_law.nd rfl (by first | exact Or.inl rfl | exact Or.inr rfl) (pe_ifExp (pt_cmpR o_lt (pv 4) pe_int (nomark _)) (pe_lst (pa_cons pe_bl (pa_cons pe_bl (pa_cons pe_bl (pa_cons pe_bl pa_nil))))) (pe_lst (pa_cons pe_bl (pa_cons pe_bl (pa_cons (pe_cmpR o_lt (pv 4) pe_int (nomark _)) (pa_cons (pe_cmpR (k_eq hu) (pv 4) pe_int (nomark _)) pa_nil)))))))
      (pss_cons (ps_if (PW.pt (pw_or (pt_cmpR (k_neP hu) (pe_cal K_L_kinds (hr.mono (by decide)) pass0 (pa_cons (pv 5) pa_nil)) (pv 6) (nomark _)) (pw_or1 (pt_cmpR (k_ne hu) (pe_callB (call_reprD gd hu) (by rfl) T.z_repr (by decide +kernel) (pa_cons (pe_fldX (pv 5)) pa_nil)) (pe_callB (call_reprD gd hu) (by rfl) T.z_repr (by decide +kernel) (pa_cons (pv 3) pa_nil)) (nomark _))))) (pss_one (ps_ret pe_bl)) pss_nil)
      (pss_one (ps_if (pt_cmpR (k_neP hu) (pe_cal K_L_classes (hr.mono (by decide)) pass0 (pa_cons (pv 5) pa_nil)) (pe_lc (own := [("_law_number", 7)]) rfl sc_law.nd (pi_range1 rfl T.z_range (pa_cons pe_int pa_nil)) (blkOk_by (own := [("_law_number", 7)]) (N := n_law) (sc := defScope s_law) (by decide +kernel)) (fun _ _ _ _ _ => (pg_name (i := 7) sc_law.nd rfl (by first | exact Or.inl rfl | exact Or.inr rfl))) (fun _ _ _ _ _ => pts_nil) (fun _ _ _ _ _ => (pe_cmpR (k_eq hu) (pv 4) (pv 7) (nomark _)))) (nomark _)) (pss_one (ps_ret pe_bl)) pss_nil)))))
      (pss_cons (ps_set (i := 8) sc_law.nd rfl (by first | exact Or.inl rfl | exact Or.inr rfl) (pe_mkEK Z.z_Refused (hr.mono (by decide)) (pk_cons pe_str (pk_cons (pv 3) pk_nil))))
      (pss_cons (ps_if (PW.pt (pw_or (pt_cmpR (k_ne hu) (pe_fldX (pv 8)) pe_str (nomark _)) (pw_or (pt_cmpR (k_ne hu) (pe_callB (call_reprD gd hu) (by rfl) T.z_repr (by decide +kernel) (pa_cons (pe_fldX (pv 8)) pa_nil)) (pe_callB (call_reprD gd hu) (by rfl) T.z_repr (by decide +kernel) (pa_cons (pv 3) pa_nil)) (nomark _)) (pw_or1 (pt_cmpR (k_ne hu) (pe_fldX (pe_mkE1 (n := 2) Z.z_Refused (hr.mono (by decide)) rfl (by decide) (pa_cons pe_str (pa_cons (pv 3) pa_nil)))) pe_str (nomark _)))))) (pss_one (ps_ret pe_bl)) pss_nil)
      (pss_one (ps_if (PW.pt (pw_or (pt_cmpR (k_neP hu) (pe_cal K_L_kinds (hr.mono (by decide)) pass0 (pa_cons (pe_mkE0 Z.z_NoWorld (hr.mono (by decide)) rfl) pa_nil)) (pe_lst (pa_cons pe_bl (pa_cons pe_bl (pa_cons pe_bl (pa_cons pe_bl pa_nil))))) (nomark _)) (pw_or1 (pt_cmpR (k_neP hu) (pe_cal K_L_classes (hr.mono (by decide)) pass0 (pa_cons (pe_mkE0 Z.z_NoWorld (hr.mono (by decide)) rfl) pa_nil)) (pe_op o_mul (pe_lst (pa_cons pe_bl pa_nil)) pe_int) (nomark _))))) (pss_one (ps_ret pe_bl)) pss_nil))))))))
      (pss_one (ps_ret pe_bl))), ?_⟩
  walk_at "tx"
  refine r_lenQ hS ?_
  walk_at "tx"
  rw [List.length_map]
  obtain ⟨n, en, hn⟩ := turns_of 6 ns.length (by decide)
  rw [show (6 : Int) = ((6 : Nat) : Int) from rfl, en]
  walk_at "tx"
  refine for_range (lo := 0) (n := (n : Int).toNat) (fun i σ H1 => ∃ o1 o2 o3 o4 o5 o6 o7 o8, σ = [some (.ref a), o1, o2, o3, o4, o5, o6, o7, o8] ∧ Same H H1) ⟨_, _, _, _, _, _, _, _, rfl, Same.refl H⟩ ?_ ?_
  · rintro i σ H1 hi ⟨o1, o2, o3, o4, o5, o6, o7, o8, rfl, s1⟩
    walk_at "tx"
    refine r_pool (s1.seq hS) hl (by omega) (by omega) fun p H2 hp s2 p2 => ?_
    (iterate 4 walk_at "tx1")
    refine ev_use (K := K) (d := .list things) (by unfold things; walk_at "ed") fun v1 H3 s3 d3 => ?_
    have p3 := p2.same s3
    walk_at "tx"
    refine r_take p3 (by decide) (by decide) fun r H4 r0 r1 D4 => ?_
    refine things_at d3 D4 p3 r0 r1 fun v d md dd => ?_
    have hpn : H p = none := by
      cases z : H p with
      | none => rfl
      | some o => rw [s1 _ _ z] at hp; cases hp
    have s4 : Same H H4 := D4.back ((s1.trans s2).trans s3) hpn
    have sh : Shows d := shows_things d md
    walk_at "tx"
    refine r_iEnum ?_
    walk_at "tx"
    refine ⟨v, rfl, fun L H5 as nL s5 eL xs => ?_⟩
    have d5 := Dd.same s5 _ _ dd
    have hlen : as.length = 25 := xs.len
    walk_at "tx"
    refine ⟨L, _, rfl, SqL.of eL, ?_⟩
    refine for_it walk_enum (fun i' σ H' => ∃ o4 o5 o6 o7 o8, σ = [some (.ref a), some (.int (0 + (i : Int))), some (.ref p), some v, o4, o5, o6, o7, o8] ∧ Same H5 H') ⟨_, _, _, _, _, rfl, Same.refl _⟩ (fun i' σ H' _ q => by obtain ⟨_, _, _, _, _, _, q⟩ := q; exact SqL.of (q _ _ eL)) ?_ ?_
    · rintro j x σ H6 H6' hj ⟨o4, o5, o6, o7, o8, rfl, s6⟩ ⟨T1, u1, u2, rfl, hT1, rfl, e1, e2⟩
      have hj' : j < 25 := by rw [List.length_map, hlen] at hj; exact hj
      cases e1
      obtain ⟨aj, ea, rfl⟩ : ∃ aj, as[j]? = some aj ∧ u2 = .ref aj := by
        have e2 : (as.map V.ref)[j]? = some u2 := e2
        rw [List.getElem?_map] at e2
        cases z : as[j]? with
        | none => rw [z] at e2; cases e2
        | some aj => rw [z] at e2; exact ⟨aj, rfl, (Option.some.inj e2).symm⟩
      have eT : upd H6 T1 (.tup [.int (j : Int), .ref aj]) T1 = some (.tup [.int (j : Int), .ref aj]) := upd_same
      have s6' := s6.trans (Same.new (o := .tup [.int (j : Int), .ref aj]) hT1)
      generalize upd H6 T1 (.tup [.int (j : Int), .ref aj]) = H7 at eT s6' ⊢
      have eD : A.all[j]? = some (A.all[j]'hj') := List.getElem?_eq_getElem _
      have xj := (xs.get j aj _ ea eD).same s6'
      have mD : A.all[j]'hj' ∈ A.all := List.getElem_mem _
      have mE : A.all[j]'hj' ∈ A.every := List.mem_cons_of_mem _ mD
      have hk := Z.kin j hj'
      have hc := Z.cla j hj'
      generalize A.all[j]'hj' = D at xj mD mE hk hc
      have xx : ErrX H7 aj D := by obtain ⟨fs, q, _⟩ := xj; exact ErrX.of q
      have d7 := Dd.same s6' _ _ d5
      walk_at "tx"
      refine r_due rfl fun w8 H8 s8 d8 => ?_
      walk_at "tx"
      refine ⟨aj, D, rfl, xx.same s8, mE, fun w9 H9 s9 d9 => ?_⟩
      rw [hk] at d9
      walk_at "tx"
      refine r_neSame d9 (Dd.same s9 _ _ d8) (dueD_plain j).1 (dueD_plain j).2 ?_
      walk_at "tx"
      obtain ⟨fs, xe, xl⟩ := xj
      have s79 := s8.trans s9
      refine r_fldX ?_
      walk_at "tx"
      obtain ⟨dd9, xh1, xh2⟩ := xe.same s79
      refine ⟨aj, D, dd9, fs, v, rfl, xh1, xh2, xl, (Z.xf D mD).1, (Z.xf D mD).2, ?_⟩
      walk_at "tx"
      refine r_reprD (Dd.same s79 _ _ d7) sh ?_
      walk_at "tx"
      refine r_reprD (Dd.same s79 _ _ d7) sh ?_
      walk_at "tx"
      refine r_decN (fun c => absurd rfl c) (fun _ => ?_)
      walk_at "tx"
      refine ⟨aj, D, rfl, xx.same s79, mE, fun wA HA sA dA => ?_⟩
      rw [hc] at dA
      walk_at "tx"
      refine lc_pure walk_rng (fun _ _ => trivial) (by decide) (fun _ => true) (eqTo j) (fun u hu H2 R s2 q => ?_) (fun u hu _ H2 R s2 q => ?_) (fun LB HB nB sB eB => ?_)
      · exact q H2 (Same.refl H2)
      · obtain ⟨jj, hjj, rfl⟩ := List.mem_map.mp hu
        walk_at "tx"
        exact q H2 (Same.refl H2)
      · have dB : Dd K HB (.ref LB) (.list (((List.range 25).map fun jj => (j == jj)).map PyData.bool)) := by
          rw [eq_row] at eB
          exact .lst eB bools_all
        have eR : ((List.range 25).map fun jj => PyData.bool (j == jj)) = ((List.range 25).map fun jj => (j == jj)).map PyData.bool := by
          rw [List.map_map]
          rfl
        rw [eR] at dA
        refine r_neSame (Dd.same sB _ _ dA) dB (row_plain _).1 (row_plain _).2 ?_
        walk_at "tx"
        exact ⟨_, _, _, _, _, rfl, ((s6'.trans s79).trans sA).trans sB⟩
    · rintro σ H6 ⟨o4, o5, o6, o7, o8, rfl, s6⟩
      have d6 := Dd.same s6 _ _ d5
      walk_at "tx"
      refine r_mkE ?_
      walk_at "tx"
      refine ⟨rfl, rfl, fun aR nR => ⟨aR, .str "untold", v, rfl, upd_same, fun dR pR qR => ⟨rfl, ?_⟩⟩⟩
      rw [made_two qR]
      obtain ⟨s7, x7⟩ := made_at (C := A.Refused) (v := v) (fs := [(("value" : Str), v), (("word" : Str), V.str "untold")]) nR pR qR
      generalize upd (upd (upd H6 aR (exo aR A.Refused none)) dR (exd dR [(("value" : Str), v), (("word" : Str), V.str "untold")])) aR (exo aR A.Refused (some dR)) = H7 at s7 x7 ⊢
      have mR : A.Refused ∈ A.all := by simp [Ad.all]
      walk_at "tx"
      refine r_fldX ?_
      walk_at "tx"
      obtain ⟨dd7, xh1, xh2⟩ := x7
      refine ⟨aR, A.Refused, dd7, _, .str "untold", rfl, xh1, xh2, rfl, (Z.xf _ mR).1, Z.xw, ?_⟩
      walk_at "tx"
      refine r_decN (fun c => absurd rfl c) (fun _ => ?_)
      walk_at "tx"
      refine r_fldX ?_
      walk_at "tx"
      refine ⟨aR, A.Refused, dd7, _, v, rfl, xh1, xh2, rfl, (Z.xf _ mR).1, (Z.xf _ mR).2, ?_⟩
      walk_at "tx"
      have d7 := Dd.same s7 _ _ d6
      refine r_reprD d7 sh ?_
      walk_at "tx"
      refine r_reprD d7 sh ?_
      walk_at "tx"
      refine r_decN (fun c => absurd rfl c) (fun _ => ?_)
      walk_at "tx"
      refine r_fldX ?_
      refine r_mkE ?_
      walk_at "tx"
      refine ⟨rfl, rfl, fun aS nS => ⟨aS, .str "way", v, rfl, upd_same, fun dS pS qS => ⟨rfl, ?_⟩⟩⟩
      rw [made_two qS]
      obtain ⟨s8, x8⟩ := made_at (C := A.Refused) (v := v) (fs := [(("value" : Str), v), (("word" : Str), V.str "way")]) nS pS qS
      generalize upd (upd (upd H7 aS (exo aS A.Refused none)) dS (exd dS [(("value" : Str), v), (("word" : Str), V.str "way")])) aS (exo aS A.Refused (some dS)) = H8 at s8 x8 ⊢
      obtain ⟨dd8, yh1, yh2⟩ := x8
      refine ⟨aS, A.Refused, dd8, _, .str "way", rfl, yh1, yh2, rfl, (Z.xf _ mR).1, Z.xw, ?_⟩
      walk_at "tx"
      refine r_decN (fun c => absurd rfl c) (fun _ => ?_)
      walk_at "tx"
      have mN : A.NoWorld ∈ A.every := List.mem_cons_self ..
      refine r_mkE ?_
      walk_at "tx"
      refine ⟨rfl, rfl, fun aN nN => ⟨aN, rfl, upd_same, rfl, ?_⟩⟩
      have sN : Same H8 (upd H8 aN (exo aN A.NoWorld none)) := Same.new nN
      have xN : ErrX (upd H8 aN (exo aN A.NoWorld none)) aN A.NoWorld := ⟨none, upd_same, fun _ z => nomatch z⟩
      generalize upd H8 aN (exo aN A.NoWorld none) = H9 at sN xN ⊢
      walk_at "tx"
      refine ⟨aN, A.NoWorld, rfl, xN, mN, fun wA HA sA dA => ?_⟩
      rw [Z.kinW] at dA
      walk_at "tx"
      refine a_lst (by simp) fun LB HB nB sB eB => ?_
      walk_at "tx"
      refine r_neSame (Dd.same sB _ _ dA) (.lst eB (.cons (.bl _) (.cons (.bl _) (.cons (.bl _) (.cons (.bl _) .nil))))) (by decide) (by decide) ?_
      walk_at "tx"
      refine r_mkE ?_
      walk_at "tx"
      refine ⟨rfl, rfl, fun aM nM => ⟨aM, rfl, upd_same, rfl, ?_⟩⟩
      have sM : Same HB (upd HB aM (exo aM A.NoWorld none)) := Same.new nM
      have xM : ErrX (upd HB aM (exo aM A.NoWorld none)) aM A.NoWorld := ⟨none, upd_same, fun _ z => nomatch z⟩
      generalize upd HB aM (exo aM A.NoWorld none) = HM at sM xM ⊢
      walk_at "tx"
      refine ⟨aM, A.NoWorld, rfl, xM, mN, fun wC HC sC dC => ?_⟩
      rw [Z.claW] at dC
      walk_at "tx"
      refine a_lst (by simp) fun LD HD nD sD eD => ?_
      walk_at "tx"
      refine .inr (.inr ⟨LD, 25, _, rfl, rfl, eD, by decide, by decide, by decide, fun LE nE => ?_⟩)
      have eE : (List.replicate (25 : Int).toNat [V.bl false]).flatten = (List.replicate 25 false).map V.bl := by decide
      have fE : List.replicate 25 (PyData.bool false) = (List.replicate 25 false).map PyData.bool := by rw [List.map_replicate]
      rw [eE]
      rw [fE] at dC
      have sE : Same HD (upd HD LE (.lst ((List.replicate 25 false).map V.bl))) := Same.new nE
      refine r_neSame (Dd.same (sD.trans sE) _ _ dC) (.lst upd_same bools_all) (row_plain _).1 (row_plain _).2 ?_
      walk_at "tx"
      exact ⟨_, _, _, _, _, _, _, _, rfl, ((s4.trans s5).trans (s6.trans s7)).trans (((s8.trans sN).trans (sA.trans sB)).trans ((sM.trans sC).trans (sD.trans sE)))⟩
  · rintro σ H1 ⟨o1, o2, o3, o4, o5, o6, o7, o8, rfl, s1⟩
    walk_at "tx"
    exact k _
end
end K03

set_option Elab.async false
set_option linter.all false
set_option maxRecDepth 100000
set_option maxHeartbeats 4000000
namespace K03
open PySem PySem.Spec PyProof.Rows L2 Tk
structure ClsB (K : PySem.W.Frag) (C : Addr) : Prop where
  sa : PySem.W.findIn K (.ref C) "__setattr__" = some (some (.builtin "object.__setattr__"))
  ga : PySem.W.findIn K (.ref C) "__getattribute__" = some (some (.builtin "BaseException.__getattribute__"))
  gg : PySem.W.findIn K (.ref C) "__getattr__" = some none
  nv : PySem.W.findIn K (.ref C) "value" = some none
  be : PySem.W.subIn K (.ref C) (.type "BaseException") = some true
  ty : PySem.W.typeIn K (.ref C) = some (.type "type")
  hd : PySem.W.hasDictIn K C = true
  ha : PySem.W.findIn K (.ref C) "__class__" = some (some (.builtin "object.__class__"))
  hm : PySem.W.mroIn K C (.type "object") = some true
def clsB (K : PySem.W.Frag) (C : Addr) : Bool := (decide (PySem.W.findIn K (.ref C) "__setattr__" = some (some (.builtin "object.__setattr__"))) && decide (PySem.W.findIn K (.ref C) "__getattribute__" = some (some (.builtin "BaseException.__getattribute__"))) && decide (PySem.W.findIn K (.ref C) "__getattr__" = some none)) &&
  ((decide (PySem.W.findIn K (.ref C) "value" = some none) && decide (PySem.W.subIn K (.ref C) (.type "BaseException") = some true) && decide (PySem.W.typeIn K (.ref C) = some (.type "type"))) &&
  (PySem.W.hasDictIn K C && decide (PySem.W.findIn K (.ref C) "__class__" = some (some (.builtin "object.__class__"))) && decide (PySem.W.mroIn K C (.type "object") = some true)))
theorem clsB_ok {K : PySem.W.Frag} {C : Addr} (h : clsB K C = true) : ClsB K C := by
  unfold clsB at h
  simp only [Bool.and_eq_true, decide_eq_true_eq] at h
  obtain ⟨⟨⟨h1, h2⟩, h3⟩, ⟨⟨h4, h5⟩, h6⟩, ⟨h7, h8⟩, h9⟩ := h
  exact ⟨h1, h2, h3, h4, h5, h6, h7, h8, h9⟩
def tabB (K : PySem.W.Frag) (A : Ad) : Bool := A.every.all fun D => A.vals.all fun c => (PySem.W.kitOne K (.ref D) c).isSome
def kindsB (K : PySem.W.Frag) (A : Ad) (D : Addr) : List Bool := [isK K D (.ref A.TombError), isK K D (.type "ValueError"), isK K D (.type "KeyError"), isK K D (.type "RuntimeError")]
def clasB (K : PySem.W.Frag) (A : Ad) (D : Addr) : List Bool := A.all.map fun C => isK K D (.ref C)
def kindsT : List (List Bool) := (List.range 25).map fun i => if i < 21 then [true, true, false, false] else [false, false, decide (i < 24), i == 24]
def clasT : List (List Bool) := (List.range 25).map fun i => (List.range 25).map fun j => i == j
theorem kindsD_of (K : PySem.W.Frag) (A : Ad) (D : Addr) : kindsD K A D = (kindsB K A D).map PyData.bool := rfl
theorem clasD_of (K : PySem.W.Frag) (A : Ad) (D : Addr) : clasD K A D = (clasB K A D).map PyData.bool := by
  unfold clasD clasB
  rw [List.map_map]
  rfl
theorem row_of {K : PySem.W.Frag} {A : Ad} {f : Addr → List Bool} {t : List (List Bool)} (e : A.all.map f = t) (i : Nat) (h : i < 25) : t[i]? = some (f (A.all[i]'h)) := by
  rw [← e, List.getElem?_map, List.getElem?_eq_getElem (l := A.all) (i := i) h]
  rfl
theorem vtB (C : Addr) (X : String) : ([.ref C, .type "ValueError", .type "Exception", .type "BaseException", .type "object"] : List Value).contains (.type X) = HandSPX.veTail.contains (.type X) := HandSPX.refsVE_contains X _ (show HandSPX.refsVE [.type "ValueError", .type "Exception", .type "BaseException", .type "object"] = true by decide +kernel)
theorem errs_mk {P : Program} {w : World} {K : PySem.W.Frag} {mg : Str → Option Value} {base : Heap} {A : Ad}
    (z_BadEntry : ErrC P w K mg base "BadEntry" A.BadEntry ["self", "value"] (spI1 K A.BadEntry))
    (z_BadEntries : ErrC P w K mg base "BadEntries" A.BadEntries ["self", "value"] (spI1 K A.BadEntries))
    (z_BadText : ErrC P w K mg base "BadText" A.BadText ["self", "value"] (spI1 K A.BadText))
    (z_BadEvent : ErrC P w K mg base "BadEvent" A.BadEvent ["self", "value"] (spI1 K A.BadEvent))
    (z_BadWorld : ErrC P w K mg base "BadWorld" A.BadWorld ["self", "value"] (spI1 K A.BadWorld))
    (z_BadKey : ErrC P w K mg base "BadKey" A.BadKey ["self", "value"] (spI1 K A.BadKey))
    (z_BadStamp : ErrC P w K mg base "BadStamp" A.BadStamp ["self", "value"] (spI1 K A.BadStamp))
    (z_BadHomes : ErrC P w K mg base "BadHomes" A.BadHomes ["self", "value"] (spI1 K A.BadHomes))
    (z_BadRow : ErrC P w K mg base "BadRow" A.BadRow ["self", "value"] (spI1 K A.BadRow))
    (z_BadStory : ErrC P w K mg base "BadStory" A.BadStory ["self", "value"] (spI1 K A.BadStory))
    (z_BadLimit : ErrC P w K mg base "BadLimit" A.BadLimit ["self", "value"] (spI1 K A.BadLimit))
    (z_BadPolicy : ErrC P w K mg base "BadPolicy" A.BadPolicy ["self", "value"] (spI1 K A.BadPolicy))
    (z_BadKeys : ErrC P w K mg base "BadKeys" A.BadKeys ["self", "value"] (spI1 K A.BadKeys))
    (z_BadDepth : ErrC P w K mg base "BadDepth" A.BadDepth ["self", "value"] (spI1 K A.BadDepth))
    (z_BadSkips : ErrC P w K mg base "BadSkips" A.BadSkips ["self", "value"] (spI1 K A.BadSkips))
    (z_BadPlan : ErrC P w K mg base "BadPlan" A.BadPlan ["self", "value"] (spI1 K A.BadPlan))
    (z_BadQuestion : ErrC P w K mg base "BadQuestion" A.BadQuestion ["self", "value"] (spI1 K A.BadQuestion))
    (z_BadLine : ErrC P w K mg base "BadLine" A.BadLine ["self", "value"] (spI1 K A.BadLine))
    (z_NotARun : ErrC P w K mg base "NotARun" A.NotARun ["self", "value"] (spI1 K A.NotARun))
    (z_NoMoment : ErrC P w K mg base "NoMoment" A.NoMoment ["self", "value"] (spI1 K A.NoMoment))
    (z_TooLong : ErrC P w K mg base "TooLong" A.TooLong ["self", "value"] (spI1 K A.TooLong))
    (z_NoEntry : ErrC P w K mg base "NoEntry" A.NoEntry ["self", "value"] (spI1 K A.NoEntry))
    (z_NoHome : ErrC P w K mg base "NoHome" A.NoHome ["self", "value"] (spI1 K A.NoHome))
    (z_NoLink : ErrC P w K mg base "NoLink" A.NoLink ["self", "value"] (spI1 K A.NoLink))
    (z_Refused : ErrC P w K mg base "Refused" A.Refused ["self", "word", "value"] (spI2 K A.Refused))
    (z_NoWorld : ErrC P w K mg base "NoWorld" A.NoWorld ["self"] (spI0 K A.NoWorld))
    (tomb : mg "TombError" = some (.ref A.TombError)) (cB : A.every.all (clsB K) = true) (cN : PySem.W.specialIn K (.builtin "object.__class__") "__get__" = some (some (.builtin "getset_descriptor.__get__"))) (cT : PySem.W.takesIn K (.builtin "object.__class__") = some true)
    (rw : PySem.W.findIn K (.ref A.Refused) "word" = some none) (tB : tabB K A = true) (kT : A.all.map (kindsB K A) = kindsT) (cT2 : A.all.map (clasB K A) = clasT) (kW : kindsB K A A.NoWorld = [false, false, false, true]) (cW : clasB K A A.NoWorld = List.replicate 25 false) : Errs P w K mg base A := by
  have cl : ∀ D ∈ A.every, ClsB K D := fun D h => clsB_ok (List.all_eq_true.mp cB D h)
  refine ⟨z_BadEntry, z_BadEntries, z_BadText, z_BadEvent, z_BadWorld, z_BadKey, z_BadStamp, z_BadHomes, z_BadRow, z_BadStory, z_BadLimit, z_BadPolicy, z_BadKeys, z_BadDepth, z_BadSkips, z_BadPlan, z_BadQuestion, z_BadLine, z_NotARun, z_NoMoment, z_TooLong, z_NoEntry, z_NoHome, z_NoLink, z_Refused, z_NoWorld, tomb, fun D h => ?_, fun D h => ?_, rw, fun D h c hc => ?_, fun i h => ?_, fun i h => ?_, ?_, ?_⟩
  · have B := cl D h
    exact ⟨B.ga, B.gg, B.be, B.hd, B.ha, cN, cT, B.hm⟩
  · have B := cl D (List.mem_cons_of_mem _ h)
    exact ⟨⟨B.ga, B.gg, B.be, B.hd⟩, B.nv⟩
  · exact List.all_eq_true.mp (List.all_eq_true.mp tB D h) c hc
  · have z := row_of (K := K) kT i h
    unfold kindsT at z
    rw [List.getElem?_map, List.getElem?_range h] at z
    rw [kindsD_of, ← Option.some.inj z]
    show List.map PyData.bool (if i < 21 then [true, true, false, false] else [false, false, decide (i < 24), i == 24]) = _
    by_cases c : i < 21
    · rw [if_pos c, if_pos c]
      rfl
    · rw [if_neg c, if_neg c]
      rfl
  · have z := row_of (K := K) cT2 i h
    unfold clasT at z
    rw [List.getElem?_map, List.getElem?_range h] at z
    rw [clasD_of, ← Option.some.inj z, List.map_map]
    rfl
  · rw [kindsD_of, kW]
    rfl
  · rw [clasD_of, cW, List.map_replicate]
section
abbrev s_ini_BadEntry : Stmt := inClass (top 2) 0
theorem sc_ini_BadEntry : FnScope ["self", "value"] ["self", "value"] (defScope s_ini_BadEntry) := ⟨rfl, rfl, rfl, by decide +kernel, rfl, by decide +kernel, by decide +kernel⟩
abbrev s_ini_BadEntries : Stmt := inClass (top 3) 0
theorem sc_ini_BadEntries : FnScope ["self", "value"] ["self", "value"] (defScope s_ini_BadEntries) := ⟨rfl, rfl, rfl, by decide +kernel, rfl, by decide +kernel, by decide +kernel⟩
abbrev s_ini_BadText : Stmt := inClass (top 4) 0
theorem sc_ini_BadText : FnScope ["self", "value"] ["self", "value"] (defScope s_ini_BadText) := ⟨rfl, rfl, rfl, by decide +kernel, rfl, by decide +kernel, by decide +kernel⟩
abbrev s_ini_BadEvent : Stmt := inClass (top 5) 0
theorem sc_ini_BadEvent : FnScope ["self", "value"] ["self", "value"] (defScope s_ini_BadEvent) := ⟨rfl, rfl, rfl, by decide +kernel, rfl, by decide +kernel, by decide +kernel⟩
abbrev s_ini_BadWorld : Stmt := inClass (top 6) 0
theorem sc_ini_BadWorld : FnScope ["self", "value"] ["self", "value"] (defScope s_ini_BadWorld) := ⟨rfl, rfl, rfl, by decide +kernel, rfl, by decide +kernel, by decide +kernel⟩
abbrev s_ini_BadKey : Stmt := inClass (top 7) 0
theorem sc_ini_BadKey : FnScope ["self", "value"] ["self", "value"] (defScope s_ini_BadKey) := ⟨rfl, rfl, rfl, by decide +kernel, rfl, by decide +kernel, by decide +kernel⟩
abbrev s_ini_BadStamp : Stmt := inClass (top 8) 0
theorem sc_ini_BadStamp : FnScope ["self", "value"] ["self", "value"] (defScope s_ini_BadStamp) := ⟨rfl, rfl, rfl, by decide +kernel, rfl, by decide +kernel, by decide +kernel⟩
abbrev s_ini_BadHomes : Stmt := inClass (top 9) 0
theorem sc_ini_BadHomes : FnScope ["self", "value"] ["self", "value"] (defScope s_ini_BadHomes) := ⟨rfl, rfl, rfl, by decide +kernel, rfl, by decide +kernel, by decide +kernel⟩
abbrev s_ini_BadRow : Stmt := inClass (top 10) 0
theorem sc_ini_BadRow : FnScope ["self", "value"] ["self", "value"] (defScope s_ini_BadRow) := ⟨rfl, rfl, rfl, by decide +kernel, rfl, by decide +kernel, by decide +kernel⟩
abbrev s_ini_BadStory : Stmt := inClass (top 11) 0
theorem sc_ini_BadStory : FnScope ["self", "value"] ["self", "value"] (defScope s_ini_BadStory) := ⟨rfl, rfl, rfl, by decide +kernel, rfl, by decide +kernel, by decide +kernel⟩
abbrev s_ini_BadLimit : Stmt := inClass (top 12) 0
theorem sc_ini_BadLimit : FnScope ["self", "value"] ["self", "value"] (defScope s_ini_BadLimit) := ⟨rfl, rfl, rfl, by decide +kernel, rfl, by decide +kernel, by decide +kernel⟩
abbrev s_ini_BadPolicy : Stmt := inClass (top 13) 0
theorem sc_ini_BadPolicy : FnScope ["self", "value"] ["self", "value"] (defScope s_ini_BadPolicy) := ⟨rfl, rfl, rfl, by decide +kernel, rfl, by decide +kernel, by decide +kernel⟩
abbrev s_ini_BadKeys : Stmt := inClass (top 14) 0
theorem sc_ini_BadKeys : FnScope ["self", "value"] ["self", "value"] (defScope s_ini_BadKeys) := ⟨rfl, rfl, rfl, by decide +kernel, rfl, by decide +kernel, by decide +kernel⟩
abbrev s_ini_BadDepth : Stmt := inClass (top 15) 0
theorem sc_ini_BadDepth : FnScope ["self", "value"] ["self", "value"] (defScope s_ini_BadDepth) := ⟨rfl, rfl, rfl, by decide +kernel, rfl, by decide +kernel, by decide +kernel⟩
abbrev s_ini_BadSkips : Stmt := inClass (top 16) 0
theorem sc_ini_BadSkips : FnScope ["self", "value"] ["self", "value"] (defScope s_ini_BadSkips) := ⟨rfl, rfl, rfl, by decide +kernel, rfl, by decide +kernel, by decide +kernel⟩
abbrev s_ini_BadPlan : Stmt := inClass (top 17) 0
theorem sc_ini_BadPlan : FnScope ["self", "value"] ["self", "value"] (defScope s_ini_BadPlan) := ⟨rfl, rfl, rfl, by decide +kernel, rfl, by decide +kernel, by decide +kernel⟩
abbrev s_ini_BadQuestion : Stmt := inClass (top 18) 0
theorem sc_ini_BadQuestion : FnScope ["self", "value"] ["self", "value"] (defScope s_ini_BadQuestion) := ⟨rfl, rfl, rfl, by decide +kernel, rfl, by decide +kernel, by decide +kernel⟩
abbrev s_ini_BadLine : Stmt := inClass (top 19) 0
theorem sc_ini_BadLine : FnScope ["self", "value"] ["self", "value"] (defScope s_ini_BadLine) := ⟨rfl, rfl, rfl, by decide +kernel, rfl, by decide +kernel, by decide +kernel⟩
abbrev s_ini_NotARun : Stmt := inClass (top 20) 0
theorem sc_ini_NotARun : FnScope ["self", "value"] ["self", "value"] (defScope s_ini_NotARun) := ⟨rfl, rfl, rfl, by decide +kernel, rfl, by decide +kernel, by decide +kernel⟩
abbrev s_ini_NoMoment : Stmt := inClass (top 21) 0
theorem sc_ini_NoMoment : FnScope ["self", "value"] ["self", "value"] (defScope s_ini_NoMoment) := ⟨rfl, rfl, rfl, by decide +kernel, rfl, by decide +kernel, by decide +kernel⟩
abbrev s_ini_TooLong : Stmt := inClass (top 22) 0
theorem sc_ini_TooLong : FnScope ["self", "value"] ["self", "value"] (defScope s_ini_TooLong) := ⟨rfl, rfl, rfl, by decide +kernel, rfl, by decide +kernel, by decide +kernel⟩
abbrev s_ini_NoEntry : Stmt := inClass (top 23) 0
theorem sc_ini_NoEntry : FnScope ["self", "value"] ["self", "value"] (defScope s_ini_NoEntry) := ⟨rfl, rfl, rfl, by decide +kernel, rfl, by decide +kernel, by decide +kernel⟩
abbrev s_ini_NoHome : Stmt := inClass (top 24) 0
theorem sc_ini_NoHome : FnScope ["self", "value"] ["self", "value"] (defScope s_ini_NoHome) := ⟨rfl, rfl, rfl, by decide +kernel, rfl, by decide +kernel, by decide +kernel⟩
abbrev s_ini_NoLink : Stmt := inClass (top 25) 0
theorem sc_ini_NoLink : FnScope ["self", "value"] ["self", "value"] (defScope s_ini_NoLink) := ⟨rfl, rfl, rfl, by decide +kernel, rfl, by decide +kernel, by decide +kernel⟩
abbrev s_ini_Refused : Stmt := inClass (top 26) 0
theorem sc_ini_Refused : FnScope ["self", "word", "value"] ["self", "word", "value"] (defScope s_ini_Refused) := ⟨rfl, rfl, rfl, by decide +kernel, rfl, by decide +kernel, by decide +kernel⟩
abbrev s_ini_NoWorld : Stmt := inClass (top 27) 0
theorem sc_ini_NoWorld : FnScope ["self"] ["self"] (defScope s_ini_NoWorld) := ⟨rfl, rfl, rfl, by decide +kernel, rfl, by decide +kernel, by decide +kernel⟩
end
theorem all_mk {l : PySem.W.OpenLaw} {w : World} {K : PySem.W.Frag} {h : Heap} {mg : Str → Option Value} {fa : Addr} (X : K.In h) (G : h.Ns mainGlobals mg) (hfa : mg "law" = some (.ref fa))
    {C_BadEntry C_BadEntries C_BadText C_BadEvent C_BadWorld C_BadKey C_BadStamp C_BadHomes C_BadRow C_BadStory C_BadLimit C_BadPolicy C_BadKeys C_BadDepth C_BadSkips C_BadPlan C_BadQuestion C_BadLine C_NotARun C_NoMoment C_TooLong C_NoEntry C_NoHome C_NoLink C_Refused C_NoWorld C_TombError : Addr}
    {fI0 : Addr} {nm0 q0 : Str} {N0 : Addr} {bs0 : List Value} {sn0 : List Str} {sub0 : List Value} {ab0 : Bool} {col0 : Option Bool} {dd0 : Option Addr} {ma0 mb0 mc0 md0 me0 : Option Value} {iod0 ian0 : Option Addr} {isl0 : Array (Option Value)} {ioc0 ikV0 idc0 ipm0 icd0 ict0 : Value}
    {fI1 : Addr} {nm1 q1 : Str} {N1 : Addr} {bs1 : List Value} {sn1 : List Str} {sub1 : List Value} {ab1 : Bool} {col1 : Option Bool} {dd1 : Option Addr} {ma1 mb1 mc1 md1 me1 : Option Value} {iod1 ian1 : Option Addr} {isl1 : Array (Option Value)} {ioc1 ikV1 idc1 ipm1 icd1 ict1 : Value}
    {fI2 : Addr} {nm2 q2 : Str} {N2 : Addr} {bs2 : List Value} {sn2 : List Str} {sub2 : List Value} {ab2 : Bool} {col2 : Option Bool} {dd2 : Option Addr} {ma2 mb2 mc2 md2 me2 : Option Value} {iod2 ian2 : Option Addr} {isl2 : Array (Option Value)} {ioc2 ikV2 idc2 ipm2 icd2 ict2 : Value}
    {fI3 : Addr} {nm3 q3 : Str} {N3 : Addr} {bs3 : List Value} {sn3 : List Str} {sub3 : List Value} {ab3 : Bool} {col3 : Option Bool} {dd3 : Option Addr} {ma3 mb3 mc3 md3 me3 : Option Value} {iod3 ian3 : Option Addr} {isl3 : Array (Option Value)} {ioc3 ikV3 idc3 ipm3 icd3 ict3 : Value}
    {fI4 : Addr} {nm4 q4 : Str} {N4 : Addr} {bs4 : List Value} {sn4 : List Str} {sub4 : List Value} {ab4 : Bool} {col4 : Option Bool} {dd4 : Option Addr} {ma4 mb4 mc4 md4 me4 : Option Value} {iod4 ian4 : Option Addr} {isl4 : Array (Option Value)} {ioc4 ikV4 idc4 ipm4 icd4 ict4 : Value}
    {fI5 : Addr} {nm5 q5 : Str} {N5 : Addr} {bs5 : List Value} {sn5 : List Str} {sub5 : List Value} {ab5 : Bool} {col5 : Option Bool} {dd5 : Option Addr} {ma5 mb5 mc5 md5 me5 : Option Value} {iod5 ian5 : Option Addr} {isl5 : Array (Option Value)} {ioc5 ikV5 idc5 ipm5 icd5 ict5 : Value}
    {fI6 : Addr} {nm6 q6 : Str} {N6 : Addr} {bs6 : List Value} {sn6 : List Str} {sub6 : List Value} {ab6 : Bool} {col6 : Option Bool} {dd6 : Option Addr} {ma6 mb6 mc6 md6 me6 : Option Value} {iod6 ian6 : Option Addr} {isl6 : Array (Option Value)} {ioc6 ikV6 idc6 ipm6 icd6 ict6 : Value}
    {fI7 : Addr} {nm7 q7 : Str} {N7 : Addr} {bs7 : List Value} {sn7 : List Str} {sub7 : List Value} {ab7 : Bool} {col7 : Option Bool} {dd7 : Option Addr} {ma7 mb7 mc7 md7 me7 : Option Value} {iod7 ian7 : Option Addr} {isl7 : Array (Option Value)} {ioc7 ikV7 idc7 ipm7 icd7 ict7 : Value}
    {fI8 : Addr} {nm8 q8 : Str} {N8 : Addr} {bs8 : List Value} {sn8 : List Str} {sub8 : List Value} {ab8 : Bool} {col8 : Option Bool} {dd8 : Option Addr} {ma8 mb8 mc8 md8 me8 : Option Value} {iod8 ian8 : Option Addr} {isl8 : Array (Option Value)} {ioc8 ikV8 idc8 ipm8 icd8 ict8 : Value}
    {fI9 : Addr} {nm9 q9 : Str} {N9 : Addr} {bs9 : List Value} {sn9 : List Str} {sub9 : List Value} {ab9 : Bool} {col9 : Option Bool} {dd9 : Option Addr} {ma9 mb9 mc9 md9 me9 : Option Value} {iod9 ian9 : Option Addr} {isl9 : Array (Option Value)} {ioc9 ikV9 idc9 ipm9 icd9 ict9 : Value}
    {fI10 : Addr} {nm10 q10 : Str} {N10 : Addr} {bs10 : List Value} {sn10 : List Str} {sub10 : List Value} {ab10 : Bool} {col10 : Option Bool} {dd10 : Option Addr} {ma10 mb10 mc10 md10 me10 : Option Value} {iod10 ian10 : Option Addr} {isl10 : Array (Option Value)} {ioc10 ikV10 idc10 ipm10 icd10 ict10 : Value}
    {fI11 : Addr} {nm11 q11 : Str} {N11 : Addr} {bs11 : List Value} {sn11 : List Str} {sub11 : List Value} {ab11 : Bool} {col11 : Option Bool} {dd11 : Option Addr} {ma11 mb11 mc11 md11 me11 : Option Value} {iod11 ian11 : Option Addr} {isl11 : Array (Option Value)} {ioc11 ikV11 idc11 ipm11 icd11 ict11 : Value}
    {fI12 : Addr} {nm12 q12 : Str} {N12 : Addr} {bs12 : List Value} {sn12 : List Str} {sub12 : List Value} {ab12 : Bool} {col12 : Option Bool} {dd12 : Option Addr} {ma12 mb12 mc12 md12 me12 : Option Value} {iod12 ian12 : Option Addr} {isl12 : Array (Option Value)} {ioc12 ikV12 idc12 ipm12 icd12 ict12 : Value}
    {fI13 : Addr} {nm13 q13 : Str} {N13 : Addr} {bs13 : List Value} {sn13 : List Str} {sub13 : List Value} {ab13 : Bool} {col13 : Option Bool} {dd13 : Option Addr} {ma13 mb13 mc13 md13 me13 : Option Value} {iod13 ian13 : Option Addr} {isl13 : Array (Option Value)} {ioc13 ikV13 idc13 ipm13 icd13 ict13 : Value}
    {fI14 : Addr} {nm14 q14 : Str} {N14 : Addr} {bs14 : List Value} {sn14 : List Str} {sub14 : List Value} {ab14 : Bool} {col14 : Option Bool} {dd14 : Option Addr} {ma14 mb14 mc14 md14 me14 : Option Value} {iod14 ian14 : Option Addr} {isl14 : Array (Option Value)} {ioc14 ikV14 idc14 ipm14 icd14 ict14 : Value}
    {fI15 : Addr} {nm15 q15 : Str} {N15 : Addr} {bs15 : List Value} {sn15 : List Str} {sub15 : List Value} {ab15 : Bool} {col15 : Option Bool} {dd15 : Option Addr} {ma15 mb15 mc15 md15 me15 : Option Value} {iod15 ian15 : Option Addr} {isl15 : Array (Option Value)} {ioc15 ikV15 idc15 ipm15 icd15 ict15 : Value}
    {fI16 : Addr} {nm16 q16 : Str} {N16 : Addr} {bs16 : List Value} {sn16 : List Str} {sub16 : List Value} {ab16 : Bool} {col16 : Option Bool} {dd16 : Option Addr} {ma16 mb16 mc16 md16 me16 : Option Value} {iod16 ian16 : Option Addr} {isl16 : Array (Option Value)} {ioc16 ikV16 idc16 ipm16 icd16 ict16 : Value}
    {fI17 : Addr} {nm17 q17 : Str} {N17 : Addr} {bs17 : List Value} {sn17 : List Str} {sub17 : List Value} {ab17 : Bool} {col17 : Option Bool} {dd17 : Option Addr} {ma17 mb17 mc17 md17 me17 : Option Value} {iod17 ian17 : Option Addr} {isl17 : Array (Option Value)} {ioc17 ikV17 idc17 ipm17 icd17 ict17 : Value}
    {fI18 : Addr} {nm18 q18 : Str} {N18 : Addr} {bs18 : List Value} {sn18 : List Str} {sub18 : List Value} {ab18 : Bool} {col18 : Option Bool} {dd18 : Option Addr} {ma18 mb18 mc18 md18 me18 : Option Value} {iod18 ian18 : Option Addr} {isl18 : Array (Option Value)} {ioc18 ikV18 idc18 ipm18 icd18 ict18 : Value}
    {fI19 : Addr} {nm19 q19 : Str} {N19 : Addr} {bs19 : List Value} {sn19 : List Str} {sub19 : List Value} {ab19 : Bool} {col19 : Option Bool} {dd19 : Option Addr} {ma19 mb19 mc19 md19 me19 : Option Value} {iod19 ian19 : Option Addr} {isl19 : Array (Option Value)} {ioc19 ikV19 idc19 ipm19 icd19 ict19 : Value}
    {fI20 : Addr} {nm20 q20 : Str} {N20 : Addr} {bs20 : List Value} {sn20 : List Str} {sub20 : List Value} {ab20 : Bool} {col20 : Option Bool} {dd20 : Option Addr} {ma20 mb20 mc20 md20 me20 : Option Value} {iod20 ian20 : Option Addr} {isl20 : Array (Option Value)} {ioc20 ikV20 idc20 ipm20 icd20 ict20 : Value}
    {fI21 : Addr} {nm21 q21 : Str} {N21 : Addr} {bs21 : List Value} {sn21 : List Str} {sub21 : List Value} {ab21 : Bool} {col21 : Option Bool} {dd21 : Option Addr} {ma21 mb21 mc21 md21 me21 : Option Value} {iod21 ian21 : Option Addr} {isl21 : Array (Option Value)} {ioc21 ikV21 idc21 ipm21 icd21 ict21 : Value}
    {fI22 : Addr} {nm22 q22 : Str} {N22 : Addr} {bs22 : List Value} {sn22 : List Str} {sub22 : List Value} {ab22 : Bool} {col22 : Option Bool} {dd22 : Option Addr} {ma22 mb22 mc22 md22 me22 : Option Value} {iod22 ian22 : Option Addr} {isl22 : Array (Option Value)} {ioc22 ikV22 idc22 ipm22 icd22 ict22 : Value}
    {fI23 : Addr} {nm23 q23 : Str} {N23 : Addr} {bs23 : List Value} {sn23 : List Str} {sub23 : List Value} {ab23 : Bool} {col23 : Option Bool} {dd23 : Option Addr} {ma23 mb23 mc23 md23 me23 : Option Value} {iod23 ian23 : Option Addr} {isl23 : Array (Option Value)} {ioc23 ikV23 idc23 ipm23 icd23 ict23 : Value}
    {fI24 : Addr} {nm24 q24 : Str} {N24 : Addr} {bs24 : List Value} {sn24 : List Str} {sub24 : List Value} {ab24 : Bool} {col24 : Option Bool} {dd24 : Option Addr} {ma24 mb24 mc24 md24 me24 : Option Value} {iod24 ian24 : Option Addr} {isl24 : Array (Option Value)} {ioc24 ikV24 idc24 ipm24 icd24 ict24 : Value}
    {fI25 : Addr} {nm25 q25 : Str} {N25 : Addr} {bs25 : List Value} {sn25 : List Str} {sub25 : List Value} {ab25 : Bool} {col25 : Option Bool} {dd25 : Option Addr} {ma25 mb25 mc25 md25 me25 : Option Value} {iod25 ian25 : Option Addr} {isl25 : Array (Option Value)} {ioc25 ikV25 idc25 ipm25 icd25 ict25 : Value}
    {od0 an0 : Option Addr} {sl0 : Array (Option Value)} {oc0 kV0 dc0 pm0 cd0 ct0 : Value} {f0 : Addr}
    {od1 an1 : Option Addr} {sl1 : Array (Option Value)} {oc1 kV1 dc1 pm1 cd1 ct1 : Value} {f1 : Addr}
    {od2 an2 : Option Addr} {sl2 : Array (Option Value)} {oc2 kV2 dc2 pm2 cd2 ct2 : Value} {f2 : Addr}
    {od3 an3 : Option Addr} {sl3 : Array (Option Value)} {oc3 kV3 dc3 pm3 cd3 ct3 : Value} {f3 : Addr}
    {od4 an4 : Option Addr} {sl4 : Array (Option Value)} {oc4 kV4 dc4 pm4 cd4 ct4 : Value} {f4 : Addr}
    {od5 an5 : Option Addr} {sl5 : Array (Option Value)} {oc5 kV5 dc5 pm5 cd5 ct5 : Value} {f5 : Addr}
    (r_a : PySem.W.nsIn K mainGlobals "TombError" = some (some (.ref C_TombError)))
    (x0a : PySem.W.nsIn K mainGlobals "BadEntry" = some (some (.ref C_BadEntry)))
    (x0l : K.lookup C_BadEntry = some (excClassObj nm0 q0 C_BadEntry N0 bs0 [.ref C_TombError, .type "ValueError", .type "Exception", .type "BaseException", .type "object"] true sn0 sub0 ab0 col0 dd0 ma0 mb0 mc0 md0 me0 "ValueError.__new__"))
    (x0in : PySem.W.findIn K (.ref C_BadEntry) "__init__" = some (some (.ref fI0)))
    (x0ti : PySem.W.typeIn K (.ref fI0) = some (.type "function"))
    (x0il : K.lookup fI0 = some ⟨ioc0, iod0, .func (PySem.W.fnOf "__init__" "BadEntry.__init__" (defArgs s_ini_BadEntry) (defBody s_ini_BadEntry) (defScope s_ini_BadEntry) .none ikV0 idc0 ipm0 ian0 icd0 ict0), isl0⟩)
    (x0ic : PySem.W.codeIn K icd0 "BadEntry.__init__" = true)
    (x0ik : PySem.W.keepIn K (.ref fI0) = true)
    (x0k : PySem.W.keepIn K (.ref C_BadEntry) = true)
    (x0o : PySem.W.excOver K C_BadEntry [.type "ValueError", .type "Exception", .type "BaseException", .type "object"] = true)
    (x1a : PySem.W.nsIn K mainGlobals "BadEntries" = some (some (.ref C_BadEntries)))
    (x1l : K.lookup C_BadEntries = some (excClassObj nm1 q1 C_BadEntries N1 bs1 [.ref C_TombError, .type "ValueError", .type "Exception", .type "BaseException", .type "object"] true sn1 sub1 ab1 col1 dd1 ma1 mb1 mc1 md1 me1 "ValueError.__new__"))
    (x1in : PySem.W.findIn K (.ref C_BadEntries) "__init__" = some (some (.ref fI1)))
    (x1ti : PySem.W.typeIn K (.ref fI1) = some (.type "function"))
    (x1il : K.lookup fI1 = some ⟨ioc1, iod1, .func (PySem.W.fnOf "__init__" "BadEntries.__init__" (defArgs s_ini_BadEntries) (defBody s_ini_BadEntries) (defScope s_ini_BadEntries) .none ikV1 idc1 ipm1 ian1 icd1 ict1), isl1⟩)
    (x1ic : PySem.W.codeIn K icd1 "BadEntries.__init__" = true)
    (x1ik : PySem.W.keepIn K (.ref fI1) = true)
    (x1k : PySem.W.keepIn K (.ref C_BadEntries) = true)
    (x1o : PySem.W.excOver K C_BadEntries [.type "ValueError", .type "Exception", .type "BaseException", .type "object"] = true)
    (x2a : PySem.W.nsIn K mainGlobals "BadText" = some (some (.ref C_BadText)))
    (x2l : K.lookup C_BadText = some (excClassObj nm2 q2 C_BadText N2 bs2 [.ref C_TombError, .type "ValueError", .type "Exception", .type "BaseException", .type "object"] true sn2 sub2 ab2 col2 dd2 ma2 mb2 mc2 md2 me2 "ValueError.__new__"))
    (x2in : PySem.W.findIn K (.ref C_BadText) "__init__" = some (some (.ref fI2)))
    (x2ti : PySem.W.typeIn K (.ref fI2) = some (.type "function"))
    (x2il : K.lookup fI2 = some ⟨ioc2, iod2, .func (PySem.W.fnOf "__init__" "BadText.__init__" (defArgs s_ini_BadText) (defBody s_ini_BadText) (defScope s_ini_BadText) .none ikV2 idc2 ipm2 ian2 icd2 ict2), isl2⟩)
    (x2ic : PySem.W.codeIn K icd2 "BadText.__init__" = true)
    (x2ik : PySem.W.keepIn K (.ref fI2) = true)
    (x2k : PySem.W.keepIn K (.ref C_BadText) = true)
    (x2o : PySem.W.excOver K C_BadText [.type "ValueError", .type "Exception", .type "BaseException", .type "object"] = true)
    (x3a : PySem.W.nsIn K mainGlobals "BadEvent" = some (some (.ref C_BadEvent)))
    (x3l : K.lookup C_BadEvent = some (excClassObj nm3 q3 C_BadEvent N3 bs3 [.ref C_TombError, .type "ValueError", .type "Exception", .type "BaseException", .type "object"] true sn3 sub3 ab3 col3 dd3 ma3 mb3 mc3 md3 me3 "ValueError.__new__"))
    (x3in : PySem.W.findIn K (.ref C_BadEvent) "__init__" = some (some (.ref fI3)))
    (x3ti : PySem.W.typeIn K (.ref fI3) = some (.type "function"))
    (x3il : K.lookup fI3 = some ⟨ioc3, iod3, .func (PySem.W.fnOf "__init__" "BadEvent.__init__" (defArgs s_ini_BadEvent) (defBody s_ini_BadEvent) (defScope s_ini_BadEvent) .none ikV3 idc3 ipm3 ian3 icd3 ict3), isl3⟩)
    (x3ic : PySem.W.codeIn K icd3 "BadEvent.__init__" = true)
    (x3ik : PySem.W.keepIn K (.ref fI3) = true)
    (x3k : PySem.W.keepIn K (.ref C_BadEvent) = true)
    (x3o : PySem.W.excOver K C_BadEvent [.type "ValueError", .type "Exception", .type "BaseException", .type "object"] = true)
    (x4a : PySem.W.nsIn K mainGlobals "BadWorld" = some (some (.ref C_BadWorld)))
    (x4l : K.lookup C_BadWorld = some (excClassObj nm4 q4 C_BadWorld N4 bs4 [.ref C_TombError, .type "ValueError", .type "Exception", .type "BaseException", .type "object"] true sn4 sub4 ab4 col4 dd4 ma4 mb4 mc4 md4 me4 "ValueError.__new__"))
    (x4in : PySem.W.findIn K (.ref C_BadWorld) "__init__" = some (some (.ref fI4)))
    (x4ti : PySem.W.typeIn K (.ref fI4) = some (.type "function"))
    (x4il : K.lookup fI4 = some ⟨ioc4, iod4, .func (PySem.W.fnOf "__init__" "BadWorld.__init__" (defArgs s_ini_BadWorld) (defBody s_ini_BadWorld) (defScope s_ini_BadWorld) .none ikV4 idc4 ipm4 ian4 icd4 ict4), isl4⟩)
    (x4ic : PySem.W.codeIn K icd4 "BadWorld.__init__" = true)
    (x4ik : PySem.W.keepIn K (.ref fI4) = true)
    (x4k : PySem.W.keepIn K (.ref C_BadWorld) = true)
    (x4o : PySem.W.excOver K C_BadWorld [.type "ValueError", .type "Exception", .type "BaseException", .type "object"] = true)
    (x5a : PySem.W.nsIn K mainGlobals "BadKey" = some (some (.ref C_BadKey)))
    (x5l : K.lookup C_BadKey = some (excClassObj nm5 q5 C_BadKey N5 bs5 [.ref C_TombError, .type "ValueError", .type "Exception", .type "BaseException", .type "object"] true sn5 sub5 ab5 col5 dd5 ma5 mb5 mc5 md5 me5 "ValueError.__new__"))
    (x5in : PySem.W.findIn K (.ref C_BadKey) "__init__" = some (some (.ref fI5)))
    (x5ti : PySem.W.typeIn K (.ref fI5) = some (.type "function"))
    (x5il : K.lookup fI5 = some ⟨ioc5, iod5, .func (PySem.W.fnOf "__init__" "BadKey.__init__" (defArgs s_ini_BadKey) (defBody s_ini_BadKey) (defScope s_ini_BadKey) .none ikV5 idc5 ipm5 ian5 icd5 ict5), isl5⟩)
    (x5ic : PySem.W.codeIn K icd5 "BadKey.__init__" = true)
    (x5ik : PySem.W.keepIn K (.ref fI5) = true)
    (x5k : PySem.W.keepIn K (.ref C_BadKey) = true)
    (x5o : PySem.W.excOver K C_BadKey [.type "ValueError", .type "Exception", .type "BaseException", .type "object"] = true)
    (x6a : PySem.W.nsIn K mainGlobals "BadStamp" = some (some (.ref C_BadStamp)))
    (x6l : K.lookup C_BadStamp = some (excClassObj nm6 q6 C_BadStamp N6 bs6 [.ref C_TombError, .type "ValueError", .type "Exception", .type "BaseException", .type "object"] true sn6 sub6 ab6 col6 dd6 ma6 mb6 mc6 md6 me6 "ValueError.__new__"))
    (x6in : PySem.W.findIn K (.ref C_BadStamp) "__init__" = some (some (.ref fI6)))
    (x6ti : PySem.W.typeIn K (.ref fI6) = some (.type "function"))
    (x6il : K.lookup fI6 = some ⟨ioc6, iod6, .func (PySem.W.fnOf "__init__" "BadStamp.__init__" (defArgs s_ini_BadStamp) (defBody s_ini_BadStamp) (defScope s_ini_BadStamp) .none ikV6 idc6 ipm6 ian6 icd6 ict6), isl6⟩)
    (x6ic : PySem.W.codeIn K icd6 "BadStamp.__init__" = true)
    (x6ik : PySem.W.keepIn K (.ref fI6) = true)
    (x6k : PySem.W.keepIn K (.ref C_BadStamp) = true)
    (x6o : PySem.W.excOver K C_BadStamp [.type "ValueError", .type "Exception", .type "BaseException", .type "object"] = true)
    (x7a : PySem.W.nsIn K mainGlobals "BadHomes" = some (some (.ref C_BadHomes)))
    (x7l : K.lookup C_BadHomes = some (excClassObj nm7 q7 C_BadHomes N7 bs7 [.ref C_TombError, .type "ValueError", .type "Exception", .type "BaseException", .type "object"] true sn7 sub7 ab7 col7 dd7 ma7 mb7 mc7 md7 me7 "ValueError.__new__"))
    (x7in : PySem.W.findIn K (.ref C_BadHomes) "__init__" = some (some (.ref fI7)))
    (x7ti : PySem.W.typeIn K (.ref fI7) = some (.type "function"))
    (x7il : K.lookup fI7 = some ⟨ioc7, iod7, .func (PySem.W.fnOf "__init__" "BadHomes.__init__" (defArgs s_ini_BadHomes) (defBody s_ini_BadHomes) (defScope s_ini_BadHomes) .none ikV7 idc7 ipm7 ian7 icd7 ict7), isl7⟩)
    (x7ic : PySem.W.codeIn K icd7 "BadHomes.__init__" = true)
    (x7ik : PySem.W.keepIn K (.ref fI7) = true)
    (x7k : PySem.W.keepIn K (.ref C_BadHomes) = true)
    (x7o : PySem.W.excOver K C_BadHomes [.type "ValueError", .type "Exception", .type "BaseException", .type "object"] = true)
    (x8a : PySem.W.nsIn K mainGlobals "BadRow" = some (some (.ref C_BadRow)))
    (x8l : K.lookup C_BadRow = some (excClassObj nm8 q8 C_BadRow N8 bs8 [.ref C_TombError, .type "ValueError", .type "Exception", .type "BaseException", .type "object"] true sn8 sub8 ab8 col8 dd8 ma8 mb8 mc8 md8 me8 "ValueError.__new__"))
    (x8in : PySem.W.findIn K (.ref C_BadRow) "__init__" = some (some (.ref fI8)))
    (x8ti : PySem.W.typeIn K (.ref fI8) = some (.type "function"))
    (x8il : K.lookup fI8 = some ⟨ioc8, iod8, .func (PySem.W.fnOf "__init__" "BadRow.__init__" (defArgs s_ini_BadRow) (defBody s_ini_BadRow) (defScope s_ini_BadRow) .none ikV8 idc8 ipm8 ian8 icd8 ict8), isl8⟩)
    (x8ic : PySem.W.codeIn K icd8 "BadRow.__init__" = true)
    (x8ik : PySem.W.keepIn K (.ref fI8) = true)
    (x8k : PySem.W.keepIn K (.ref C_BadRow) = true)
    (x8o : PySem.W.excOver K C_BadRow [.type "ValueError", .type "Exception", .type "BaseException", .type "object"] = true)
    (x9a : PySem.W.nsIn K mainGlobals "BadStory" = some (some (.ref C_BadStory)))
    (x9l : K.lookup C_BadStory = some (excClassObj nm9 q9 C_BadStory N9 bs9 [.ref C_TombError, .type "ValueError", .type "Exception", .type "BaseException", .type "object"] true sn9 sub9 ab9 col9 dd9 ma9 mb9 mc9 md9 me9 "ValueError.__new__"))
    (x9in : PySem.W.findIn K (.ref C_BadStory) "__init__" = some (some (.ref fI9)))
    (x9ti : PySem.W.typeIn K (.ref fI9) = some (.type "function"))
    (x9il : K.lookup fI9 = some ⟨ioc9, iod9, .func (PySem.W.fnOf "__init__" "BadStory.__init__" (defArgs s_ini_BadStory) (defBody s_ini_BadStory) (defScope s_ini_BadStory) .none ikV9 idc9 ipm9 ian9 icd9 ict9), isl9⟩)
    (x9ic : PySem.W.codeIn K icd9 "BadStory.__init__" = true)
    (x9ik : PySem.W.keepIn K (.ref fI9) = true)
    (x9k : PySem.W.keepIn K (.ref C_BadStory) = true)
    (x9o : PySem.W.excOver K C_BadStory [.type "ValueError", .type "Exception", .type "BaseException", .type "object"] = true)
    (x10a : PySem.W.nsIn K mainGlobals "BadLimit" = some (some (.ref C_BadLimit)))
    (x10l : K.lookup C_BadLimit = some (excClassObj nm10 q10 C_BadLimit N10 bs10 [.ref C_TombError, .type "ValueError", .type "Exception", .type "BaseException", .type "object"] true sn10 sub10 ab10 col10 dd10 ma10 mb10 mc10 md10 me10 "ValueError.__new__"))
    (x10in : PySem.W.findIn K (.ref C_BadLimit) "__init__" = some (some (.ref fI10)))
    (x10ti : PySem.W.typeIn K (.ref fI10) = some (.type "function"))
    (x10il : K.lookup fI10 = some ⟨ioc10, iod10, .func (PySem.W.fnOf "__init__" "BadLimit.__init__" (defArgs s_ini_BadLimit) (defBody s_ini_BadLimit) (defScope s_ini_BadLimit) .none ikV10 idc10 ipm10 ian10 icd10 ict10), isl10⟩)
    (x10ic : PySem.W.codeIn K icd10 "BadLimit.__init__" = true)
    (x10ik : PySem.W.keepIn K (.ref fI10) = true)
    (x10k : PySem.W.keepIn K (.ref C_BadLimit) = true)
    (x10o : PySem.W.excOver K C_BadLimit [.type "ValueError", .type "Exception", .type "BaseException", .type "object"] = true)
    (x11a : PySem.W.nsIn K mainGlobals "BadPolicy" = some (some (.ref C_BadPolicy)))
    (x11l : K.lookup C_BadPolicy = some (excClassObj nm11 q11 C_BadPolicy N11 bs11 [.ref C_TombError, .type "ValueError", .type "Exception", .type "BaseException", .type "object"] true sn11 sub11 ab11 col11 dd11 ma11 mb11 mc11 md11 me11 "ValueError.__new__"))
    (x11in : PySem.W.findIn K (.ref C_BadPolicy) "__init__" = some (some (.ref fI11)))
    (x11ti : PySem.W.typeIn K (.ref fI11) = some (.type "function"))
    (x11il : K.lookup fI11 = some ⟨ioc11, iod11, .func (PySem.W.fnOf "__init__" "BadPolicy.__init__" (defArgs s_ini_BadPolicy) (defBody s_ini_BadPolicy) (defScope s_ini_BadPolicy) .none ikV11 idc11 ipm11 ian11 icd11 ict11), isl11⟩)
    (x11ic : PySem.W.codeIn K icd11 "BadPolicy.__init__" = true)
    (x11ik : PySem.W.keepIn K (.ref fI11) = true)
    (x11k : PySem.W.keepIn K (.ref C_BadPolicy) = true)
    (x11o : PySem.W.excOver K C_BadPolicy [.type "ValueError", .type "Exception", .type "BaseException", .type "object"] = true)
    (x12a : PySem.W.nsIn K mainGlobals "BadKeys" = some (some (.ref C_BadKeys)))
    (x12l : K.lookup C_BadKeys = some (excClassObj nm12 q12 C_BadKeys N12 bs12 [.ref C_TombError, .type "ValueError", .type "Exception", .type "BaseException", .type "object"] true sn12 sub12 ab12 col12 dd12 ma12 mb12 mc12 md12 me12 "ValueError.__new__"))
    (x12in : PySem.W.findIn K (.ref C_BadKeys) "__init__" = some (some (.ref fI12)))
    (x12ti : PySem.W.typeIn K (.ref fI12) = some (.type "function"))
    (x12il : K.lookup fI12 = some ⟨ioc12, iod12, .func (PySem.W.fnOf "__init__" "BadKeys.__init__" (defArgs s_ini_BadKeys) (defBody s_ini_BadKeys) (defScope s_ini_BadKeys) .none ikV12 idc12 ipm12 ian12 icd12 ict12), isl12⟩)
    (x12ic : PySem.W.codeIn K icd12 "BadKeys.__init__" = true)
    (x12ik : PySem.W.keepIn K (.ref fI12) = true)
    (x12k : PySem.W.keepIn K (.ref C_BadKeys) = true)
    (x12o : PySem.W.excOver K C_BadKeys [.type "ValueError", .type "Exception", .type "BaseException", .type "object"] = true)
    (x13a : PySem.W.nsIn K mainGlobals "BadDepth" = some (some (.ref C_BadDepth)))
    (x13l : K.lookup C_BadDepth = some (excClassObj nm13 q13 C_BadDepth N13 bs13 [.ref C_TombError, .type "ValueError", .type "Exception", .type "BaseException", .type "object"] true sn13 sub13 ab13 col13 dd13 ma13 mb13 mc13 md13 me13 "ValueError.__new__"))
    (x13in : PySem.W.findIn K (.ref C_BadDepth) "__init__" = some (some (.ref fI13)))
    (x13ti : PySem.W.typeIn K (.ref fI13) = some (.type "function"))
    (x13il : K.lookup fI13 = some ⟨ioc13, iod13, .func (PySem.W.fnOf "__init__" "BadDepth.__init__" (defArgs s_ini_BadDepth) (defBody s_ini_BadDepth) (defScope s_ini_BadDepth) .none ikV13 idc13 ipm13 ian13 icd13 ict13), isl13⟩)
    (x13ic : PySem.W.codeIn K icd13 "BadDepth.__init__" = true)
    (x13ik : PySem.W.keepIn K (.ref fI13) = true)
    (x13k : PySem.W.keepIn K (.ref C_BadDepth) = true)
    (x13o : PySem.W.excOver K C_BadDepth [.type "ValueError", .type "Exception", .type "BaseException", .type "object"] = true)
    (x14a : PySem.W.nsIn K mainGlobals "BadSkips" = some (some (.ref C_BadSkips)))
    (x14l : K.lookup C_BadSkips = some (excClassObj nm14 q14 C_BadSkips N14 bs14 [.ref C_TombError, .type "ValueError", .type "Exception", .type "BaseException", .type "object"] true sn14 sub14 ab14 col14 dd14 ma14 mb14 mc14 md14 me14 "ValueError.__new__"))
    (x14in : PySem.W.findIn K (.ref C_BadSkips) "__init__" = some (some (.ref fI14)))
    (x14ti : PySem.W.typeIn K (.ref fI14) = some (.type "function"))
    (x14il : K.lookup fI14 = some ⟨ioc14, iod14, .func (PySem.W.fnOf "__init__" "BadSkips.__init__" (defArgs s_ini_BadSkips) (defBody s_ini_BadSkips) (defScope s_ini_BadSkips) .none ikV14 idc14 ipm14 ian14 icd14 ict14), isl14⟩)
    (x14ic : PySem.W.codeIn K icd14 "BadSkips.__init__" = true)
    (x14ik : PySem.W.keepIn K (.ref fI14) = true)
    (x14k : PySem.W.keepIn K (.ref C_BadSkips) = true)
    (x14o : PySem.W.excOver K C_BadSkips [.type "ValueError", .type "Exception", .type "BaseException", .type "object"] = true)
    (x15a : PySem.W.nsIn K mainGlobals "BadPlan" = some (some (.ref C_BadPlan)))
    (x15l : K.lookup C_BadPlan = some (excClassObj nm15 q15 C_BadPlan N15 bs15 [.ref C_TombError, .type "ValueError", .type "Exception", .type "BaseException", .type "object"] true sn15 sub15 ab15 col15 dd15 ma15 mb15 mc15 md15 me15 "ValueError.__new__"))
    (x15in : PySem.W.findIn K (.ref C_BadPlan) "__init__" = some (some (.ref fI15)))
    (x15ti : PySem.W.typeIn K (.ref fI15) = some (.type "function"))
    (x15il : K.lookup fI15 = some ⟨ioc15, iod15, .func (PySem.W.fnOf "__init__" "BadPlan.__init__" (defArgs s_ini_BadPlan) (defBody s_ini_BadPlan) (defScope s_ini_BadPlan) .none ikV15 idc15 ipm15 ian15 icd15 ict15), isl15⟩)
    (x15ic : PySem.W.codeIn K icd15 "BadPlan.__init__" = true)
    (x15ik : PySem.W.keepIn K (.ref fI15) = true)
    (x15k : PySem.W.keepIn K (.ref C_BadPlan) = true)
    (x15o : PySem.W.excOver K C_BadPlan [.type "ValueError", .type "Exception", .type "BaseException", .type "object"] = true)
    (x16a : PySem.W.nsIn K mainGlobals "BadQuestion" = some (some (.ref C_BadQuestion)))
    (x16l : K.lookup C_BadQuestion = some (excClassObj nm16 q16 C_BadQuestion N16 bs16 [.ref C_TombError, .type "ValueError", .type "Exception", .type "BaseException", .type "object"] true sn16 sub16 ab16 col16 dd16 ma16 mb16 mc16 md16 me16 "ValueError.__new__"))
    (x16in : PySem.W.findIn K (.ref C_BadQuestion) "__init__" = some (some (.ref fI16)))
    (x16ti : PySem.W.typeIn K (.ref fI16) = some (.type "function"))
    (x16il : K.lookup fI16 = some ⟨ioc16, iod16, .func (PySem.W.fnOf "__init__" "BadQuestion.__init__" (defArgs s_ini_BadQuestion) (defBody s_ini_BadQuestion) (defScope s_ini_BadQuestion) .none ikV16 idc16 ipm16 ian16 icd16 ict16), isl16⟩)
    (x16ic : PySem.W.codeIn K icd16 "BadQuestion.__init__" = true)
    (x16ik : PySem.W.keepIn K (.ref fI16) = true)
    (x16k : PySem.W.keepIn K (.ref C_BadQuestion) = true)
    (x16o : PySem.W.excOver K C_BadQuestion [.type "ValueError", .type "Exception", .type "BaseException", .type "object"] = true)
    (x17a : PySem.W.nsIn K mainGlobals "BadLine" = some (some (.ref C_BadLine)))
    (x17l : K.lookup C_BadLine = some (excClassObj nm17 q17 C_BadLine N17 bs17 [.ref C_TombError, .type "ValueError", .type "Exception", .type "BaseException", .type "object"] true sn17 sub17 ab17 col17 dd17 ma17 mb17 mc17 md17 me17 "ValueError.__new__"))
    (x17in : PySem.W.findIn K (.ref C_BadLine) "__init__" = some (some (.ref fI17)))
    (x17ti : PySem.W.typeIn K (.ref fI17) = some (.type "function"))
    (x17il : K.lookup fI17 = some ⟨ioc17, iod17, .func (PySem.W.fnOf "__init__" "BadLine.__init__" (defArgs s_ini_BadLine) (defBody s_ini_BadLine) (defScope s_ini_BadLine) .none ikV17 idc17 ipm17 ian17 icd17 ict17), isl17⟩)
    (x17ic : PySem.W.codeIn K icd17 "BadLine.__init__" = true)
    (x17ik : PySem.W.keepIn K (.ref fI17) = true)
    (x17k : PySem.W.keepIn K (.ref C_BadLine) = true)
    (x17o : PySem.W.excOver K C_BadLine [.type "ValueError", .type "Exception", .type "BaseException", .type "object"] = true)
    (x18a : PySem.W.nsIn K mainGlobals "NotARun" = some (some (.ref C_NotARun)))
    (x18l : K.lookup C_NotARun = some (excClassObj nm18 q18 C_NotARun N18 bs18 [.ref C_TombError, .type "ValueError", .type "Exception", .type "BaseException", .type "object"] true sn18 sub18 ab18 col18 dd18 ma18 mb18 mc18 md18 me18 "ValueError.__new__"))
    (x18in : PySem.W.findIn K (.ref C_NotARun) "__init__" = some (some (.ref fI18)))
    (x18ti : PySem.W.typeIn K (.ref fI18) = some (.type "function"))
    (x18il : K.lookup fI18 = some ⟨ioc18, iod18, .func (PySem.W.fnOf "__init__" "NotARun.__init__" (defArgs s_ini_NotARun) (defBody s_ini_NotARun) (defScope s_ini_NotARun) .none ikV18 idc18 ipm18 ian18 icd18 ict18), isl18⟩)
    (x18ic : PySem.W.codeIn K icd18 "NotARun.__init__" = true)
    (x18ik : PySem.W.keepIn K (.ref fI18) = true)
    (x18k : PySem.W.keepIn K (.ref C_NotARun) = true)
    (x18o : PySem.W.excOver K C_NotARun [.type "ValueError", .type "Exception", .type "BaseException", .type "object"] = true)
    (x19a : PySem.W.nsIn K mainGlobals "NoMoment" = some (some (.ref C_NoMoment)))
    (x19l : K.lookup C_NoMoment = some (excClassObj nm19 q19 C_NoMoment N19 bs19 [.ref C_TombError, .type "ValueError", .type "Exception", .type "BaseException", .type "object"] true sn19 sub19 ab19 col19 dd19 ma19 mb19 mc19 md19 me19 "ValueError.__new__"))
    (x19in : PySem.W.findIn K (.ref C_NoMoment) "__init__" = some (some (.ref fI19)))
    (x19ti : PySem.W.typeIn K (.ref fI19) = some (.type "function"))
    (x19il : K.lookup fI19 = some ⟨ioc19, iod19, .func (PySem.W.fnOf "__init__" "NoMoment.__init__" (defArgs s_ini_NoMoment) (defBody s_ini_NoMoment) (defScope s_ini_NoMoment) .none ikV19 idc19 ipm19 ian19 icd19 ict19), isl19⟩)
    (x19ic : PySem.W.codeIn K icd19 "NoMoment.__init__" = true)
    (x19ik : PySem.W.keepIn K (.ref fI19) = true)
    (x19k : PySem.W.keepIn K (.ref C_NoMoment) = true)
    (x19o : PySem.W.excOver K C_NoMoment [.type "ValueError", .type "Exception", .type "BaseException", .type "object"] = true)
    (x20a : PySem.W.nsIn K mainGlobals "TooLong" = some (some (.ref C_TooLong)))
    (x20l : K.lookup C_TooLong = some (excClassObj nm20 q20 C_TooLong N20 bs20 [.ref C_TombError, .type "ValueError", .type "Exception", .type "BaseException", .type "object"] true sn20 sub20 ab20 col20 dd20 ma20 mb20 mc20 md20 me20 "ValueError.__new__"))
    (x20in : PySem.W.findIn K (.ref C_TooLong) "__init__" = some (some (.ref fI20)))
    (x20ti : PySem.W.typeIn K (.ref fI20) = some (.type "function"))
    (x20il : K.lookup fI20 = some ⟨ioc20, iod20, .func (PySem.W.fnOf "__init__" "TooLong.__init__" (defArgs s_ini_TooLong) (defBody s_ini_TooLong) (defScope s_ini_TooLong) .none ikV20 idc20 ipm20 ian20 icd20 ict20), isl20⟩)
    (x20ic : PySem.W.codeIn K icd20 "TooLong.__init__" = true)
    (x20ik : PySem.W.keepIn K (.ref fI20) = true)
    (x20k : PySem.W.keepIn K (.ref C_TooLong) = true)
    (x20o : PySem.W.excOver K C_TooLong [.type "ValueError", .type "Exception", .type "BaseException", .type "object"] = true)
    (x21a : PySem.W.nsIn K mainGlobals "NoEntry" = some (some (.ref C_NoEntry)))
    (x21l : K.lookup C_NoEntry = some (excClassObj nm21 q21 C_NoEntry N21 bs21 keyMro true sn21 sub21 ab21 col21 dd21 ma21 mb21 mc21 md21 me21 "LookupError.__new__"))
    (x21in : PySem.W.findIn K (.ref C_NoEntry) "__init__" = some (some (.ref fI21)))
    (x21ti : PySem.W.typeIn K (.ref fI21) = some (.type "function"))
    (x21il : K.lookup fI21 = some ⟨ioc21, iod21, .func (PySem.W.fnOf "__init__" "NoEntry.__init__" (defArgs s_ini_NoEntry) (defBody s_ini_NoEntry) (defScope s_ini_NoEntry) .none ikV21 idc21 ipm21 ian21 icd21 ict21), isl21⟩)
    (x21ic : PySem.W.codeIn K icd21 "NoEntry.__init__" = true)
    (x21ik : PySem.W.keepIn K (.ref fI21) = true)
    (x21k : PySem.W.keepIn K (.ref C_NoEntry) = true)
    (x21o : PySem.W.excOver K C_NoEntry keyMro = true)
    (x22a : PySem.W.nsIn K mainGlobals "NoHome" = some (some (.ref C_NoHome)))
    (x22l : K.lookup C_NoHome = some (excClassObj nm22 q22 C_NoHome N22 bs22 keyMro true sn22 sub22 ab22 col22 dd22 ma22 mb22 mc22 md22 me22 "LookupError.__new__"))
    (x22in : PySem.W.findIn K (.ref C_NoHome) "__init__" = some (some (.ref fI22)))
    (x22ti : PySem.W.typeIn K (.ref fI22) = some (.type "function"))
    (x22il : K.lookup fI22 = some ⟨ioc22, iod22, .func (PySem.W.fnOf "__init__" "NoHome.__init__" (defArgs s_ini_NoHome) (defBody s_ini_NoHome) (defScope s_ini_NoHome) .none ikV22 idc22 ipm22 ian22 icd22 ict22), isl22⟩)
    (x22ic : PySem.W.codeIn K icd22 "NoHome.__init__" = true)
    (x22ik : PySem.W.keepIn K (.ref fI22) = true)
    (x22k : PySem.W.keepIn K (.ref C_NoHome) = true)
    (x22o : PySem.W.excOver K C_NoHome keyMro = true)
    (x23a : PySem.W.nsIn K mainGlobals "NoLink" = some (some (.ref C_NoLink)))
    (x23l : K.lookup C_NoLink = some (excClassObj nm23 q23 C_NoLink N23 bs23 keyMro true sn23 sub23 ab23 col23 dd23 ma23 mb23 mc23 md23 me23 "LookupError.__new__"))
    (x23in : PySem.W.findIn K (.ref C_NoLink) "__init__" = some (some (.ref fI23)))
    (x23ti : PySem.W.typeIn K (.ref fI23) = some (.type "function"))
    (x23il : K.lookup fI23 = some ⟨ioc23, iod23, .func (PySem.W.fnOf "__init__" "NoLink.__init__" (defArgs s_ini_NoLink) (defBody s_ini_NoLink) (defScope s_ini_NoLink) .none ikV23 idc23 ipm23 ian23 icd23 ict23), isl23⟩)
    (x23ic : PySem.W.codeIn K icd23 "NoLink.__init__" = true)
    (x23ik : PySem.W.keepIn K (.ref fI23) = true)
    (x23k : PySem.W.keepIn K (.ref C_NoLink) = true)
    (x23o : PySem.W.excOver K C_NoLink keyMro = true)
    (x24a : PySem.W.nsIn K mainGlobals "Refused" = some (some (.ref C_Refused)))
    (x24l : K.lookup C_Refused = some (excClassObj nm24 q24 C_Refused N24 bs24 [.type "RuntimeError", .type "Exception", .type "BaseException", .type "object"] true sn24 sub24 ab24 col24 dd24 ma24 mb24 mc24 md24 me24 "RuntimeError.__new__"))
    (x24in : PySem.W.findIn K (.ref C_Refused) "__init__" = some (some (.ref fI24)))
    (x24ti : PySem.W.typeIn K (.ref fI24) = some (.type "function"))
    (x24il : K.lookup fI24 = some ⟨ioc24, iod24, .func (PySem.W.fnOf "__init__" "Refused.__init__" (defArgs s_ini_Refused) (defBody s_ini_Refused) (defScope s_ini_Refused) .none ikV24 idc24 ipm24 ian24 icd24 ict24), isl24⟩)
    (x24ic : PySem.W.codeIn K icd24 "Refused.__init__" = true)
    (x24ik : PySem.W.keepIn K (.ref fI24) = true)
    (x24k : PySem.W.keepIn K (.ref C_Refused) = true)
    (x24o : PySem.W.excOver K C_Refused [.type "RuntimeError", .type "Exception", .type "BaseException", .type "object"] = true)
    (x25a : PySem.W.nsIn K mainGlobals "NoWorld" = some (some (.ref C_NoWorld)))
    (x25l : K.lookup C_NoWorld = some (excClassObj nm25 q25 C_NoWorld N25 bs25 [.type "RuntimeError", .type "Exception", .type "BaseException", .type "object"] true sn25 sub25 ab25 col25 dd25 ma25 mb25 mc25 md25 me25 "RuntimeError.__new__"))
    (x25in : PySem.W.findIn K (.ref C_NoWorld) "__init__" = some (some (.ref fI25)))
    (x25ti : PySem.W.typeIn K (.ref fI25) = some (.type "function"))
    (x25il : K.lookup fI25 = some ⟨ioc25, iod25, .func (PySem.W.fnOf "__init__" "NoWorld.__init__" (defArgs s_ini_NoWorld) (defBody s_ini_NoWorld) (defScope s_ini_NoWorld) .none ikV25 idc25 ipm25 ian25 icd25 ict25), isl25⟩)
    (x25ic : PySem.W.codeIn K icd25 "NoWorld.__init__" = true)
    (x25ik : PySem.W.keepIn K (.ref fI25) = true)
    (x25k : PySem.W.keepIn K (.ref C_NoWorld) = true)
    (x25o : PySem.W.excOver K C_NoWorld [.type "RuntimeError", .type "Exception", .type "BaseException", .type "object"] = true)
    (cB : (Ad.every (Ad.mk C_BadEntry C_BadEntries C_BadText C_BadEvent C_BadWorld C_BadKey C_BadStamp C_BadHomes C_BadRow C_BadStory C_BadLimit C_BadPolicy C_BadKeys C_BadDepth C_BadSkips C_BadPlan C_BadQuestion C_BadLine C_NotARun C_NoMoment C_TooLong C_NoEntry C_NoHome C_NoLink C_Refused C_NoWorld C_TombError)).all (clsB K) = true)
    (rw : PySem.W.findIn K (.ref C_Refused) "word" = some none)
    (cN : PySem.W.specialIn K (.builtin "object.__class__") "__get__" = some (some (.builtin "getset_descriptor.__get__")))
    (cT : PySem.W.takesIn K (.builtin "object.__class__") = some true)
    (hRe : PySem.W.findCls K (.type "RuntimeError") (.type "type") "__init__" = some (.val (.builtin "RuntimeError.__init__")))
    (tB : tabB K (Ad.mk C_BadEntry C_BadEntries C_BadText C_BadEvent C_BadWorld C_BadKey C_BadStamp C_BadHomes C_BadRow C_BadStory C_BadLimit C_BadPolicy C_BadKeys C_BadDepth C_BadSkips C_BadPlan C_BadQuestion C_BadLine C_NotARun C_NoMoment C_TooLong C_NoEntry C_NoHome C_NoLink C_Refused C_NoWorld C_TombError) = true)
    (kT : (Ad.mk C_BadEntry C_BadEntries C_BadText C_BadEvent C_BadWorld C_BadKey C_BadStamp C_BadHomes C_BadRow C_BadStory C_BadLimit C_BadPolicy C_BadKeys C_BadDepth C_BadSkips C_BadPlan C_BadQuestion C_BadLine C_NotARun C_NoMoment C_TooLong C_NoEntry C_NoHome C_NoLink C_Refused C_NoWorld C_TombError).all.map (kindsB K (Ad.mk C_BadEntry C_BadEntries C_BadText C_BadEvent C_BadWorld C_BadKey C_BadStamp C_BadHomes C_BadRow C_BadStory C_BadLimit C_BadPolicy C_BadKeys C_BadDepth C_BadSkips C_BadPlan C_BadQuestion C_BadLine C_NotARun C_NoMoment C_TooLong C_NoEntry C_NoHome C_NoLink C_Refused C_NoWorld C_TombError)) = kindsT)
    (cT2 : (Ad.mk C_BadEntry C_BadEntries C_BadText C_BadEvent C_BadWorld C_BadKey C_BadStamp C_BadHomes C_BadRow C_BadStory C_BadLimit C_BadPolicy C_BadKeys C_BadDepth C_BadSkips C_BadPlan C_BadQuestion C_BadLine C_NotARun C_NoMoment C_TooLong C_NoEntry C_NoHome C_NoLink C_Refused C_NoWorld C_TombError).all.map (clasB K (Ad.mk C_BadEntry C_BadEntries C_BadText C_BadEvent C_BadWorld C_BadKey C_BadStamp C_BadHomes C_BadRow C_BadStory C_BadLimit C_BadPolicy C_BadKeys C_BadDepth C_BadSkips C_BadPlan C_BadQuestion C_BadLine C_NotARun C_NoMoment C_TooLong C_NoEntry C_NoHome C_NoLink C_Refused C_NoWorld C_TombError)) = clasT)
    (kW : kindsB K (Ad.mk C_BadEntry C_BadEntries C_BadText C_BadEvent C_BadWorld C_BadKey C_BadStamp C_BadHomes C_BadRow C_BadStory C_BadLimit C_BadPolicy C_BadKeys C_BadDepth C_BadSkips C_BadPlan C_BadQuestion C_BadLine C_NotARun C_NoMoment C_TooLong C_NoEntry C_NoHome C_NoLink C_Refused C_NoWorld C_TombError) C_NoWorld = [false, false, false, true])
    (cW : clasB K (Ad.mk C_BadEntry C_BadEntries C_BadText C_BadEvent C_BadWorld C_BadKey C_BadStamp C_BadHomes C_BadRow C_BadStory C_BadLimit C_BadPolicy C_BadKeys C_BadDepth C_BadSkips C_BadPlan C_BadQuestion C_BadLine C_NotARun C_NoMoment C_TooLong C_NoEntry C_NoHome C_NoLink C_Refused C_NoWorld C_TombError) C_NoWorld = List.replicate 25 false)
    (a0 : PySem.W.nsIn K mainGlobals "_law_pool" = some (some (.ref f0))) (l0 : K.lookup f0 = some ⟨oc0, od0, .func (PySem.W.fnOf "_law_pool" "_law_pool" (defArgs s_L_pool) (defBody s_L_pool) (defScope s_L_pool) .none kV0 dc0 pm0 an0 cd0 ct0), sl0⟩) (c0 : PySem.W.codeIn K cd0 "_law_pool" = true) (k0 : PySem.W.keepIn K (.ref f0) = true)
    (a1 : PySem.W.nsIn K mainGlobals "_law_take" = some (some (.ref f1))) (l1 : K.lookup f1 = some ⟨oc1, od1, .func (PySem.W.fnOf "_law_take" "_law_take" (defArgs s_L_take) (defBody s_L_take) (defScope s_L_take) .none kV1 dc1 pm1 an1 cd1 ct1), sl1⟩) (c1 : PySem.W.codeIn K cd1 "_law_take" = true) (k1 : PySem.W.keepIn K (.ref f1) = true)
    (a2 : PySem.W.nsIn K mainGlobals "_law_made" = some (some (.ref f2))) (l2 : K.lookup f2 = some ⟨oc2, od2, .func (PySem.W.fnOf "_law_made" "_law_made" (defArgs s_L_made) (defBody s_L_made) (defScope s_L_made) .none kV2 dc2 pm2 an2 cd2 ct2), sl2⟩) (c2 : PySem.W.codeIn K cd2 "_law_made" = true) (k2 : PySem.W.keepIn K (.ref f2) = true)
    (a3 : PySem.W.nsIn K mainGlobals "_law_classes" = some (some (.ref f3))) (l3 : K.lookup f3 = some ⟨oc3, od3, .func (PySem.W.fnOf "_law_classes" "_law_classes" (defArgs s_L_classes) (defBody s_L_classes) (defScope s_L_classes) .none kV3 dc3 pm3 an3 cd3 ct3), sl3⟩) (c3 : PySem.W.codeIn K cd3 "_law_classes" = true) (k3 : PySem.W.keepIn K (.ref f3) = true)
    (a4 : PySem.W.nsIn K mainGlobals "_law_kinds" = some (some (.ref f4))) (l4 : K.lookup f4 = some ⟨oc4, od4, .func (PySem.W.fnOf "_law_kinds" "_law_kinds" (defArgs s_L_kinds) (defBody s_L_kinds) (defScope s_L_kinds) .none kV4 dc4 pm4 an4 cd4 ct4), sl4⟩) (c4 : PySem.W.codeIn K cd4 "_law_kinds" = true) (k4 : PySem.W.keepIn K (.ref f4) = true)
    (a5 : PySem.W.nsIn K mainGlobals "law" = some (some (.ref f5))) (l5 : K.lookup f5 = some ⟨oc5, od5, .func (PySem.W.fnOf "law" "law" (defArgs s_law) (defBody s_law) (defScope s_law) .none kV5 dc5 pm5 an5 cd5 ct5), sl5⟩) (c5 : PySem.W.codeIn K cd5 "law" = true) (k5 : PySem.W.keepIn K (.ref f5) = true)
    (z_len : PySem.W.nsIn K mainGlobals "len" = some none)
    (z_isinstance : PySem.W.nsIn K mainGlobals "isinstance" = some none)
    (z_repr : PySem.W.nsIn K mainGlobals "repr" = some none)
    (z_range : PySem.W.nsIn K mainGlobals "range" = some none)
    (z_max : PySem.W.nsIn K mainGlobals "max" = some none)
    (z_min : PySem.W.nsIn K mainGlobals "min" = some none)
    (z_enumerate : PySem.W.nsIn K mainGlobals "enumerate" = some none)
    (z_ValueError : PySem.W.nsIn K mainGlobals "ValueError" = some none)
    (z_KeyError : PySem.W.nsIn K mainGlobals "KeyError" = some none)
    (z_RuntimeError : PySem.W.nsIn K mainGlobals "RuntimeError" = some none) :
    ∃ fd : FuncData, (∀ (s : Shared) (v : Value), BindsTo s fd ⟨[v], []⟩ [("_law_script", v)]) ∧ ∀ base : Heap, K.In base → base.Ns mainGlobals mg → FnG l.prog w K mg base CX0 9 fa fd ["_law_script"] (spLaw K) := by
  have e := hfa.symm.trans (PySem.W.mg_of X G a5)
  cases e
  have T : Txt mg := ⟨PySem.W.mg_none_of X G z_len, PySem.W.mg_none_of X G z_isinstance, PySem.W.mg_none_of X G z_repr, PySem.W.mg_none_of X G z_range, PySem.W.mg_none_of X G z_max, PySem.W.mg_none_of X G z_min, PySem.W.mg_none_of X G z_enumerate, PySem.W.mg_none_of X G z_ValueError, PySem.W.mg_none_of X G z_KeyError, PySem.W.mg_none_of X G z_RuntimeError⟩
  have F_L_pool := fun_mk (st := s_L_pool) l0 c0 k0
  have b_L_pool := F_L_pool.binds (ps := p_L_pool) fun _ _ _ _ _ _ us hl => match us, hl with | [_, _], _ => rfl
  have F_L_take := fun_mk (st := s_L_take) l1 c1 k1
  have b_L_take := F_L_take.binds (ps := p_L_take) fun _ _ _ _ _ _ us hl => match us, hl with | [_, _], _ => rfl
  have F_L_made := fun_mk (st := s_L_made) l2 c2 k2
  have b_L_made := F_L_made.binds (ps := p_L_made) fun _ _ _ _ _ _ us hl => match us, hl with | [_], _ => rfl
  have F_L_classes := fun_mk (st := s_L_classes) l3 c3 k3
  have b_L_classes := F_L_classes.binds (ps := p_L_classes) fun _ _ _ _ _ _ us hl => match us, hl with | [_], _ => rfl
  have F_L_kinds := fun_mk (st := s_L_kinds) l4 c4 k4
  have b_L_kinds := F_L_kinds.binds (ps := p_L_kinds) fun _ _ _ _ _ _ us hl => match us, hl with | [_], _ => rfl
  have F_law := fun_mk (st := s_law) l5 c5 k5
  have b_law := F_law.binds (ps := p_law) fun _ _ _ _ _ _ us hl => match us, hl with | [_], _ => rfl
  have FI_BadEntry := fun_mk (st := s_ini_BadEntry) x0il x0ic x0ik
  have bI_BadEntry := FI_BadEntry.binds (ps := ["self", "value"]) fun _ _ _ _ _ _ us hl => match us, hl with | [_, _], _ => rfl
  have kb_BadEntry := kb_kw (ks := (["self", "value"] : List Str).tail) (ps := ["self", "value"]) FI_BadEntry fun _ _ _ _ _ _ u ws hl => match ws, hl with | [_], _ => rfl
  have B_BadEntry := clsB_ok (List.all_eq_true.mp cB C_BadEntry (List.mem_of_getElem? (l := Ad.every (Ad.mk C_BadEntry C_BadEntries C_BadText C_BadEvent C_BadWorld C_BadKey C_BadStamp C_BadHomes C_BadRow C_BadStory C_BadLimit C_BadPolicy C_BadKeys C_BadDepth C_BadSkips C_BadPlan C_BadQuestion C_BadLine C_NotARun C_NoMoment C_TooLong C_NoEntry C_NoHome C_NoLink C_Refused C_NoWorld C_TombError)) (i := 1) rfl))
  have O_BadEntry : OexG K C_BadEntry := ⟨⟨nm0, q0, N0, bs0, _, sn0, sub0, ab0, col0, dd0, ma0, mb0, mc0, md0, me0, _, _, _, _, x0l, F.excBase_ValueError, (vtB _ _).trans (by decide), (vtB _ _).trans (by decide), (vtB _ _).trans (by decide)⟩, ⟨_, _, F.store_ValueError, x0o⟩, B_BadEntry.sa, B_BadEntry.be, B_BadEntry.ty, x0k⟩
  have FI_BadEntries := fun_mk (st := s_ini_BadEntries) x1il x1ic x1ik
  have bI_BadEntries := FI_BadEntries.binds (ps := ["self", "value"]) fun _ _ _ _ _ _ us hl => match us, hl with | [_, _], _ => rfl
  have kb_BadEntries := kb_kw (ks := (["self", "value"] : List Str).tail) (ps := ["self", "value"]) FI_BadEntries fun _ _ _ _ _ _ u ws hl => match ws, hl with | [_], _ => rfl
  have B_BadEntries := clsB_ok (List.all_eq_true.mp cB C_BadEntries (List.mem_of_getElem? (l := Ad.every (Ad.mk C_BadEntry C_BadEntries C_BadText C_BadEvent C_BadWorld C_BadKey C_BadStamp C_BadHomes C_BadRow C_BadStory C_BadLimit C_BadPolicy C_BadKeys C_BadDepth C_BadSkips C_BadPlan C_BadQuestion C_BadLine C_NotARun C_NoMoment C_TooLong C_NoEntry C_NoHome C_NoLink C_Refused C_NoWorld C_TombError)) (i := 2) rfl))
  have O_BadEntries : OexG K C_BadEntries := ⟨⟨nm1, q1, N1, bs1, _, sn1, sub1, ab1, col1, dd1, ma1, mb1, mc1, md1, me1, _, _, _, _, x1l, F.excBase_ValueError, (vtB _ _).trans (by decide), (vtB _ _).trans (by decide), (vtB _ _).trans (by decide)⟩, ⟨_, _, F.store_ValueError, x1o⟩, B_BadEntries.sa, B_BadEntries.be, B_BadEntries.ty, x1k⟩
  have FI_BadText := fun_mk (st := s_ini_BadText) x2il x2ic x2ik
  have bI_BadText := FI_BadText.binds (ps := ["self", "value"]) fun _ _ _ _ _ _ us hl => match us, hl with | [_, _], _ => rfl
  have kb_BadText := kb_kw (ks := (["self", "value"] : List Str).tail) (ps := ["self", "value"]) FI_BadText fun _ _ _ _ _ _ u ws hl => match ws, hl with | [_], _ => rfl
  have B_BadText := clsB_ok (List.all_eq_true.mp cB C_BadText (List.mem_of_getElem? (l := Ad.every (Ad.mk C_BadEntry C_BadEntries C_BadText C_BadEvent C_BadWorld C_BadKey C_BadStamp C_BadHomes C_BadRow C_BadStory C_BadLimit C_BadPolicy C_BadKeys C_BadDepth C_BadSkips C_BadPlan C_BadQuestion C_BadLine C_NotARun C_NoMoment C_TooLong C_NoEntry C_NoHome C_NoLink C_Refused C_NoWorld C_TombError)) (i := 3) rfl))
  have O_BadText : OexG K C_BadText := ⟨⟨nm2, q2, N2, bs2, _, sn2, sub2, ab2, col2, dd2, ma2, mb2, mc2, md2, me2, _, _, _, _, x2l, F.excBase_ValueError, (vtB _ _).trans (by decide), (vtB _ _).trans (by decide), (vtB _ _).trans (by decide)⟩, ⟨_, _, F.store_ValueError, x2o⟩, B_BadText.sa, B_BadText.be, B_BadText.ty, x2k⟩
  have FI_BadEvent := fun_mk (st := s_ini_BadEvent) x3il x3ic x3ik
  have bI_BadEvent := FI_BadEvent.binds (ps := ["self", "value"]) fun _ _ _ _ _ _ us hl => match us, hl with | [_, _], _ => rfl
  have kb_BadEvent := kb_kw (ks := (["self", "value"] : List Str).tail) (ps := ["self", "value"]) FI_BadEvent fun _ _ _ _ _ _ u ws hl => match ws, hl with | [_], _ => rfl
  have B_BadEvent := clsB_ok (List.all_eq_true.mp cB C_BadEvent (List.mem_of_getElem? (l := Ad.every (Ad.mk C_BadEntry C_BadEntries C_BadText C_BadEvent C_BadWorld C_BadKey C_BadStamp C_BadHomes C_BadRow C_BadStory C_BadLimit C_BadPolicy C_BadKeys C_BadDepth C_BadSkips C_BadPlan C_BadQuestion C_BadLine C_NotARun C_NoMoment C_TooLong C_NoEntry C_NoHome C_NoLink C_Refused C_NoWorld C_TombError)) (i := 4) rfl))
  have O_BadEvent : OexG K C_BadEvent := ⟨⟨nm3, q3, N3, bs3, _, sn3, sub3, ab3, col3, dd3, ma3, mb3, mc3, md3, me3, _, _, _, _, x3l, F.excBase_ValueError, (vtB _ _).trans (by decide), (vtB _ _).trans (by decide), (vtB _ _).trans (by decide)⟩, ⟨_, _, F.store_ValueError, x3o⟩, B_BadEvent.sa, B_BadEvent.be, B_BadEvent.ty, x3k⟩
  have FI_BadWorld := fun_mk (st := s_ini_BadWorld) x4il x4ic x4ik
  have bI_BadWorld := FI_BadWorld.binds (ps := ["self", "value"]) fun _ _ _ _ _ _ us hl => match us, hl with | [_, _], _ => rfl
  have kb_BadWorld := kb_kw (ks := (["self", "value"] : List Str).tail) (ps := ["self", "value"]) FI_BadWorld fun _ _ _ _ _ _ u ws hl => match ws, hl with | [_], _ => rfl
  have B_BadWorld := clsB_ok (List.all_eq_true.mp cB C_BadWorld (List.mem_of_getElem? (l := Ad.every (Ad.mk C_BadEntry C_BadEntries C_BadText C_BadEvent C_BadWorld C_BadKey C_BadStamp C_BadHomes C_BadRow C_BadStory C_BadLimit C_BadPolicy C_BadKeys C_BadDepth C_BadSkips C_BadPlan C_BadQuestion C_BadLine C_NotARun C_NoMoment C_TooLong C_NoEntry C_NoHome C_NoLink C_Refused C_NoWorld C_TombError)) (i := 5) rfl))
  have O_BadWorld : OexG K C_BadWorld := ⟨⟨nm4, q4, N4, bs4, _, sn4, sub4, ab4, col4, dd4, ma4, mb4, mc4, md4, me4, _, _, _, _, x4l, F.excBase_ValueError, (vtB _ _).trans (by decide), (vtB _ _).trans (by decide), (vtB _ _).trans (by decide)⟩, ⟨_, _, F.store_ValueError, x4o⟩, B_BadWorld.sa, B_BadWorld.be, B_BadWorld.ty, x4k⟩
  have FI_BadKey := fun_mk (st := s_ini_BadKey) x5il x5ic x5ik
  have bI_BadKey := FI_BadKey.binds (ps := ["self", "value"]) fun _ _ _ _ _ _ us hl => match us, hl with | [_, _], _ => rfl
  have kb_BadKey := kb_kw (ks := (["self", "value"] : List Str).tail) (ps := ["self", "value"]) FI_BadKey fun _ _ _ _ _ _ u ws hl => match ws, hl with | [_], _ => rfl
  have B_BadKey := clsB_ok (List.all_eq_true.mp cB C_BadKey (List.mem_of_getElem? (l := Ad.every (Ad.mk C_BadEntry C_BadEntries C_BadText C_BadEvent C_BadWorld C_BadKey C_BadStamp C_BadHomes C_BadRow C_BadStory C_BadLimit C_BadPolicy C_BadKeys C_BadDepth C_BadSkips C_BadPlan C_BadQuestion C_BadLine C_NotARun C_NoMoment C_TooLong C_NoEntry C_NoHome C_NoLink C_Refused C_NoWorld C_TombError)) (i := 6) rfl))
  have O_BadKey : OexG K C_BadKey := ⟨⟨nm5, q5, N5, bs5, _, sn5, sub5, ab5, col5, dd5, ma5, mb5, mc5, md5, me5, _, _, _, _, x5l, F.excBase_ValueError, (vtB _ _).trans (by decide), (vtB _ _).trans (by decide), (vtB _ _).trans (by decide)⟩, ⟨_, _, F.store_ValueError, x5o⟩, B_BadKey.sa, B_BadKey.be, B_BadKey.ty, x5k⟩
  have FI_BadStamp := fun_mk (st := s_ini_BadStamp) x6il x6ic x6ik
  have bI_BadStamp := FI_BadStamp.binds (ps := ["self", "value"]) fun _ _ _ _ _ _ us hl => match us, hl with | [_, _], _ => rfl
  have kb_BadStamp := kb_kw (ks := (["self", "value"] : List Str).tail) (ps := ["self", "value"]) FI_BadStamp fun _ _ _ _ _ _ u ws hl => match ws, hl with | [_], _ => rfl
  have B_BadStamp := clsB_ok (List.all_eq_true.mp cB C_BadStamp (List.mem_of_getElem? (l := Ad.every (Ad.mk C_BadEntry C_BadEntries C_BadText C_BadEvent C_BadWorld C_BadKey C_BadStamp C_BadHomes C_BadRow C_BadStory C_BadLimit C_BadPolicy C_BadKeys C_BadDepth C_BadSkips C_BadPlan C_BadQuestion C_BadLine C_NotARun C_NoMoment C_TooLong C_NoEntry C_NoHome C_NoLink C_Refused C_NoWorld C_TombError)) (i := 7) rfl))
  have O_BadStamp : OexG K C_BadStamp := ⟨⟨nm6, q6, N6, bs6, _, sn6, sub6, ab6, col6, dd6, ma6, mb6, mc6, md6, me6, _, _, _, _, x6l, F.excBase_ValueError, (vtB _ _).trans (by decide), (vtB _ _).trans (by decide), (vtB _ _).trans (by decide)⟩, ⟨_, _, F.store_ValueError, x6o⟩, B_BadStamp.sa, B_BadStamp.be, B_BadStamp.ty, x6k⟩
  have FI_BadHomes := fun_mk (st := s_ini_BadHomes) x7il x7ic x7ik
  have bI_BadHomes := FI_BadHomes.binds (ps := ["self", "value"]) fun _ _ _ _ _ _ us hl => match us, hl with | [_, _], _ => rfl
  have kb_BadHomes := kb_kw (ks := (["self", "value"] : List Str).tail) (ps := ["self", "value"]) FI_BadHomes fun _ _ _ _ _ _ u ws hl => match ws, hl with | [_], _ => rfl
  have B_BadHomes := clsB_ok (List.all_eq_true.mp cB C_BadHomes (List.mem_of_getElem? (l := Ad.every (Ad.mk C_BadEntry C_BadEntries C_BadText C_BadEvent C_BadWorld C_BadKey C_BadStamp C_BadHomes C_BadRow C_BadStory C_BadLimit C_BadPolicy C_BadKeys C_BadDepth C_BadSkips C_BadPlan C_BadQuestion C_BadLine C_NotARun C_NoMoment C_TooLong C_NoEntry C_NoHome C_NoLink C_Refused C_NoWorld C_TombError)) (i := 8) rfl))
  have O_BadHomes : OexG K C_BadHomes := ⟨⟨nm7, q7, N7, bs7, _, sn7, sub7, ab7, col7, dd7, ma7, mb7, mc7, md7, me7, _, _, _, _, x7l, F.excBase_ValueError, (vtB _ _).trans (by decide), (vtB _ _).trans (by decide), (vtB _ _).trans (by decide)⟩, ⟨_, _, F.store_ValueError, x7o⟩, B_BadHomes.sa, B_BadHomes.be, B_BadHomes.ty, x7k⟩
  have FI_BadRow := fun_mk (st := s_ini_BadRow) x8il x8ic x8ik
  have bI_BadRow := FI_BadRow.binds (ps := ["self", "value"]) fun _ _ _ _ _ _ us hl => match us, hl with | [_, _], _ => rfl
  have kb_BadRow := kb_kw (ks := (["self", "value"] : List Str).tail) (ps := ["self", "value"]) FI_BadRow fun _ _ _ _ _ _ u ws hl => match ws, hl with | [_], _ => rfl
  have B_BadRow := clsB_ok (List.all_eq_true.mp cB C_BadRow (List.mem_of_getElem? (l := Ad.every (Ad.mk C_BadEntry C_BadEntries C_BadText C_BadEvent C_BadWorld C_BadKey C_BadStamp C_BadHomes C_BadRow C_BadStory C_BadLimit C_BadPolicy C_BadKeys C_BadDepth C_BadSkips C_BadPlan C_BadQuestion C_BadLine C_NotARun C_NoMoment C_TooLong C_NoEntry C_NoHome C_NoLink C_Refused C_NoWorld C_TombError)) (i := 9) rfl))
  have O_BadRow : OexG K C_BadRow := ⟨⟨nm8, q8, N8, bs8, _, sn8, sub8, ab8, col8, dd8, ma8, mb8, mc8, md8, me8, _, _, _, _, x8l, F.excBase_ValueError, (vtB _ _).trans (by decide), (vtB _ _).trans (by decide), (vtB _ _).trans (by decide)⟩, ⟨_, _, F.store_ValueError, x8o⟩, B_BadRow.sa, B_BadRow.be, B_BadRow.ty, x8k⟩
  have FI_BadStory := fun_mk (st := s_ini_BadStory) x9il x9ic x9ik
  have bI_BadStory := FI_BadStory.binds (ps := ["self", "value"]) fun _ _ _ _ _ _ us hl => match us, hl with | [_, _], _ => rfl
  have kb_BadStory := kb_kw (ks := (["self", "value"] : List Str).tail) (ps := ["self", "value"]) FI_BadStory fun _ _ _ _ _ _ u ws hl => match ws, hl with | [_], _ => rfl
  have B_BadStory := clsB_ok (List.all_eq_true.mp cB C_BadStory (List.mem_of_getElem? (l := Ad.every (Ad.mk C_BadEntry C_BadEntries C_BadText C_BadEvent C_BadWorld C_BadKey C_BadStamp C_BadHomes C_BadRow C_BadStory C_BadLimit C_BadPolicy C_BadKeys C_BadDepth C_BadSkips C_BadPlan C_BadQuestion C_BadLine C_NotARun C_NoMoment C_TooLong C_NoEntry C_NoHome C_NoLink C_Refused C_NoWorld C_TombError)) (i := 10) rfl))
  have O_BadStory : OexG K C_BadStory := ⟨⟨nm9, q9, N9, bs9, _, sn9, sub9, ab9, col9, dd9, ma9, mb9, mc9, md9, me9, _, _, _, _, x9l, F.excBase_ValueError, (vtB _ _).trans (by decide), (vtB _ _).trans (by decide), (vtB _ _).trans (by decide)⟩, ⟨_, _, F.store_ValueError, x9o⟩, B_BadStory.sa, B_BadStory.be, B_BadStory.ty, x9k⟩
  have FI_BadLimit := fun_mk (st := s_ini_BadLimit) x10il x10ic x10ik
  have bI_BadLimit := FI_BadLimit.binds (ps := ["self", "value"]) fun _ _ _ _ _ _ us hl => match us, hl with | [_, _], _ => rfl
  have kb_BadLimit := kb_kw (ks := (["self", "value"] : List Str).tail) (ps := ["self", "value"]) FI_BadLimit fun _ _ _ _ _ _ u ws hl => match ws, hl with | [_], _ => rfl
  have B_BadLimit := clsB_ok (List.all_eq_true.mp cB C_BadLimit (List.mem_of_getElem? (l := Ad.every (Ad.mk C_BadEntry C_BadEntries C_BadText C_BadEvent C_BadWorld C_BadKey C_BadStamp C_BadHomes C_BadRow C_BadStory C_BadLimit C_BadPolicy C_BadKeys C_BadDepth C_BadSkips C_BadPlan C_BadQuestion C_BadLine C_NotARun C_NoMoment C_TooLong C_NoEntry C_NoHome C_NoLink C_Refused C_NoWorld C_TombError)) (i := 11) rfl))
  have O_BadLimit : OexG K C_BadLimit := ⟨⟨nm10, q10, N10, bs10, _, sn10, sub10, ab10, col10, dd10, ma10, mb10, mc10, md10, me10, _, _, _, _, x10l, F.excBase_ValueError, (vtB _ _).trans (by decide), (vtB _ _).trans (by decide), (vtB _ _).trans (by decide)⟩, ⟨_, _, F.store_ValueError, x10o⟩, B_BadLimit.sa, B_BadLimit.be, B_BadLimit.ty, x10k⟩
  have FI_BadPolicy := fun_mk (st := s_ini_BadPolicy) x11il x11ic x11ik
  have bI_BadPolicy := FI_BadPolicy.binds (ps := ["self", "value"]) fun _ _ _ _ _ _ us hl => match us, hl with | [_, _], _ => rfl
  have kb_BadPolicy := kb_kw (ks := (["self", "value"] : List Str).tail) (ps := ["self", "value"]) FI_BadPolicy fun _ _ _ _ _ _ u ws hl => match ws, hl with | [_], _ => rfl
  have B_BadPolicy := clsB_ok (List.all_eq_true.mp cB C_BadPolicy (List.mem_of_getElem? (l := Ad.every (Ad.mk C_BadEntry C_BadEntries C_BadText C_BadEvent C_BadWorld C_BadKey C_BadStamp C_BadHomes C_BadRow C_BadStory C_BadLimit C_BadPolicy C_BadKeys C_BadDepth C_BadSkips C_BadPlan C_BadQuestion C_BadLine C_NotARun C_NoMoment C_TooLong C_NoEntry C_NoHome C_NoLink C_Refused C_NoWorld C_TombError)) (i := 12) rfl))
  have O_BadPolicy : OexG K C_BadPolicy := ⟨⟨nm11, q11, N11, bs11, _, sn11, sub11, ab11, col11, dd11, ma11, mb11, mc11, md11, me11, _, _, _, _, x11l, F.excBase_ValueError, (vtB _ _).trans (by decide), (vtB _ _).trans (by decide), (vtB _ _).trans (by decide)⟩, ⟨_, _, F.store_ValueError, x11o⟩, B_BadPolicy.sa, B_BadPolicy.be, B_BadPolicy.ty, x11k⟩
  have FI_BadKeys := fun_mk (st := s_ini_BadKeys) x12il x12ic x12ik
  have bI_BadKeys := FI_BadKeys.binds (ps := ["self", "value"]) fun _ _ _ _ _ _ us hl => match us, hl with | [_, _], _ => rfl
  have kb_BadKeys := kb_kw (ks := (["self", "value"] : List Str).tail) (ps := ["self", "value"]) FI_BadKeys fun _ _ _ _ _ _ u ws hl => match ws, hl with | [_], _ => rfl
  have B_BadKeys := clsB_ok (List.all_eq_true.mp cB C_BadKeys (List.mem_of_getElem? (l := Ad.every (Ad.mk C_BadEntry C_BadEntries C_BadText C_BadEvent C_BadWorld C_BadKey C_BadStamp C_BadHomes C_BadRow C_BadStory C_BadLimit C_BadPolicy C_BadKeys C_BadDepth C_BadSkips C_BadPlan C_BadQuestion C_BadLine C_NotARun C_NoMoment C_TooLong C_NoEntry C_NoHome C_NoLink C_Refused C_NoWorld C_TombError)) (i := 13) rfl))
  have O_BadKeys : OexG K C_BadKeys := ⟨⟨nm12, q12, N12, bs12, _, sn12, sub12, ab12, col12, dd12, ma12, mb12, mc12, md12, me12, _, _, _, _, x12l, F.excBase_ValueError, (vtB _ _).trans (by decide), (vtB _ _).trans (by decide), (vtB _ _).trans (by decide)⟩, ⟨_, _, F.store_ValueError, x12o⟩, B_BadKeys.sa, B_BadKeys.be, B_BadKeys.ty, x12k⟩
  have FI_BadDepth := fun_mk (st := s_ini_BadDepth) x13il x13ic x13ik
  have bI_BadDepth := FI_BadDepth.binds (ps := ["self", "value"]) fun _ _ _ _ _ _ us hl => match us, hl with | [_, _], _ => rfl
  have kb_BadDepth := kb_kw (ks := (["self", "value"] : List Str).tail) (ps := ["self", "value"]) FI_BadDepth fun _ _ _ _ _ _ u ws hl => match ws, hl with | [_], _ => rfl
  have B_BadDepth := clsB_ok (List.all_eq_true.mp cB C_BadDepth (List.mem_of_getElem? (l := Ad.every (Ad.mk C_BadEntry C_BadEntries C_BadText C_BadEvent C_BadWorld C_BadKey C_BadStamp C_BadHomes C_BadRow C_BadStory C_BadLimit C_BadPolicy C_BadKeys C_BadDepth C_BadSkips C_BadPlan C_BadQuestion C_BadLine C_NotARun C_NoMoment C_TooLong C_NoEntry C_NoHome C_NoLink C_Refused C_NoWorld C_TombError)) (i := 14) rfl))
  have O_BadDepth : OexG K C_BadDepth := ⟨⟨nm13, q13, N13, bs13, _, sn13, sub13, ab13, col13, dd13, ma13, mb13, mc13, md13, me13, _, _, _, _, x13l, F.excBase_ValueError, (vtB _ _).trans (by decide), (vtB _ _).trans (by decide), (vtB _ _).trans (by decide)⟩, ⟨_, _, F.store_ValueError, x13o⟩, B_BadDepth.sa, B_BadDepth.be, B_BadDepth.ty, x13k⟩
  have FI_BadSkips := fun_mk (st := s_ini_BadSkips) x14il x14ic x14ik
  have bI_BadSkips := FI_BadSkips.binds (ps := ["self", "value"]) fun _ _ _ _ _ _ us hl => match us, hl with | [_, _], _ => rfl
  have kb_BadSkips := kb_kw (ks := (["self", "value"] : List Str).tail) (ps := ["self", "value"]) FI_BadSkips fun _ _ _ _ _ _ u ws hl => match ws, hl with | [_], _ => rfl
  have B_BadSkips := clsB_ok (List.all_eq_true.mp cB C_BadSkips (List.mem_of_getElem? (l := Ad.every (Ad.mk C_BadEntry C_BadEntries C_BadText C_BadEvent C_BadWorld C_BadKey C_BadStamp C_BadHomes C_BadRow C_BadStory C_BadLimit C_BadPolicy C_BadKeys C_BadDepth C_BadSkips C_BadPlan C_BadQuestion C_BadLine C_NotARun C_NoMoment C_TooLong C_NoEntry C_NoHome C_NoLink C_Refused C_NoWorld C_TombError)) (i := 15) rfl))
  have O_BadSkips : OexG K C_BadSkips := ⟨⟨nm14, q14, N14, bs14, _, sn14, sub14, ab14, col14, dd14, ma14, mb14, mc14, md14, me14, _, _, _, _, x14l, F.excBase_ValueError, (vtB _ _).trans (by decide), (vtB _ _).trans (by decide), (vtB _ _).trans (by decide)⟩, ⟨_, _, F.store_ValueError, x14o⟩, B_BadSkips.sa, B_BadSkips.be, B_BadSkips.ty, x14k⟩
  have FI_BadPlan := fun_mk (st := s_ini_BadPlan) x15il x15ic x15ik
  have bI_BadPlan := FI_BadPlan.binds (ps := ["self", "value"]) fun _ _ _ _ _ _ us hl => match us, hl with | [_, _], _ => rfl
  have kb_BadPlan := kb_kw (ks := (["self", "value"] : List Str).tail) (ps := ["self", "value"]) FI_BadPlan fun _ _ _ _ _ _ u ws hl => match ws, hl with | [_], _ => rfl
  have B_BadPlan := clsB_ok (List.all_eq_true.mp cB C_BadPlan (List.mem_of_getElem? (l := Ad.every (Ad.mk C_BadEntry C_BadEntries C_BadText C_BadEvent C_BadWorld C_BadKey C_BadStamp C_BadHomes C_BadRow C_BadStory C_BadLimit C_BadPolicy C_BadKeys C_BadDepth C_BadSkips C_BadPlan C_BadQuestion C_BadLine C_NotARun C_NoMoment C_TooLong C_NoEntry C_NoHome C_NoLink C_Refused C_NoWorld C_TombError)) (i := 16) rfl))
  have O_BadPlan : OexG K C_BadPlan := ⟨⟨nm15, q15, N15, bs15, _, sn15, sub15, ab15, col15, dd15, ma15, mb15, mc15, md15, me15, _, _, _, _, x15l, F.excBase_ValueError, (vtB _ _).trans (by decide), (vtB _ _).trans (by decide), (vtB _ _).trans (by decide)⟩, ⟨_, _, F.store_ValueError, x15o⟩, B_BadPlan.sa, B_BadPlan.be, B_BadPlan.ty, x15k⟩
  have FI_BadQuestion := fun_mk (st := s_ini_BadQuestion) x16il x16ic x16ik
  have bI_BadQuestion := FI_BadQuestion.binds (ps := ["self", "value"]) fun _ _ _ _ _ _ us hl => match us, hl with | [_, _], _ => rfl
  have kb_BadQuestion := kb_kw (ks := (["self", "value"] : List Str).tail) (ps := ["self", "value"]) FI_BadQuestion fun _ _ _ _ _ _ u ws hl => match ws, hl with | [_], _ => rfl
  have B_BadQuestion := clsB_ok (List.all_eq_true.mp cB C_BadQuestion (List.mem_of_getElem? (l := Ad.every (Ad.mk C_BadEntry C_BadEntries C_BadText C_BadEvent C_BadWorld C_BadKey C_BadStamp C_BadHomes C_BadRow C_BadStory C_BadLimit C_BadPolicy C_BadKeys C_BadDepth C_BadSkips C_BadPlan C_BadQuestion C_BadLine C_NotARun C_NoMoment C_TooLong C_NoEntry C_NoHome C_NoLink C_Refused C_NoWorld C_TombError)) (i := 17) rfl))
  have O_BadQuestion : OexG K C_BadQuestion := ⟨⟨nm16, q16, N16, bs16, _, sn16, sub16, ab16, col16, dd16, ma16, mb16, mc16, md16, me16, _, _, _, _, x16l, F.excBase_ValueError, (vtB _ _).trans (by decide), (vtB _ _).trans (by decide), (vtB _ _).trans (by decide)⟩, ⟨_, _, F.store_ValueError, x16o⟩, B_BadQuestion.sa, B_BadQuestion.be, B_BadQuestion.ty, x16k⟩
  have FI_BadLine := fun_mk (st := s_ini_BadLine) x17il x17ic x17ik
  have bI_BadLine := FI_BadLine.binds (ps := ["self", "value"]) fun _ _ _ _ _ _ us hl => match us, hl with | [_, _], _ => rfl
  have kb_BadLine := kb_kw (ks := (["self", "value"] : List Str).tail) (ps := ["self", "value"]) FI_BadLine fun _ _ _ _ _ _ u ws hl => match ws, hl with | [_], _ => rfl
  have B_BadLine := clsB_ok (List.all_eq_true.mp cB C_BadLine (List.mem_of_getElem? (l := Ad.every (Ad.mk C_BadEntry C_BadEntries C_BadText C_BadEvent C_BadWorld C_BadKey C_BadStamp C_BadHomes C_BadRow C_BadStory C_BadLimit C_BadPolicy C_BadKeys C_BadDepth C_BadSkips C_BadPlan C_BadQuestion C_BadLine C_NotARun C_NoMoment C_TooLong C_NoEntry C_NoHome C_NoLink C_Refused C_NoWorld C_TombError)) (i := 18) rfl))
  have O_BadLine : OexG K C_BadLine := ⟨⟨nm17, q17, N17, bs17, _, sn17, sub17, ab17, col17, dd17, ma17, mb17, mc17, md17, me17, _, _, _, _, x17l, F.excBase_ValueError, (vtB _ _).trans (by decide), (vtB _ _).trans (by decide), (vtB _ _).trans (by decide)⟩, ⟨_, _, F.store_ValueError, x17o⟩, B_BadLine.sa, B_BadLine.be, B_BadLine.ty, x17k⟩
  have FI_NotARun := fun_mk (st := s_ini_NotARun) x18il x18ic x18ik
  have bI_NotARun := FI_NotARun.binds (ps := ["self", "value"]) fun _ _ _ _ _ _ us hl => match us, hl with | [_, _], _ => rfl
  have kb_NotARun := kb_kw (ks := (["self", "value"] : List Str).tail) (ps := ["self", "value"]) FI_NotARun fun _ _ _ _ _ _ u ws hl => match ws, hl with | [_], _ => rfl
  have B_NotARun := clsB_ok (List.all_eq_true.mp cB C_NotARun (List.mem_of_getElem? (l := Ad.every (Ad.mk C_BadEntry C_BadEntries C_BadText C_BadEvent C_BadWorld C_BadKey C_BadStamp C_BadHomes C_BadRow C_BadStory C_BadLimit C_BadPolicy C_BadKeys C_BadDepth C_BadSkips C_BadPlan C_BadQuestion C_BadLine C_NotARun C_NoMoment C_TooLong C_NoEntry C_NoHome C_NoLink C_Refused C_NoWorld C_TombError)) (i := 19) rfl))
  have O_NotARun : OexG K C_NotARun := ⟨⟨nm18, q18, N18, bs18, _, sn18, sub18, ab18, col18, dd18, ma18, mb18, mc18, md18, me18, _, _, _, _, x18l, F.excBase_ValueError, (vtB _ _).trans (by decide), (vtB _ _).trans (by decide), (vtB _ _).trans (by decide)⟩, ⟨_, _, F.store_ValueError, x18o⟩, B_NotARun.sa, B_NotARun.be, B_NotARun.ty, x18k⟩
  have FI_NoMoment := fun_mk (st := s_ini_NoMoment) x19il x19ic x19ik
  have bI_NoMoment := FI_NoMoment.binds (ps := ["self", "value"]) fun _ _ _ _ _ _ us hl => match us, hl with | [_, _], _ => rfl
  have kb_NoMoment := kb_kw (ks := (["self", "value"] : List Str).tail) (ps := ["self", "value"]) FI_NoMoment fun _ _ _ _ _ _ u ws hl => match ws, hl with | [_], _ => rfl
  have B_NoMoment := clsB_ok (List.all_eq_true.mp cB C_NoMoment (List.mem_of_getElem? (l := Ad.every (Ad.mk C_BadEntry C_BadEntries C_BadText C_BadEvent C_BadWorld C_BadKey C_BadStamp C_BadHomes C_BadRow C_BadStory C_BadLimit C_BadPolicy C_BadKeys C_BadDepth C_BadSkips C_BadPlan C_BadQuestion C_BadLine C_NotARun C_NoMoment C_TooLong C_NoEntry C_NoHome C_NoLink C_Refused C_NoWorld C_TombError)) (i := 20) rfl))
  have O_NoMoment : OexG K C_NoMoment := ⟨⟨nm19, q19, N19, bs19, _, sn19, sub19, ab19, col19, dd19, ma19, mb19, mc19, md19, me19, _, _, _, _, x19l, F.excBase_ValueError, (vtB _ _).trans (by decide), (vtB _ _).trans (by decide), (vtB _ _).trans (by decide)⟩, ⟨_, _, F.store_ValueError, x19o⟩, B_NoMoment.sa, B_NoMoment.be, B_NoMoment.ty, x19k⟩
  have FI_TooLong := fun_mk (st := s_ini_TooLong) x20il x20ic x20ik
  have bI_TooLong := FI_TooLong.binds (ps := ["self", "value"]) fun _ _ _ _ _ _ us hl => match us, hl with | [_, _], _ => rfl
  have kb_TooLong := kb_kw (ks := (["self", "value"] : List Str).tail) (ps := ["self", "value"]) FI_TooLong fun _ _ _ _ _ _ u ws hl => match ws, hl with | [_], _ => rfl
  have B_TooLong := clsB_ok (List.all_eq_true.mp cB C_TooLong (List.mem_of_getElem? (l := Ad.every (Ad.mk C_BadEntry C_BadEntries C_BadText C_BadEvent C_BadWorld C_BadKey C_BadStamp C_BadHomes C_BadRow C_BadStory C_BadLimit C_BadPolicy C_BadKeys C_BadDepth C_BadSkips C_BadPlan C_BadQuestion C_BadLine C_NotARun C_NoMoment C_TooLong C_NoEntry C_NoHome C_NoLink C_Refused C_NoWorld C_TombError)) (i := 21) rfl))
  have O_TooLong : OexG K C_TooLong := ⟨⟨nm20, q20, N20, bs20, _, sn20, sub20, ab20, col20, dd20, ma20, mb20, mc20, md20, me20, _, _, _, _, x20l, F.excBase_ValueError, (vtB _ _).trans (by decide), (vtB _ _).trans (by decide), (vtB _ _).trans (by decide)⟩, ⟨_, _, F.store_ValueError, x20o⟩, B_TooLong.sa, B_TooLong.be, B_TooLong.ty, x20k⟩
  have FI_NoEntry := fun_mk (st := s_ini_NoEntry) x21il x21ic x21ik
  have bI_NoEntry := FI_NoEntry.binds (ps := ["self", "value"]) fun _ _ _ _ _ _ us hl => match us, hl with | [_, _], _ => rfl
  have kb_NoEntry := kb_kw (ks := (["self", "value"] : List Str).tail) (ps := ["self", "value"]) FI_NoEntry fun _ _ _ _ _ _ u ws hl => match ws, hl with | [_], _ => rfl
  have B_NoEntry := clsB_ok (List.all_eq_true.mp cB C_NoEntry (List.mem_of_getElem? (l := Ad.every (Ad.mk C_BadEntry C_BadEntries C_BadText C_BadEvent C_BadWorld C_BadKey C_BadStamp C_BadHomes C_BadRow C_BadStory C_BadLimit C_BadPolicy C_BadKeys C_BadDepth C_BadSkips C_BadPlan C_BadQuestion C_BadLine C_NotARun C_NoMoment C_TooLong C_NoEntry C_NoHome C_NoLink C_Refused C_NoWorld C_TombError)) (i := 22) rfl))
  have O_NoEntry : OexG K C_NoEntry := ⟨⟨nm21, q21, N21, bs21, _, sn21, sub21, ab21, col21, dd21, ma21, mb21, mc21, md21, me21, _, _, _, _, x21l, F.excBase_LookupError, by decide, by decide, by decide⟩, ⟨_, _, st_key, x21o⟩, B_NoEntry.sa, B_NoEntry.be, B_NoEntry.ty, x21k⟩
  have FI_NoHome := fun_mk (st := s_ini_NoHome) x22il x22ic x22ik
  have bI_NoHome := FI_NoHome.binds (ps := ["self", "value"]) fun _ _ _ _ _ _ us hl => match us, hl with | [_, _], _ => rfl
  have kb_NoHome := kb_kw (ks := (["self", "value"] : List Str).tail) (ps := ["self", "value"]) FI_NoHome fun _ _ _ _ _ _ u ws hl => match ws, hl with | [_], _ => rfl
  have B_NoHome := clsB_ok (List.all_eq_true.mp cB C_NoHome (List.mem_of_getElem? (l := Ad.every (Ad.mk C_BadEntry C_BadEntries C_BadText C_BadEvent C_BadWorld C_BadKey C_BadStamp C_BadHomes C_BadRow C_BadStory C_BadLimit C_BadPolicy C_BadKeys C_BadDepth C_BadSkips C_BadPlan C_BadQuestion C_BadLine C_NotARun C_NoMoment C_TooLong C_NoEntry C_NoHome C_NoLink C_Refused C_NoWorld C_TombError)) (i := 23) rfl))
  have O_NoHome : OexG K C_NoHome := ⟨⟨nm22, q22, N22, bs22, _, sn22, sub22, ab22, col22, dd22, ma22, mb22, mc22, md22, me22, _, _, _, _, x22l, F.excBase_LookupError, by decide, by decide, by decide⟩, ⟨_, _, st_key, x22o⟩, B_NoHome.sa, B_NoHome.be, B_NoHome.ty, x22k⟩
  have FI_NoLink := fun_mk (st := s_ini_NoLink) x23il x23ic x23ik
  have bI_NoLink := FI_NoLink.binds (ps := ["self", "value"]) fun _ _ _ _ _ _ us hl => match us, hl with | [_, _], _ => rfl
  have kb_NoLink := kb_kw (ks := (["self", "value"] : List Str).tail) (ps := ["self", "value"]) FI_NoLink fun _ _ _ _ _ _ u ws hl => match ws, hl with | [_], _ => rfl
  have B_NoLink := clsB_ok (List.all_eq_true.mp cB C_NoLink (List.mem_of_getElem? (l := Ad.every (Ad.mk C_BadEntry C_BadEntries C_BadText C_BadEvent C_BadWorld C_BadKey C_BadStamp C_BadHomes C_BadRow C_BadStory C_BadLimit C_BadPolicy C_BadKeys C_BadDepth C_BadSkips C_BadPlan C_BadQuestion C_BadLine C_NotARun C_NoMoment C_TooLong C_NoEntry C_NoHome C_NoLink C_Refused C_NoWorld C_TombError)) (i := 24) rfl))
  have O_NoLink : OexG K C_NoLink := ⟨⟨nm23, q23, N23, bs23, _, sn23, sub23, ab23, col23, dd23, ma23, mb23, mc23, md23, me23, _, _, _, _, x23l, F.excBase_LookupError, by decide, by decide, by decide⟩, ⟨_, _, st_key, x23o⟩, B_NoLink.sa, B_NoLink.be, B_NoLink.ty, x23k⟩
  have FI_Refused := fun_mk (st := s_ini_Refused) x24il x24ic x24ik
  have bI_Refused := FI_Refused.binds (ps := ["self", "word", "value"]) fun _ _ _ _ _ _ us hl => match us, hl with | [_, _, _], _ => rfl
  have kb_Refused := kb_kw (ks := (["self", "word", "value"] : List Str).tail) (ps := ["self", "word", "value"]) FI_Refused fun _ _ _ _ _ _ u ws hl => match ws, hl with | [_, _], _ => rfl
  have B_Refused := clsB_ok (List.all_eq_true.mp cB C_Refused (List.mem_of_getElem? (l := Ad.every (Ad.mk C_BadEntry C_BadEntries C_BadText C_BadEvent C_BadWorld C_BadKey C_BadStamp C_BadHomes C_BadRow C_BadStory C_BadLimit C_BadPolicy C_BadKeys C_BadDepth C_BadSkips C_BadPlan C_BadQuestion C_BadLine C_NotARun C_NoMoment C_TooLong C_NoEntry C_NoHome C_NoLink C_Refused C_NoWorld C_TombError)) (i := 25) rfl))
  have O_Refused : OexG K C_Refused := ⟨⟨nm24, q24, N24, bs24, _, sn24, sub24, ab24, col24, dd24, ma24, mb24, mc24, md24, me24, _, _, _, _, x24l, F.excBase_RuntimeError, by decide, by decide, by decide⟩, ⟨_, _, F.store_RuntimeError, x24o⟩, B_Refused.sa, B_Refused.be, B_Refused.ty, x24k⟩
  have FI_NoWorld := fun_mk (st := s_ini_NoWorld) x25il x25ic x25ik
  have bI_NoWorld := FI_NoWorld.binds (ps := ["self"]) fun _ _ _ _ _ _ us hl => match us, hl with | [_], _ => rfl
  have kb_NoWorld := kb_kw (ks := (["self"] : List Str).tail) (ps := ["self"]) FI_NoWorld fun _ _ _ _ _ _ u ws hl => match ws, hl with | [], _ => rfl
  have B_NoWorld := clsB_ok (List.all_eq_true.mp cB C_NoWorld (List.mem_of_getElem? (l := Ad.every (Ad.mk C_BadEntry C_BadEntries C_BadText C_BadEvent C_BadWorld C_BadKey C_BadStamp C_BadHomes C_BadRow C_BadStory C_BadLimit C_BadPolicy C_BadKeys C_BadDepth C_BadSkips C_BadPlan C_BadQuestion C_BadLine C_NotARun C_NoMoment C_TooLong C_NoEntry C_NoHome C_NoLink C_Refused C_NoWorld C_TombError)) (i := 0) rfl))
  have O_NoWorld : OexG K C_NoWorld := ⟨⟨nm25, q25, N25, bs25, _, sn25, sub25, ab25, col25, dd25, ma25, mb25, mc25, md25, me25, _, _, _, _, x25l, F.excBase_RuntimeError, by decide, by decide, by decide⟩, ⟨_, _, F.store_RuntimeError, x25o⟩, B_NoWorld.sa, B_NoWorld.be, B_NoWorld.ty, x25k⟩
  refine ⟨PySem.W.fnOf "law" "law" (defArgs s_law) (defBody s_law) (defScope s_law) .none kV5 dc5 pm5 an5 cd5 ct5, fun s v => .of_eq rfl, fun base _ _ => ?_⟩
  have Z_BadEntry : ErrC l.prog w K mg base "BadEntry" C_BadEntry ["self", "value"] (spI1 K C_BadEntry) := ⟨PySem.W.mg_of X G x0a, O_BadEntry, fI0, _, x0in, x0ti, bI_BadEntry, kb_BadEntry, ok_i1 FI_BadEntry sc_ini_BadEntry ⟨_, _, _, _, rfl⟩ O_BadEntry B_BadEntry.nv⟩
  have Z_BadEntries : ErrC l.prog w K mg base "BadEntries" C_BadEntries ["self", "value"] (spI1 K C_BadEntries) := ⟨PySem.W.mg_of X G x1a, O_BadEntries, fI1, _, x1in, x1ti, bI_BadEntries, kb_BadEntries, ok_i1 FI_BadEntries sc_ini_BadEntries ⟨_, _, _, _, rfl⟩ O_BadEntries B_BadEntries.nv⟩
  have Z_BadText : ErrC l.prog w K mg base "BadText" C_BadText ["self", "value"] (spI1 K C_BadText) := ⟨PySem.W.mg_of X G x2a, O_BadText, fI2, _, x2in, x2ti, bI_BadText, kb_BadText, ok_i1 FI_BadText sc_ini_BadText ⟨_, _, _, _, rfl⟩ O_BadText B_BadText.nv⟩
  have Z_BadEvent : ErrC l.prog w K mg base "BadEvent" C_BadEvent ["self", "value"] (spI1 K C_BadEvent) := ⟨PySem.W.mg_of X G x3a, O_BadEvent, fI3, _, x3in, x3ti, bI_BadEvent, kb_BadEvent, ok_i1 FI_BadEvent sc_ini_BadEvent ⟨_, _, _, _, rfl⟩ O_BadEvent B_BadEvent.nv⟩
  have Z_BadWorld : ErrC l.prog w K mg base "BadWorld" C_BadWorld ["self", "value"] (spI1 K C_BadWorld) := ⟨PySem.W.mg_of X G x4a, O_BadWorld, fI4, _, x4in, x4ti, bI_BadWorld, kb_BadWorld, ok_i1 FI_BadWorld sc_ini_BadWorld ⟨_, _, _, _, rfl⟩ O_BadWorld B_BadWorld.nv⟩
  have Z_BadKey : ErrC l.prog w K mg base "BadKey" C_BadKey ["self", "value"] (spI1 K C_BadKey) := ⟨PySem.W.mg_of X G x5a, O_BadKey, fI5, _, x5in, x5ti, bI_BadKey, kb_BadKey, ok_i1 FI_BadKey sc_ini_BadKey ⟨_, _, _, _, rfl⟩ O_BadKey B_BadKey.nv⟩
  have Z_BadStamp : ErrC l.prog w K mg base "BadStamp" C_BadStamp ["self", "value"] (spI1 K C_BadStamp) := ⟨PySem.W.mg_of X G x6a, O_BadStamp, fI6, _, x6in, x6ti, bI_BadStamp, kb_BadStamp, ok_i1 FI_BadStamp sc_ini_BadStamp ⟨_, _, _, _, rfl⟩ O_BadStamp B_BadStamp.nv⟩
  have Z_BadHomes : ErrC l.prog w K mg base "BadHomes" C_BadHomes ["self", "value"] (spI1 K C_BadHomes) := ⟨PySem.W.mg_of X G x7a, O_BadHomes, fI7, _, x7in, x7ti, bI_BadHomes, kb_BadHomes, ok_i1 FI_BadHomes sc_ini_BadHomes ⟨_, _, _, _, rfl⟩ O_BadHomes B_BadHomes.nv⟩
  have Z_BadRow : ErrC l.prog w K mg base "BadRow" C_BadRow ["self", "value"] (spI1 K C_BadRow) := ⟨PySem.W.mg_of X G x8a, O_BadRow, fI8, _, x8in, x8ti, bI_BadRow, kb_BadRow, ok_i1 FI_BadRow sc_ini_BadRow ⟨_, _, _, _, rfl⟩ O_BadRow B_BadRow.nv⟩
  have Z_BadStory : ErrC l.prog w K mg base "BadStory" C_BadStory ["self", "value"] (spI1 K C_BadStory) := ⟨PySem.W.mg_of X G x9a, O_BadStory, fI9, _, x9in, x9ti, bI_BadStory, kb_BadStory, ok_i1 FI_BadStory sc_ini_BadStory ⟨_, _, _, _, rfl⟩ O_BadStory B_BadStory.nv⟩
  have Z_BadLimit : ErrC l.prog w K mg base "BadLimit" C_BadLimit ["self", "value"] (spI1 K C_BadLimit) := ⟨PySem.W.mg_of X G x10a, O_BadLimit, fI10, _, x10in, x10ti, bI_BadLimit, kb_BadLimit, ok_i1 FI_BadLimit sc_ini_BadLimit ⟨_, _, _, _, rfl⟩ O_BadLimit B_BadLimit.nv⟩
  have Z_BadPolicy : ErrC l.prog w K mg base "BadPolicy" C_BadPolicy ["self", "value"] (spI1 K C_BadPolicy) := ⟨PySem.W.mg_of X G x11a, O_BadPolicy, fI11, _, x11in, x11ti, bI_BadPolicy, kb_BadPolicy, ok_i1 FI_BadPolicy sc_ini_BadPolicy ⟨_, _, _, _, rfl⟩ O_BadPolicy B_BadPolicy.nv⟩
  have Z_BadKeys : ErrC l.prog w K mg base "BadKeys" C_BadKeys ["self", "value"] (spI1 K C_BadKeys) := ⟨PySem.W.mg_of X G x12a, O_BadKeys, fI12, _, x12in, x12ti, bI_BadKeys, kb_BadKeys, ok_i1 FI_BadKeys sc_ini_BadKeys ⟨_, _, _, _, rfl⟩ O_BadKeys B_BadKeys.nv⟩
  have Z_BadDepth : ErrC l.prog w K mg base "BadDepth" C_BadDepth ["self", "value"] (spI1 K C_BadDepth) := ⟨PySem.W.mg_of X G x13a, O_BadDepth, fI13, _, x13in, x13ti, bI_BadDepth, kb_BadDepth, ok_i1 FI_BadDepth sc_ini_BadDepth ⟨_, _, _, _, rfl⟩ O_BadDepth B_BadDepth.nv⟩
  have Z_BadSkips : ErrC l.prog w K mg base "BadSkips" C_BadSkips ["self", "value"] (spI1 K C_BadSkips) := ⟨PySem.W.mg_of X G x14a, O_BadSkips, fI14, _, x14in, x14ti, bI_BadSkips, kb_BadSkips, ok_i1 FI_BadSkips sc_ini_BadSkips ⟨_, _, _, _, rfl⟩ O_BadSkips B_BadSkips.nv⟩
  have Z_BadPlan : ErrC l.prog w K mg base "BadPlan" C_BadPlan ["self", "value"] (spI1 K C_BadPlan) := ⟨PySem.W.mg_of X G x15a, O_BadPlan, fI15, _, x15in, x15ti, bI_BadPlan, kb_BadPlan, ok_i1 FI_BadPlan sc_ini_BadPlan ⟨_, _, _, _, rfl⟩ O_BadPlan B_BadPlan.nv⟩
  have Z_BadQuestion : ErrC l.prog w K mg base "BadQuestion" C_BadQuestion ["self", "value"] (spI1 K C_BadQuestion) := ⟨PySem.W.mg_of X G x16a, O_BadQuestion, fI16, _, x16in, x16ti, bI_BadQuestion, kb_BadQuestion, ok_i1 FI_BadQuestion sc_ini_BadQuestion ⟨_, _, _, _, rfl⟩ O_BadQuestion B_BadQuestion.nv⟩
  have Z_BadLine : ErrC l.prog w K mg base "BadLine" C_BadLine ["self", "value"] (spI1 K C_BadLine) := ⟨PySem.W.mg_of X G x17a, O_BadLine, fI17, _, x17in, x17ti, bI_BadLine, kb_BadLine, ok_i1 FI_BadLine sc_ini_BadLine ⟨_, _, _, _, rfl⟩ O_BadLine B_BadLine.nv⟩
  have Z_NotARun : ErrC l.prog w K mg base "NotARun" C_NotARun ["self", "value"] (spI1 K C_NotARun) := ⟨PySem.W.mg_of X G x18a, O_NotARun, fI18, _, x18in, x18ti, bI_NotARun, kb_NotARun, ok_i1 FI_NotARun sc_ini_NotARun ⟨_, _, _, _, rfl⟩ O_NotARun B_NotARun.nv⟩
  have Z_NoMoment : ErrC l.prog w K mg base "NoMoment" C_NoMoment ["self", "value"] (spI1 K C_NoMoment) := ⟨PySem.W.mg_of X G x19a, O_NoMoment, fI19, _, x19in, x19ti, bI_NoMoment, kb_NoMoment, ok_i1 FI_NoMoment sc_ini_NoMoment ⟨_, _, _, _, rfl⟩ O_NoMoment B_NoMoment.nv⟩
  have Z_TooLong : ErrC l.prog w K mg base "TooLong" C_TooLong ["self", "value"] (spI1 K C_TooLong) := ⟨PySem.W.mg_of X G x20a, O_TooLong, fI20, _, x20in, x20ti, bI_TooLong, kb_TooLong, ok_i1 FI_TooLong sc_ini_TooLong ⟨_, _, _, _, rfl⟩ O_TooLong B_TooLong.nv⟩
  have Z_NoEntry : ErrC l.prog w K mg base "NoEntry" C_NoEntry ["self", "value"] (spI1 K C_NoEntry) := ⟨PySem.W.mg_of X G x21a, O_NoEntry, fI21, _, x21in, x21ti, bI_NoEntry, kb_NoEntry, ok_i1 FI_NoEntry sc_ini_NoEntry ⟨_, _, _, _, rfl⟩ O_NoEntry B_NoEntry.nv⟩
  have Z_NoHome : ErrC l.prog w K mg base "NoHome" C_NoHome ["self", "value"] (spI1 K C_NoHome) := ⟨PySem.W.mg_of X G x22a, O_NoHome, fI22, _, x22in, x22ti, bI_NoHome, kb_NoHome, ok_i1 FI_NoHome sc_ini_NoHome ⟨_, _, _, _, rfl⟩ O_NoHome B_NoHome.nv⟩
  have Z_NoLink : ErrC l.prog w K mg base "NoLink" C_NoLink ["self", "value"] (spI1 K C_NoLink) := ⟨PySem.W.mg_of X G x23a, O_NoLink, fI23, _, x23in, x23ti, bI_NoLink, kb_NoLink, ok_i1 FI_NoLink sc_ini_NoLink ⟨_, _, _, _, rfl⟩ O_NoLink B_NoLink.nv⟩
  have Z_Refused : ErrC l.prog w K mg base "Refused" C_Refused ["self", "word", "value"] (spI2 K C_Refused) := ⟨PySem.W.mg_of X G x24a, O_Refused, fI24, _, x24in, x24ti, bI_Refused, kb_Refused, ok_i2 FI_Refused sc_ini_Refused ⟨_, _, _, _, _, _, _, _, rfl⟩ O_Refused B_Refused.nv rw⟩
  have Z_NoWorld : ErrC l.prog w K mg base "NoWorld" C_NoWorld ["self"] (spI0 K C_NoWorld) := ⟨PySem.W.mg_of X G x25a, O_NoWorld, fI25, _, x25in, x25ti, bI_NoWorld, kb_NoWorld, ok_NoWorld T hRe ⟨_, _, _, _, _, _, _, _, _, _, _, _, _, _, _, x25l, by decide⟩ FI_NoWorld⟩
  have Z : Errs l.prog w K mg base (Ad.mk C_BadEntry C_BadEntries C_BadText C_BadEvent C_BadWorld C_BadKey C_BadStamp C_BadHomes C_BadRow C_BadStory C_BadLimit C_BadPolicy C_BadKeys C_BadDepth C_BadSkips C_BadPlan C_BadQuestion C_BadLine C_NotARun C_NoMoment C_TooLong C_NoEntry C_NoHome C_NoLink C_Refused C_NoWorld C_TombError) := errs_mk Z_BadEntry Z_BadEntries Z_BadText Z_BadEvent Z_BadWorld Z_BadKey Z_BadStamp Z_BadHomes Z_BadRow Z_BadStory Z_BadLimit Z_BadPolicy Z_BadKeys Z_BadDepth Z_BadSkips Z_BadPlan Z_BadQuestion Z_BadLine Z_NotARun Z_NoMoment Z_TooLong Z_NoEntry Z_NoHome Z_NoLink Z_Refused Z_NoWorld (PySem.W.mg_of X G r_a) cB cN cT rw tB kT cT2 kW cW
  have K_L_pool := Cal.of (PySem.W.mg_of X G a0) k0 b_L_pool (ok_L_pool (P := l.prog) (w := w) (base := base) T  (F := F_L_pool))
  have K_L_take := Cal.of (PySem.W.mg_of X G a1) k1 b_L_take (ok_L_take (P := l.prog) (w := w) (base := base) T  (F := F_L_take))
  have K_L_made := Cal.of (PySem.W.mg_of X G a2) k2 b_L_made (ok_L_made (P := l.prog) (w := w) (base := base) T Z (F := F_L_made))
  have K_L_classes := Cal.of (PySem.W.mg_of X G a3) k3 b_L_classes (ok_L_classes (P := l.prog) (w := w) (base := base) T Z (F := F_L_classes))
  have K_L_kinds := Cal.of (PySem.W.mg_of X G a4) k4 b_L_kinds (ok_L_kinds (P := l.prog) (w := w) (base := base) T Z (F := F_L_kinds))
  exact ok_law T Z (F := F_law) (K_L_pool := K_L_pool.mono (by decide)) (K_L_take := K_L_take.mono (by decide)) (K_L_made := K_L_made.mono (by decide)) (K_L_classes := K_L_classes.mono (by decide)) (K_L_kinds := K_L_kinds.mono (by decide))
end K03
open PySem PySem.W PyProof.Rows
set_option maxRecDepth 100000 in
set_option maxHeartbeats 0 in
theorem PySem.Challenge.cw_tombkeeper_k03_exceptions_apart_holds : PySem.Challenge.rw_tombkeeper_k03_exceptions_apart.Holds := by
  w_on; o_law; k_head; (case hw => w_witness2)
  k_fill
  refine Tk.walkG (l := PySem.Challenge.rw_tombkeeper_k03_exceptions_apart) (k := 9) (x := "_law_script") rfl rfl ⟨rfl, by decide, by decide⟩ (fun w h Y => PySem.W.kIn_of Y) ?F
  case F =>
    intro w mg fa h KX G hmg
    refine' K03.all_mk KX G hmg ?r_a ?x0a ?x0l ?x0in ?x0ti ?x0il ?x0ic ?x0ik ?x0k ?x0o ?x1a ?x1l ?x1in ?x1ti ?x1il ?x1ic ?x1ik ?x1k ?x1o ?x2a ?x2l ?x2in ?x2ti ?x2il ?x2ic ?x2ik ?x2k ?x2o ?x3a ?x3l ?x3in ?x3ti ?x3il ?x3ic ?x3ik ?x3k ?x3o ?x4a ?x4l ?x4in ?x4ti ?x4il ?x4ic ?x4ik ?x4k ?x4o ?x5a ?x5l ?x5in ?x5ti ?x5il ?x5ic ?x5ik ?x5k ?x5o ?x6a ?x6l ?x6in ?x6ti ?x6il ?x6ic ?x6ik ?x6k ?x6o ?x7a ?x7l ?x7in ?x7ti ?x7il ?x7ic ?x7ik ?x7k ?x7o ?x8a ?x8l ?x8in ?x8ti ?x8il ?x8ic ?x8ik ?x8k ?x8o ?x9a ?x9l ?x9in ?x9ti ?x9il ?x9ic ?x9ik ?x9k ?x9o ?x10a ?x10l ?x10in ?x10ti ?x10il ?x10ic ?x10ik ?x10k ?x10o ?x11a ?x11l ?x11in ?x11ti ?x11il ?x11ic ?x11ik ?x11k ?x11o ?x12a ?x12l ?x12in ?x12ti ?x12il ?x12ic ?x12ik ?x12k ?x12o ?x13a ?x13l ?x13in ?x13ti ?x13il ?x13ic ?x13ik ?x13k ?x13o ?x14a ?x14l ?x14in ?x14ti ?x14il ?x14ic ?x14ik ?x14k ?x14o ?x15a ?x15l ?x15in ?x15ti ?x15il ?x15ic ?x15ik ?x15k ?x15o ?x16a ?x16l ?x16in ?x16ti ?x16il ?x16ic ?x16ik ?x16k ?x16o ?x17a ?x17l ?x17in ?x17ti ?x17il ?x17ic ?x17ik ?x17k ?x17o ?x18a ?x18l ?x18in ?x18ti ?x18il ?x18ic ?x18ik ?x18k ?x18o ?x19a ?x19l ?x19in ?x19ti ?x19il ?x19ic ?x19ik ?x19k ?x19o ?x20a ?x20l ?x20in ?x20ti ?x20il ?x20ic ?x20ik ?x20k ?x20o ?x21a ?x21l ?x21in ?x21ti ?x21il ?x21ic ?x21ik ?x21k ?x21o ?x22a ?x22l ?x22in ?x22ti ?x22il ?x22ic ?x22ik ?x22k ?x22o ?x23a ?x23l ?x23in ?x23ti ?x23il ?x23ic ?x23ik ?x23k ?x23o ?x24a ?x24l ?x24in ?x24ti ?x24il ?x24ic ?x24ik ?x24k ?x24o ?x25a ?x25l ?x25in ?x25ti ?x25il ?x25ic ?x25ik ?x25k ?x25o ?cB ?rw ?cN ?cT ?hRe ?tB ?kT ?cT2 ?kW ?cW ?a0 ?l0 ?c0 ?k0 ?a1 ?l1 ?c1 ?k1 ?a2 ?l2 ?c2 ?k2 ?a3 ?l3 ?c3 ?k3 ?a4 ?l4 ?c4 ?k4 ?a5 ?l5 ?c5 ?k5 ?z_len ?z_isinstance ?z_repr ?z_range ?z_max ?z_min ?z_enumerate ?z_ValueError ?z_KeyError ?z_RuntimeError
    (case r_a => first | k_is | rfl)
    (case x0a => first | k_is | rfl)
    (case x0l => first | k_is | rfl)
    (case x0in => first | k_is | rfl)
    (case x0ti => first | k_is | rfl)
    (case x0il => first | k_is | rfl)
    (case x0ic => first | k_is | rfl)
    (case x0ik => first | k_is | rfl)
    (case x0k => first | k_is | rfl)
    (case x0o => first | rfl | k_is)
    (case x1a => first | k_is | rfl)
    (case x1l => first | k_is | rfl)
    (case x1in => first | k_is | rfl)
    (case x1ti => first | k_is | rfl)
    (case x1il => first | k_is | rfl)
    (case x1ic => first | k_is | rfl)
    (case x1ik => first | k_is | rfl)
    (case x1k => first | k_is | rfl)
    (case x1o => first | rfl | k_is)
    (case x2a => first | k_is | rfl)
    (case x2l => first | k_is | rfl)
    (case x2in => first | k_is | rfl)
    (case x2ti => first | k_is | rfl)
    (case x2il => first | k_is | rfl)
    (case x2ic => first | k_is | rfl)
    (case x2ik => first | k_is | rfl)
    (case x2k => first | k_is | rfl)
    (case x2o => first | rfl | k_is)
    (case x3a => first | k_is | rfl)
    (case x3l => first | k_is | rfl)
    (case x3in => first | k_is | rfl)
    (case x3ti => first | k_is | rfl)
    (case x3il => first | k_is | rfl)
    (case x3ic => first | k_is | rfl)
    (case x3ik => first | k_is | rfl)
    (case x3k => first | k_is | rfl)
    (case x3o => first | rfl | k_is)
    (case x4a => first | k_is | rfl)
    (case x4l => first | k_is | rfl)
    (case x4in => first | k_is | rfl)
    (case x4ti => first | k_is | rfl)
    (case x4il => first | k_is | rfl)
    (case x4ic => first | k_is | rfl)
    (case x4ik => first | k_is | rfl)
    (case x4k => first | k_is | rfl)
    (case x4o => first | rfl | k_is)
    (case x5a => first | k_is | rfl)
    (case x5l => first | k_is | rfl)
    (case x5in => first | k_is | rfl)
    (case x5ti => first | k_is | rfl)
    (case x5il => first | k_is | rfl)
    (case x5ic => first | k_is | rfl)
    (case x5ik => first | k_is | rfl)
    (case x5k => first | k_is | rfl)
    (case x5o => first | rfl | k_is)
    (case x6a => first | k_is | rfl)
    (case x6l => first | k_is | rfl)
    (case x6in => first | k_is | rfl)
    (case x6ti => first | k_is | rfl)
    (case x6il => first | k_is | rfl)
    (case x6ic => first | k_is | rfl)
    (case x6ik => first | k_is | rfl)
    (case x6k => first | k_is | rfl)
    (case x6o => first | rfl | k_is)
    (case x7a => first | k_is | rfl)
    (case x7l => first | k_is | rfl)
    (case x7in => first | k_is | rfl)
    (case x7ti => first | k_is | rfl)
    (case x7il => first | k_is | rfl)
    (case x7ic => first | k_is | rfl)
    (case x7ik => first | k_is | rfl)
    (case x7k => first | k_is | rfl)
    (case x7o => first | rfl | k_is)
    (case x8a => first | k_is | rfl)
    (case x8l => first | k_is | rfl)
    (case x8in => first | k_is | rfl)
    (case x8ti => first | k_is | rfl)
    (case x8il => first | k_is | rfl)
    (case x8ic => first | k_is | rfl)
    (case x8ik => first | k_is | rfl)
    (case x8k => first | k_is | rfl)
    (case x8o => first | rfl | k_is)
    (case x9a => first | k_is | rfl)
    (case x9l => first | k_is | rfl)
    (case x9in => first | k_is | rfl)
    (case x9ti => first | k_is | rfl)
    (case x9il => first | k_is | rfl)
    (case x9ic => first | k_is | rfl)
    (case x9ik => first | k_is | rfl)
    (case x9k => first | k_is | rfl)
    (case x9o => first | rfl | k_is)
    (case x10a => first | k_is | rfl)
    (case x10l => first | k_is | rfl)
    (case x10in => first | k_is | rfl)
    (case x10ti => first | k_is | rfl)
    (case x10il => first | k_is | rfl)
    (case x10ic => first | k_is | rfl)
    (case x10ik => first | k_is | rfl)
    (case x10k => first | k_is | rfl)
    (case x10o => first | rfl | k_is)
    (case x11a => first | k_is | rfl)
    (case x11l => first | k_is | rfl)
    (case x11in => first | k_is | rfl)
    (case x11ti => first | k_is | rfl)
    (case x11il => first | k_is | rfl)
    (case x11ic => first | k_is | rfl)
    (case x11ik => first | k_is | rfl)
    (case x11k => first | k_is | rfl)
    (case x11o => first | rfl | k_is)
    (case x12a => first | k_is | rfl)
    (case x12l => first | k_is | rfl)
    (case x12in => first | k_is | rfl)
    (case x12ti => first | k_is | rfl)
    (case x12il => first | k_is | rfl)
    (case x12ic => first | k_is | rfl)
    (case x12ik => first | k_is | rfl)
    (case x12k => first | k_is | rfl)
    (case x12o => first | rfl | k_is)
    (case x13a => first | k_is | rfl)
    (case x13l => first | k_is | rfl)
    (case x13in => first | k_is | rfl)
    (case x13ti => first | k_is | rfl)
    (case x13il => first | k_is | rfl)
    (case x13ic => first | k_is | rfl)
    (case x13ik => first | k_is | rfl)
    (case x13k => first | k_is | rfl)
    (case x13o => first | rfl | k_is)
    (case x14a => first | k_is | rfl)
    (case x14l => first | k_is | rfl)
    (case x14in => first | k_is | rfl)
    (case x14ti => first | k_is | rfl)
    (case x14il => first | k_is | rfl)
    (case x14ic => first | k_is | rfl)
    (case x14ik => first | k_is | rfl)
    (case x14k => first | k_is | rfl)
    (case x14o => first | rfl | k_is)
    (case x15a => first | k_is | rfl)
    (case x15l => first | k_is | rfl)
    (case x15in => first | k_is | rfl)
    (case x15ti => first | k_is | rfl)
    (case x15il => first | k_is | rfl)
    (case x15ic => first | k_is | rfl)
    (case x15ik => first | k_is | rfl)
    (case x15k => first | k_is | rfl)
    (case x15o => first | rfl | k_is)
    (case x16a => first | k_is | rfl)
    (case x16l => first | k_is | rfl)
    (case x16in => first | k_is | rfl)
    (case x16ti => first | k_is | rfl)
    (case x16il => first | k_is | rfl)
    (case x16ic => first | k_is | rfl)
    (case x16ik => first | k_is | rfl)
    (case x16k => first | k_is | rfl)
    (case x16o => first | rfl | k_is)
    (case x17a => first | k_is | rfl)
    (case x17l => first | k_is | rfl)
    (case x17in => first | k_is | rfl)
    (case x17ti => first | k_is | rfl)
    (case x17il => first | k_is | rfl)
    (case x17ic => first | k_is | rfl)
    (case x17ik => first | k_is | rfl)
    (case x17k => first | k_is | rfl)
    (case x17o => first | rfl | k_is)
    (case x18a => first | k_is | rfl)
    (case x18l => first | k_is | rfl)
    (case x18in => first | k_is | rfl)
    (case x18ti => first | k_is | rfl)
    (case x18il => first | k_is | rfl)
    (case x18ic => first | k_is | rfl)
    (case x18ik => first | k_is | rfl)
    (case x18k => first | k_is | rfl)
    (case x18o => first | rfl | k_is)
    (case x19a => first | k_is | rfl)
    (case x19l => first | k_is | rfl)
    (case x19in => first | k_is | rfl)
    (case x19ti => first | k_is | rfl)
    (case x19il => first | k_is | rfl)
    (case x19ic => first | k_is | rfl)
    (case x19ik => first | k_is | rfl)
    (case x19k => first | k_is | rfl)
    (case x19o => first | rfl | k_is)
    (case x20a => first | k_is | rfl)
    (case x20l => first | k_is | rfl)
    (case x20in => first | k_is | rfl)
    (case x20ti => first | k_is | rfl)
    (case x20il => first | k_is | rfl)
    (case x20ic => first | k_is | rfl)
    (case x20ik => first | k_is | rfl)
    (case x20k => first | k_is | rfl)
    (case x20o => first | rfl | k_is)
    (case x21a => first | k_is | rfl)
    (case x21l => first | k_is | rfl)
    (case x21in => first | k_is | rfl)
    (case x21ti => first | k_is | rfl)
    (case x21il => first | k_is | rfl)
    (case x21ic => first | k_is | rfl)
    (case x21ik => first | k_is | rfl)
    (case x21k => first | k_is | rfl)
    (case x21o => first | rfl | k_is)
    (case x22a => first | k_is | rfl)
    (case x22l => first | k_is | rfl)
    (case x22in => first | k_is | rfl)
    (case x22ti => first | k_is | rfl)
    (case x22il => first | k_is | rfl)
    (case x22ic => first | k_is | rfl)
    (case x22ik => first | k_is | rfl)
    (case x22k => first | k_is | rfl)
    (case x22o => first | rfl | k_is)
    (case x23a => first | k_is | rfl)
    (case x23l => first | k_is | rfl)
    (case x23in => first | k_is | rfl)
    (case x23ti => first | k_is | rfl)
    (case x23il => first | k_is | rfl)
    (case x23ic => first | k_is | rfl)
    (case x23ik => first | k_is | rfl)
    (case x23k => first | k_is | rfl)
    (case x23o => first | rfl | k_is)
    (case x24a => first | k_is | rfl)
    (case x24l => first | k_is | rfl)
    (case x24in => first | k_is | rfl)
    (case x24ti => first | k_is | rfl)
    (case x24il => first | k_is | rfl)
    (case x24ic => first | k_is | rfl)
    (case x24ik => first | k_is | rfl)
    (case x24k => first | k_is | rfl)
    (case x24o => first | rfl | k_is)
    (case x25a => first | k_is | rfl)
    (case x25l => first | k_is | rfl)
    (case x25in => first | k_is | rfl)
    (case x25ti => first | k_is | rfl)
    (case x25il => first | k_is | rfl)
    (case x25ic => first | k_is | rfl)
    (case x25ik => first | k_is | rfl)
    (case x25k => first | k_is | rfl)
    (case x25o => first | rfl | k_is)
    (case cB => first | rfl | kernel_rfl)
    (case rw => first | k_is | rfl)
    (case cN => first | k_is | rfl)
    (case cT => first | k_is | rfl)
    (case hRe => first | k_is | rfl)
    (case tB => first | rfl | kernel_rfl)
    (case kT => first | rfl | kernel_rfl)
    (case cT2 => first | rfl | kernel_rfl)
    (case kW => first | rfl | kernel_rfl)
    (case cW => first | rfl | kernel_rfl)
    (case a0 => first | k_is | rfl)
    (case l0 => first | k_is | rfl)
    (case c0 => first | k_is | rfl)
    (case k0 => first | k_is | rfl)
    (case a1 => first | k_is | rfl)
    (case l1 => first | k_is | rfl)
    (case c1 => first | k_is | rfl)
    (case k1 => first | k_is | rfl)
    (case a2 => first | k_is | rfl)
    (case l2 => first | k_is | rfl)
    (case c2 => first | k_is | rfl)
    (case k2 => first | k_is | rfl)
    (case a3 => first | k_is | rfl)
    (case l3 => first | k_is | rfl)
    (case c3 => first | k_is | rfl)
    (case k3 => first | k_is | rfl)
    (case a4 => first | k_is | rfl)
    (case l4 => first | k_is | rfl)
    (case c4 => first | k_is | rfl)
    (case k4 => first | k_is | rfl)
    (case a5 => first | k_is | rfl)
    (case l5 => first | k_is | rfl)
    (case c5 => first | k_is | rfl)
    (case k5 => first | k_is | rfl)
    (case z_len => first | k_is | rfl)
    (case z_isinstance => first | k_is | rfl)
    (case z_repr => first | k_is | rfl)
    (case z_range => first | k_is | rfl)
    (case z_max => first | k_is | rfl)
    (case z_min => first | k_is | rfl)
    (case z_enumerate => first | k_is | rfl)
    (case z_ValueError => first | k_is | rfl)
    (case z_KeyError => first | k_is | rfl)
    (case z_RuntimeError => first | k_is | rfl)
