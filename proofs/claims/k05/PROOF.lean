import PyProof.Rows.All
import Wide.All
import OpenK.AllK
import Wide.FinOn
import PyProof.EqAt
import PyProof.EqKinds
import PyProof.TupleCall
import HandS.ForMost
import HandS.IsInst
import HandS.Wide
import HandS.TupLe
import HandS.Style
import HandS.TupAny
import HandS.Walk
import HandS.ForExc
import HandS.ExcInit
import HandS.ExcField
import HandS.ExcIs
import HandS.TryMany
import PyProof.ReprRoads
import HandS.Codes
import HandS.ReplaceList
import HandS.StrSplit
import HandS.ReplaceDef
import HandS.ReplaceLit
import HandS.FStr
import HandS.StrMore
import HandS.Lambda
import HandS.TryOnly
import KE.DataEq
import OpenK.KMeth
import OpenK.KOps
import HandS.More
import HandS.SlotsOwn
import HandS.SetFor
import HandS.Zip
import PyProof.Rows.SortStr
import PyProof.Rows.SortShellK
import HandS.Strs
import PyProof.StrLawsRepr
import KE.KRevSl
import HandS.SetBool
import HandS.DictComp
import PySem.Challenge.RW_tombkeeper_k05_contents_told
import HandS.Defaults
import HandS.Iter
import HandS.SortOrd
import HandS.SortRule
import PyProof.Rows.SortKeyStr
import HandS.MakeKw
import HandS.MakeKwOnly
import KE.KExcIs
import KE.KExcInit
import HandS.EndTab
import KE.KNestM
import HandS.CallRecv
import HandS.HeadWalk
import HandS.RaiseMore
import PyProof.NeKinds
set_option Elab.async false
set_option linter.all false
set_option maxRecDepth 100000
set_option maxHeartbeats 4000000
namespace Tk
open PySem PySem.Spec PyProof.Rows L2

/-! ### a def that callers may use: its place, its promise -/
structure Cal (P : Program) (w : World) (K : PySem.W.Frag) (mg : Str → Option Value) (base : Heap) (CX : CXT) (k : Nat) (x : Str) (ps : List Str) (sp : Sp) : Prop where
  ex : ∃ (f : Addr) (fd : FuncData), mg x = some (.ref f) ∧ PySem.W.keepIn K (.ref f) = true ∧ Binds K fd ps [] ∧ FnOk P w K mg base CX k f fd ps sp
theorem Cal.mono {P : Program} {w : World} {K : PySem.W.Frag} {mg : Str → Option Value} {base : Heap} {CX : CXT} {j k : Nat} {x : Str} {ps : List Str} {sp : Sp} (C : Cal P w K mg base CX j x ps sp) (h : j ≤ k) : Cal P w K mg base CX k x ps sp := by
  obtain ⟨f, fd, hm, hk, hb, F⟩ := C.ex
  exact ⟨f, fd, hm, hk, hb, F.mono h⟩
theorem Cal.of {P : Program} {w : World} {K : PySem.W.Frag} {mg : Str → Option Value} {base : Heap} {CX : CXT} {k : Nat} {x : Str} {ps : List Str} {sp : Sp} {f : Addr} {fd : FuncData} (hm : mg x = some (.ref f)) (hk : PySem.W.keepIn K (.ref f) = true) (hb : Binds K fd ps []) (F : FnOk P w K mg base CX k f fd ps sp) : Cal P w K mg base CX k x ps sp :=
  ⟨f, fd, hm, hk, hb, F⟩
section
variable {X : Cx} {k : Nat} {ps : List Str} {sp : Sp} {CX : CXT} {x : Str} {p pos : Pos} {e : Expr} {es : List Expr} {t : TA} {E : XK}
theorem pe_cal (C : Cal X.prog X.w X.K X.mg X.base CX k x ps sp) (hr : Room k X.A) (hx : Passes CX X E) (ha : PA X (e :: es) t) (hg : Gl X x := by rfl)
    (hdb : (x == ("__debug__" : Str)) = false := by decide) (he : starEach (e :: es) X.env = (false, eval e X.env) :: starEach es X.env := by rfl) (hpl : (backTo pos (starEach es X.env)).any (·.1) = false := by rfl) :
    PE X (.Call (.Name x p) (e :: es) [] pos) (tCall sp [] E t) := by
  obtain ⟨f, fd, hm, hk, hb, F⟩ := C.ex
  exact pe_call F hr hg hm hk hb .nil hx ha hdb he hpl
theorem pe_cal0 (C : Cal X.prog X.w X.K X.mg X.base CX k x ps sp) (hr : Room k X.A) (hx : Passes CX X E) (hg : Gl X x := by rfl)
    (hdb : (x == ("__debug__" : Str)) = false := by decide) :
    PE X (.Call (.Name x p) [] [] pos) (tCall sp [] E tNil) := by
  obtain ⟨f, fd, hm, hk, hb, F⟩ := C.ex
  exact pe_call0 F hr hg hm hk hb .nil hx hdb
end

def AllocL (xs : List V) (H : Hp) (Q : VK) : Prop := xs.length ≤ sizeLine ∧ ∀ p, H p = none → Q (.ref p) (upd H p (.lst xs))
def AllocT (xs : List V) (H : Hp) (Q : VK) : Prop := xs.length ≤ sizeLine ∧ ∀ p, H p = none → Q (.ref p) (upd H p (.tup xs))
/-! ### readings, a construct at a time -/
section
variable {σ : L2.St} {H : Hp} {Q : VK} {D : Ends} {v : V} {i : Nat} {ta tb tc te : TE} {t u : TS} {r : R2} {K : PySem.W.Frag}
theorem r_var (h : σ[i]? = some (some v)) (q : Q v H) : tVar i σ H Q := ⟨v, h, q⟩
theorem r_c (q : Q v H) : tC v σ H Q := q
theorem r_op (h : ta σ H fun x H1 => tb σ H1 fun y H2 => r x y H2 Q) : tOp r ta tb σ H Q := h
theorem r_seq (h : t { D with nx := u D } σ H) : tSeq t u D σ H := h
theorem r_ret (h : te σ H D.rt) : tRet te D σ H := h
theorem r_retN (h : D.rt .non H) : tRetN D σ H := h
theorem r_set (h : te σ H fun x H1 => D.nx (σ.set i (some x)) H1) : tAsg te (gName i) D σ H := h
theorem r_drop (h : te σ H fun _ H1 => D.nx σ H1) : tDrop te D σ H := h
theorem r_next (h : D.nx σ H) : tNext D σ H := h
theorem r_ifS {c : TT} (h : c σ H fun b H1 => if b = true then t D σ H1 else u D σ H1) : tIfS c t u D σ H := h
theorem r_cons {tr : TA} {R : List V → Hp → Prop} (h : ta σ H fun x H1 => tr σ H1 fun xs H2 => R (x :: xs) H2) : tCons ta tr σ H R := h
theorem r_nil {R : List V → Hp → Prop} (h : R [] H) : tNil σ H R := h
theorem r_call {sp : Sp} {E : XK} {a : TA} (h : a σ H fun vs H1 => sp (vs ++ []) H1 Q E) : tCall sp [] E a σ H Q := h
theorem r_cb {f : List V → Hp → VK → Prop} {a : TA} (h : a σ H fun vs H1 => f vs H1 Q) : tCB f a σ H Q := h
theorem r_test {R : Bool → Hp → Prop} (h : te σ H fun x H1 => ∃ k, x = .bl k ∧ R k H1) : tTest te σ H R := h
theorem r_B {R : Bool → Hp → Prop} (h : te σ H fun x H1 => ∃ k, x = .bl k ∧ R k H1) : tB te σ H R := h
theorem r_not {c : TT} {R : Bool → Hp → Prop} (h : c σ H fun b H1 => R (!b) H1) : tNot c σ H R := h
theorem r_and {a b : TT} {R : Bool → Hp → Prop} (h : a σ H fun c H1 => if c = true then b σ H1 R else R false H1) : tAnd a b σ H R := h
theorem r_or {a b : TT} {R : Bool → Hp → Prop} (h : a σ H fun c H1 => if c = true then R true H1 else b σ H1 R) : tOr a b σ H R := h
theorem r_andV (h : ta σ H fun x H1 => ∃ c, x = .bl c ∧ if c = true then tb σ H1 Q else Q (.bl false) H1) : tAndV ta tb σ H Q := h
theorem r_orV (h : ta σ H fun x H1 => ∃ c, x = .bl c ∧ if c = true then Q (.bl true) H1 else tb σ H1 Q) : tOrV ta tb σ H Q := h
theorem r_notV (h : ta σ H fun x H1 => ∃ c, x = .bl c ∧ Q (.bl (!c)) H1) : tNotV ta σ H Q := h
theorem r_if {c : TT} (h : c σ H fun b H1 => if b = true then ta σ H1 Q else tb σ H1 Q) : tIf c ta tb σ H Q := h
theorem r_chain {r' : R2} (h : ta σ H fun x H1 => tb σ H1 fun y H2 => r x y H2 fun z H3 => ∃ k, z = .bl k ∧
    (if k = true then tc σ H3 fun w' H4 => r' y w' H4 Q else Q (.bl false) H3)) : tChain r r' ta tb tc σ H Q := h
/-- a made list, a made tuple: the heap behind is a letter -/
theorem r_lst {a : TA} (h : a σ H fun xs H1 => AllocL xs H1 Q) : tLst a σ H Q := h
theorem r_tup {a : TA} (h : a σ H fun xs H1 => AllocT xs H1 Q) : tTup a σ H Q := h
/-- the bool that a test hands on -/
theorem r_k {b : Bool} {R : Bool → Prop} (h : R b) : ∃ k, V.bl b = V.bl k ∧ R k := ⟨b, rfl, h⟩
theorem r_k2 {b : Bool} {R : Bool → Hp → Prop} (h : R b H) : ∃ k, V.bl b = V.bl k ∧ R k H := ⟨b, rfl, h⟩
theorem r_I0 {g : Int → Int → V} {a b : Int} (h : Q (g a b) H) : rI0 g (.int a) (.int b) H Q := ⟨a, b, rfl, rfl, h⟩
theorem r_I {C : Int → Int → Prop} {g : Int → Int → V} {a b : Int} (c : C a b) (h : Q (g a b) H) : rI C g (.int a) (.int b) H Q := ⟨a, b, rfl, rfl, c, h⟩
end
theorem Same.new {H : Hp} {p : Addr} {o : HO} (h : H p = none) : Same H (upd H p o) := fun a u e => by
  rw [upd_ne (ne_of_none e h)]
  exact e
/-- an object that H does not know may change -/
theorem Same.mut {H H' : Hp} {p : Addr} {o : HO} (e : Same H H') (h : H p = none) : Same H (upd H' p o) := fun a u ha => by
  rw [upd_ne (ne_of_none ha h)]
  exact e a u ha

/-! ### data -/
/- what is read of a value: none, bools, ints, texts, tuples, lists, the empty dict (lists and dicts: as they stand now) -/
mutual
inductive Dd (K : PySem.W.Frag) (H : Hp) : V → PyData → Prop
  | non : Dd K H .non .none
  | bl (b : Bool) : Dd K H (.bl b) (.bool b)
  | int (i : Int) : Dd K H (.int i) (.int i)
  | str (x : Str) : Dd K H (.str x) (.str x)
  | lst {a : Addr} {xs : List V} {ds : List PyData} : H a = some (.lst xs) → DdAll K H xs ds → Dd K H (.ref a) (.list ds)
  | tup {a : Addr} {xs : List V} {ds : List PyData} : H a = some (.tup xs) → DdAll K H xs ds → Dd K H (.ref a) (.tuple ds)
  | dct {a : Addr} : H a = some (.dK []) → Dd K H (.ref a) (.dict [])
inductive DdAll (K : PySem.W.Frag) (H : Hp) : List V → List PyData → Prop
  | nil : DdAll K H [] []
  | cons {v : V} {vs : List V} {d : PyData} {ds : List PyData} : Dd K H v d → DdAll K H vs ds → DdAll K H (v :: vs) (d :: ds)
end
mutual
theorem Dd.same {K : PySem.W.Frag} {H H' : Hp} (s : Same H H') : ∀ (d : PyData) (v : V), Dd K H v d → Dd K H' v d
  | .none, _, h => by cases h; exact .non
  | .bool b, _, h => by cases h; exact .bl b
  | .int i, _, h => by cases h; exact .int i
  | .str x, _, h => by cases h; exact .str x
  | .list ds, _, h => by
    cases h with
    | lst e a => exact .lst (s _ _ e) (DdAll.same s ds _ a)
  | .tuple ds, _, h => by
    cases h with
    | tup e a => exact .tup (s _ _ e) (DdAll.same s ds _ a)
  | .dict _, _, h => by
    cases h with
    | dct e => exact .dct (s _ _ e)
theorem DdAll.same {K : PySem.W.Frag} {H H' : Hp} (s : Same H H') : ∀ (ds : List PyData) (vs : List V), DdAll K H vs ds → DdAll K H' vs ds
  | [], _, h => by cases h; exact .nil
  | d :: ds, _, h => by
    cases h with
    | cons h1 h2 => exact .cons (Dd.same s d _ h1) (DdAll.same s ds _ h2)
end
theorem Dd.same' {K : PySem.W.Frag} {H H' : Hp} {v : V} {d : PyData} (h : Dd K H v d) (s : Same H H') : Dd K H' v d := Dd.same s d v h
theorem DdAll.length {K : PySem.W.Frag} {H : Hp} : ∀ {vs : List V} {ds : List PyData}, DdAll K H vs ds → vs.length = ds.length
  | _, _, .nil => rfl
  | _, _, .cons _ t => by rw [List.length_cons, List.length_cons, DdAll.length t]
/-- the name of its type -/
def tyN : PyData → String
  | .none => "NoneType"
  | .bool _ => "bool"
  | .int _ => "int"
  | .str _ => "str"
  | .list _ => "list"
  | .tuple _ => "tuple"
  | .dict _ => "dict"
theorem Dd.ty {K : PySem.W.Frag} {H : Hp} {v : V} {d : PyData} (h : Dd K H v d) : TyX K H v (.type (tyN d)) := by
  cases h with
  | non => exact .base .non
  | bl b => exact .base (.bl b)
  | int i => exact .base (.int i)
  | str x => exact .base (.str x)
  | lst e a => exact .base (.lst e)
  | tup e a => exact .base (.tup e)
  | dct e => exact .base (.dK e)
/-- isinstance(x, T) of data -/
def isN (a T : String) : Bool := (kitB a T).getD false
def isOf (d : PyData) (T : String) : Bool := isN (tyN d) T
def TyNames : List String := ["str", "tuple", "int", "bool", "list", "dict"]
theorem kitB_all : ∀ a ∈ ["NoneType", "bool", "int", "str", "list", "tuple", "dict"], ∀ T ∈ TyNames, kitB a T = some (isN a T) := by decide +kernel
theorem isOf_kit {K : PySem.W.Frag} (d : PyData) {T : String} (hT : T ∈ TyNames) : PySem.W.kitOne K (.type (tyN d)) (.type T) = some (isOf d T) :=
  kit_ty (kitB_all (tyN d) (by cases d <;> simp [tyN]) T hT)
theorem isN_str : isN "NoneType" "str" = false ∧ isN "bool" "str" = false ∧ isN "int" "str" = false ∧ isN "str" "str" = true ∧ isN "list" "str" = false ∧ isN "tuple" "str" = false ∧ isN "dict" "str" = false := by decide +kernel
theorem isN_tuple : isN "NoneType" "tuple" = false ∧ isN "bool" "tuple" = false ∧ isN "int" "tuple" = false ∧ isN "str" "tuple" = false ∧ isN "list" "tuple" = false ∧ isN "tuple" "tuple" = true ∧ isN "dict" "tuple" = false := by decide +kernel
theorem isN_int : isN "NoneType" "int" = false ∧ isN "bool" "int" = true ∧ isN "int" "int" = true ∧ isN "str" "int" = false ∧ isN "list" "int" = false ∧ isN "tuple" "int" = false ∧ isN "dict" "int" = false := by decide +kernel
theorem isN_bool : isN "NoneType" "bool" = false ∧ isN "bool" "bool" = true ∧ isN "int" "bool" = false ∧ isN "str" "bool" = false ∧ isN "list" "bool" = false ∧ isN "tuple" "bool" = false ∧ isN "dict" "bool" = false := by decide +kernel
theorem r_isi {K : PySem.W.Frag} {H : Hp} {v : V} {d : PyData} {T : String} {Q : VK} (h : Dd K H v d) (hT : T ∈ TyNames) (q : Q (.bl (isOf d T)) H) : rIsi K [v, .ty T] H Q :=
  ⟨v, .ty T, _, _, _, rfl, .ty T, h.ty, isOf_kit d hT, q⟩
/-! ### repr of bools -/
section
variable {X : Cx}
def reprB (b : Bool) : Str := if b then "True" else "False"
theorem call_repr_bl : CallR X (.builtin "repr") (fun xs H Q => ∃ b, xs = [.bl b] ∧ Q (.str (reprB b)) H) := by
  intro pins s σ H xs us Q I r h
  obtain ⟨b, rfl, q⟩ := h
  obtain ⟨u, rfl, ru⟩ := vals1 r
  obtain rfl : u = Value.bool b := ru
  exact PySem.P.repr_of_bool ⟨.str (reprB b), H, I.tok _, ⟨_, rfl⟩, q⟩
end
theorem reprB_inj {a b : Bool} : decide (V.str (reprB a) = V.str (reprB b)) = (a == b) := by
  cases a <;> cases b <;> decide +kernel
end Tk

set_option Elab.async false
set_option linter.all false
set_option maxRecDepth 100000
set_option maxHeartbeats 4000000
namespace Tk
open PySem PySem.Spec PyProof.Rows L2
/-! ### one rule a sign; its reading says which -/
def rMulS : R2 := fun x y H Q => ∃ z n, x = .str z ∧ y = .int n ∧ MulOk z n ∧ Q (.str (Txt.mul z n)) H
def GAdd (K : PySem.W.Frag) : R2 := fun x y H Q => rI0 (fun i j => .int (i + j)) x y H Q ∨ ((∃ i j, x = .str i ∧ y = .str j ∧ i.length + j.length ≤ sizeLine ∧ Q (.str (i ++ j)) H) ∨ (rCat x y H Q ∨ rCatA K x y H Q))
def GMul : R2 := fun x y H Q => rI CMulW (fun i j => .int (i * j)) x y H Q ∨ (rMulS x y H Q ∨ rRep x y H Q)
/-- any list == [] -/
def rEqNil (K : PySem.W.Frag) : R2 := fun x y H Q => ∃ p q xs, x = .ref p ∧ y = .ref q ∧ SqL K H p xs ∧ SqL K H q [] ∧ Q (.bl xs.isEmpty) H
def GEq (K : PySem.W.Frag) : R2 := fun x y H Q => rEq x y H Q ∨ (rEqD K x y H Q ∨ rEqNil K x y H Q)
def GNe (K : PySem.W.Frag) : R2 := fun x y H Q => rNe x y H Q ∨ rNeD K x y H Q
def sLt : R2 := fun x y H Q => ∃ i j, x = .str i ∧ y = .str j ∧ Q (.bl (decide (i.cps.toList < j.cps.toList))) H
def sLe : R2 := fun x y H Q => ∃ i j, x = .str i ∧ y = .str j ∧ Q (.bl (!decide (j.cps.toList < i.cps.toList))) H
def sGt : R2 := fun x y H Q => ∃ i j, x = .str i ∧ y = .str j ∧ Q (.bl (decide (j.cps.toList < i.cps.toList))) H
def sGe : R2 := fun x y H Q => ∃ i j, x = .str i ∧ y = .str j ∧ Q (.bl (!decide (i.cps.toList < j.cps.toList))) H
def GLt : R2 := fun x y H Q => rI0 (fun i j => .bl (decide (i < j))) x y H Q ∨ sLt x y H Q
def GLe : R2 := fun x y H Q => rI0 (fun i j => .bl (decide (i ≤ j))) x y H Q ∨ sLe x y H Q
def GGt : R2 := fun x y H Q => rI0 (fun i j => .bl (decide (j < i))) x y H Q ∨ sGt x y H Q
def GGe : R2 := fun x y H Q => rI0 (fun i j => .bl (decide (j ≤ i))) x y H Q ∨ sGe x y H Q
def rLen (K : PySem.W.Frag) : List V → Hp → VK → Prop := fun xs H Q => ∃ x n, xs = [x] ∧ LenV K x H n ∧ Q (.int n) H
def rRepr : List V → Hp → VK → Prop := fun xs H Q => ∃ b, xs = [.bl b] ∧ Q (.str (reprB b)) H
def rMax2 : List V → Hp → VK → Prop := fun xs H Q => ∃ i j, xs = [.int i, .int j] ∧ Q (.int (if j > i then j else i)) H
def rMin2 : List V → Hp → VK → Prop := fun xs H Q => ∃ i j, xs = [.int i, .int j] ∧ Q (.int (if j < i then j else i)) H
def rListOf (K : PySem.W.Frag) : List V → Hp → VK → Prop := fun xs H Q => ∃ p ys, xs = [.ref p] ∧ (SqL K H p ys ∨ SqT K H p ys) ∧ ∀ l, H l = none → Q (.ref l) (upd H l (.lst ys))
def rIsN : R2 := fun x y H Q => y = .non ∧ Q (.bl (decide (x = .non))) H
section
variable {X : Cx}
theorem c_len : CallR X (.builtin "len") (rLen X.K) := call_len
theorem c_repr : CallR X (.builtin "repr") rRepr := call_repr_bl
theorem c_max2 (hc : X.calm = true) : CallR X (.builtin "max") rMax2 := call_max2 hc
theorem c_min2 (hc : X.calm = true) : CallR X (.builtin "min") rMin2 := call_min2 hc
theorem c_listOf : CallR X (.type "list") (rListOf X.K) := call_list_of
theorem o_isN : OpR X (compareOp .Is) rIsN := op_isN
theorem op_mul_strI : OpR X (binaryOp .Mult) rMulS := by
  intro pins s σ H x y v u Q I rx ry h
  obtain ⟨z, n, rfl, rfl, hok, q⟩ := h
  obtain ⟨t, rfl⟩ := rx
  obtain ⟨t', rfl⟩ := ry
  exact SB.mul hok fun t2 k => ⟨.str _, H, I.tok _, ⟨_, rfl⟩, q⟩
theorem op_eqNil (hu : X.A.units < cLine) : OpR X (compareOp .Eq) (rEqNil X.K) := by
  intro pins s σ H x y v u Q I rx ry h
  obtain ⟨p, q, xs, rfl, rfl, hp, hq, k⟩ := h
  obtain rfl : v = Value.ref p := rx
  obtain rfl : u = Value.ref q := ry
  obtain ⟨its, r1, l1, _⟩ := I.list hp
  obtain ⟨jts, r2, l2, _⟩ := I.list hq
  cases r2
  cases r1 with
  | nil => exact SeqAt.eq_listAt (e := fun _ => true) l1.isList l2.isList rfl hu (fun j h1 => absurd h1 (Nat.not_lt_zero j)) ⟨.bl true, H, I, rfl, k⟩
  | cons r t => exact SeqAt.eq_list_lengthsAt l1.isList l2.isList (by simp) hu ⟨.bl false, H, I, rfl, k⟩
theorem o_add : OpR X (binaryOp .Add) (GAdd X.K) := OpR.or op_add (OpR.or op_add_str (OpR.or op_cat op_catA))
theorem o_mul : OpR X (binaryOp .Mult) GMul := OpR.or op_mulW (OpR.or op_mul_strI op_rep)
theorem o_fdiv : OpR X (binaryOp .FloorDiv) (rI CDivW fun i j => .int (i / j)) := op_fdivW
theorem o_eq (hu : X.A.units + 64 < cLine) : OpR X (compareOp .Eq) (GEq X.K) := OpR.or op_eq (OpR.or (op_eqD hu) (op_eqNil (Nat.lt_of_le_of_lt (Nat.le_add_right _ _) hu)))
theorem o_ne (hu : X.A.units + 64 < cLine) : OpR X (compareOp .NotEq) (GNe X.K) := OpR.or op_ne (op_neD hu)
theorem o_lt : OpR X (compareOp .Lt) GLt := OpR.or op_lt op_lt_str
theorem o_le : OpR X (compareOp .LtE) GLe := OpR.or op_le op_le_str
theorem o_gt : OpR X (compareOp .Gt) GGt := OpR.or op_gt op_gt_str
theorem o_ge : OpR X (compareOp .GtE) GGe := OpR.or op_ge op_ge_str
theorem o_slice : SlR X (fun x lo hi H Q => rSlL X.K x lo hi H Q ∨ (rSlS x lo hi H Q ∨ rSlA X.K x lo hi H Q)) := SlR.or sl_list (SlR.or sl_str sl_tupA)
end
section
variable {H : Hp} {Q : VK} {K : PySem.W.Frag} {a b : Int} {x y : Str}
theorem g_addI (q : Q (.int (a + b)) H) : GAdd K (.int a) (.int b) H Q := .inl ⟨a, b, rfl, rfl, q⟩
theorem g_addS (hl : x.length + y.length ≤ sizeLine) (q : Q (.str (x ++ y)) H) : GAdd K (.str x) (.str y) H Q := .inr (.inl ⟨x, y, rfl, rfl, hl, q⟩)
theorem g_mulI (hc : CMulW a b) (q : Q (.int (a * b)) H) : GMul (.int a) (.int b) H Q := .inl ⟨a, b, rfl, rfl, hc, q⟩
theorem g_mulS (hc : MulOk x a) (q : Q (.str (Txt.mul x a)) H) : GMul (.str x) (.int a) H Q := .inr (.inl ⟨x, a, rfl, rfl, hc, q⟩)
theorem g_mulB (ha : a.natAbs < 2 ^ 70) (hb : b.natAbs < 2 ^ 70) (q : Q (.int (a * b)) H) : GMul (.int a) (.int b) H Q := g_mulI (wide_mul ha hb (by decide) (by decide) (by decide)) q
theorem r_mod (hb : 0 < b) (q : Q (.int (a % b)) H) : rI (fun _ j => 0 < j) (fun i j => .int (i % j)) (.int a) (.int b) H Q := r_I (C := fun _ j => 0 < j) hb q
theorem r_div (hb : 0 < b) (h2 : b < 2 ^ 60) (q : Q (.int (a / b)) H) : rI CDivW (fun i j => .int (i / j)) (.int a) (.int b) H Q :=
  r_I (C := CDivW) (⟨hb, Nat.lt_of_lt_of_le (PySem.Flt.log2_lt_of (k := 60) (by decide) (by omega)) (by decide)⟩ : CDivW a b) q
theorem g_ltI (q : Q (.bl (decide (a < b))) H) : GLt (.int a) (.int b) H Q := .inl ⟨a, b, rfl, rfl, q⟩
theorem g_leI (q : Q (.bl (decide (a ≤ b))) H) : GLe (.int a) (.int b) H Q := .inl ⟨a, b, rfl, rfl, q⟩
theorem g_gtI (q : Q (.bl (decide (b < a))) H) : GGt (.int a) (.int b) H Q := .inl ⟨a, b, rfl, rfl, q⟩
theorem g_geI (q : Q (.bl (decide (b ≤ a))) H) : GGe (.int a) (.int b) H Q := .inl ⟨a, b, rfl, rfl, q⟩
theorem g_leS (q : Q (.bl (!decide (y.cps.toList < x.cps.toList))) H) : GLe (.str x) (.str y) H Q := .inr ⟨x, y, rfl, rfl, q⟩
theorem g_ltS (q : Q (.bl (decide (x.cps.toList < y.cps.toList))) H) : GLt (.str x) (.str y) H Q := .inr ⟨x, y, rfl, rfl, q⟩
theorem g_eqI (q : Q (.bl (decide (a = b))) H) : GEq K (.int a) (.int b) H Q := .inl ⟨rfl, by rw [dec_int, Bool.beq_eq_decide_eq]; exact q⟩
theorem g_neI (q : Q (.bl (!decide (a = b))) H) : GNe K (.int a) (.int b) H Q := .inl ⟨rfl, by rw [dec_int, Bool.beq_eq_decide_eq]; exact q⟩
theorem g_eqS (q : Q (.bl (decide (x = y))) H) : GEq K (.str x) (.str y) H Q := .inl ⟨rfl, by rw [dec_str, Bool.beq_eq_decide_eq]; exact q⟩
theorem g_neS (q : Q (.bl (!decide (x = y))) H) : GNe K (.str x) (.str y) H Q := .inl ⟨rfl, by rw [dec_str, Bool.beq_eq_decide_eq]; exact q⟩
end
section
variable {H : Hp} {Q : VK} {K : PySem.W.Frag} {p : Addr} {xs : List V} {i k : Int} {v : V} {j : Nat} {σ : L2.St} {D : Ends} {te to ti : TE}
theorem r_ixL (h : H p = some (.lst xs)) (e : atI xs i = some v) (q : Q v H) : rIx K (.ref p) (.int i) H Q := .inl ⟨p, xs, i, v, rfl, rfl, .of h, e, q⟩
theorem r_ixQ (h : SqL K H p xs) (e : atI xs i = some v) (q : Q v H) : rIx K (.ref p) (.int i) H Q := .inl ⟨p, xs, i, v, rfl, rfl, h, e, q⟩
theorem r_ixT (h : H p = some (.tup xs)) (e : atI xs i = some v) (q : Q v H) : rIx K (.ref p) (.int i) H Q := .inr (.inl ⟨p, xs, i, v, rfl, rfl, .of h, e, q⟩)
theorem r_lenS {x : Str} (h : x.length ≤ 100000) (q : Q (.int x.length) H) : rLen K [.str x] H Q := ⟨_, _, rfl, ⟨Nat.le_trans h (by decide), rfl⟩, q⟩
theorem r_lenT (h : H p = some (.tup xs)) (q : Q (.int (xs.length : Nat)) H) : rLen K [.ref p] H Q := ⟨_, _, rfl, .inr ⟨xs, SqT.of h, rfl⟩, q⟩
theorem r_lenQ (h : SqL K H p xs) (q : Q (.int (xs.length : Nat)) H) : rLen K [.ref p] H Q := ⟨_, _, rfl, .inl ⟨xs, h, rfl⟩, q⟩
theorem r_eqNil {q : Addr} (h : H p = some (.lst xs)) (h' : H q = some (.lst [])) (k : Q (.bl xs.isEmpty) H) : GEq K (.ref p) (.ref q) H Q := .inr (.inr ⟨p, q, xs, rfl, rfl, SqL.of h, SqL.of h', k⟩)
theorem r_repr {b : Bool} (q : Q (.str (reprB b)) H) : rRepr [.bl b] H Q := ⟨b, rfl, q⟩
theorem r_max2 {k : Int} (q : Q (.int (if k > i then k else i)) H) : rMax2 [.int i, .int k] H Q := ⟨i, k, rfl, q⟩
theorem r_min2 {k : Int} (q : Q (.int (if k < i then k else i)) H) : rMin2 [.int i, .int k] H Q := ⟨i, k, rfl, q⟩
theorem r_listOfT (h : H p = some (.tup xs)) (q : ∀ l, H l = none → Q (.ref l) (upd H l (.lst xs))) : rListOf K [.ref p] H Q := ⟨p, xs, rfl, .inr (SqT.of h), q⟩
theorem r_isN (q : Q (.bl (decide (v = .non))) H) : rIsN v .non H Q := ⟨rfl, q⟩
theorem r_asg {g : TG} (h : te σ H fun x H1 => g x σ H1 D.nx) : tAsg te g D σ H := h
theorem r_gName {n : Nat} {R : L2.St → Hp → Prop} (q : R (σ.set n (some v)) H) : gName n v σ H R := q
theorem r_gTup {n : Nat} {t : TGs} {R : L2.St → Hp → Prop} (h : H p = some (.tup xs)) (hl : xs.length = n) (q : t xs σ H R) : gTup K n t (.ref p) σ H R := ⟨p, xs, rfl, SqT.of h, hl, q⟩
theorem r_gCons {t : TG} {u : TGs} {ws : List V} {R : L2.St → Hp → Prop} (q : t v σ H fun σ' H' => u ws σ' H' R) : gCons t u (v :: ws) σ H R := ⟨v, ws, rfl, q⟩
theorem r_gNil {R : L2.St → Hp → Prop} (q : R σ H) : gNil [] σ H R := ⟨rfl, q⟩
theorem r_sub {t : TSet} {R : L2.St → Hp → Prop} (h : to σ H fun o H1 => ti σ H1 fun i H2 => t o i v H2 fun H3 => R σ H3) : gSub to ti t v σ H R := h
theorem r_setL {R : Hp → Prop} (h : H p = some (.lst xs)) (e : ixN xs.length k = some j) (q : R (upd H p (.lst (xs.set j v)))) : rSetL (.ref p) (.int k) v H R := ⟨p, xs, k, j, rfl, rfl, h, e, q⟩
theorem r_dec {c A B : Prop} {_i : Decidable c} (h1 : c → A) (h2 : ¬ c → B) : if decide c = true then A else B := by
  by_cases h : c
  · rw [decide_eq_true h]; exact iteT (h1 h)
  · rw [decide_eq_false h]; exact iteF (h2 h)
theorem r_decN {c A B : Prop} {_i : Decidable c} (h1 : ¬ c → A) (h2 : c → B) : if (!decide c) = true then A else B := by
  by_cases h : c
  · rw [decide_eq_true h]; exact iteF (h2 h)
  · rw [decide_eq_false h]; exact iteT (h1 h)
theorem r_bool {b : Bool} {A B : Prop} (h1 : b = true → A) (h2 : b = false → B) : if b = true then A else B := by
  cases b with
  | true => exact iteT (h1 rfl)
  | false => exact iteF (h2 rfl)
end
theorem sz_of {n : Nat} (h : n ≤ 100000) : n ≤ sizeLine := Nat.le_trans h (by decide)
theorem sz_lt {n : Nat} (h : n < 100000) : n < sizeLine := Nat.lt_of_lt_of_le h (by decide)
end Tk

set_option Elab.async false
set_option linter.all false
set_option maxRecDepth 100000
set_option maxHeartbeats 4000000
namespace Tk
open PySem PySem.Spec PyProof.Rows L2
theorem wipe1 (σ : L2.St) (s : Nat) : wipe σ [s] = σ.set s none := rfl
theorem wipe_set (σ : L2.St) (s : Nat) (v : Option V) : wipe ((wipe σ [s]).set s v) [s] = wipe σ [s] := by
  show ((σ.set s none).set s v).set s none = σ.set s none
  rw [List.set_set, List.set_set]
theorem wipe_slot (σ : L2.St) (s : Nat) (v : Option V) : (wipe σ [s]).set s v = σ.set s v := by
  show (σ.set s none).set s v = σ.set s v
  rw [List.set_set]
theorem take_succ_filter {α β : Type} {l : List α} {i : Nat} {x : α} (h : l[i]? = some x) (g : α → Bool) (f : α → β) :
    ((l.take (i + 1)).filter g).map f = ((l.take i).filter g).map f ++ (if g x = true then [f x] else []) := by
  rw [List.take_add_one, h, List.filter_append, List.map_append]
  cases hg : g x <;> simp [hg]
/-- what a comprehension asks, once it is known what it walks -/
def LcG (J : It) (g : TG) (tt : TT) (te : TE) (vs : List Nat) (σ : L2.St) (H1 : Hp) (Q : VK) : Prop := ∀ D, H1 D = none → ∃ W : Nat → Nat → Hp → Prop, (∃ m, W 0 m (upd H1 D (.lst []))) ∧ ∀ i m H, W i m H →
  (J.stop i H ∧ Q (.ref D) H) ∨ (J.go i H ∧ ∃ Nx : Hp → Prop, (∀ H', Nx H' → ∃ m', m' < m ∧ W (i + 1) m' H') ∧ ∀ x H', J.yld i H x H' → g x (wipe σ vs) H' fun σ2 H2 => wipe σ2 vs = wipe σ vs ∧ tt σ2 H2 fun b H3 =>
    if b = true then te σ2 H3 fun y H4 => ∃ acc, H4 D = some (.lst acc) ∧ acc.length < sizeLine ∧ Nx (upd H4 D (.lst (acc ++ [y]))) else Nx H3)
/-- what a for asks -/
def ForG (J : It) (g : TG) (tb : TS) (D : Ends) (σ : L2.St) (H1 : Hp) : Prop := ∃ W : Nat → Nat → L2.St → Hp → Prop, (∃ m, W 0 m σ H1) ∧ ∀ i m σ H, W i m σ H →
  (J.stop i H ∧ D.nx σ H) ∨ (J.go i H ∧ ∃ N : L2.St → Hp → Prop, (∀ σ' H', N σ' H' → ∃ m', m' < m ∧ W (i + 1) m' σ' H') ∧ ∀ x H', J.yld i H x H' → g x σ H' fun σ2 H2 => tb { D with nx := N, ct := N, bk := D.nx } σ2 H2)
section
variable {wi : TI} {g : TG} {tt : TT} {te tl : TE} {ta : TA} {tb : TS} {vs : List Nat} {σ : L2.St} {H : Hp} {Q : VK} {D : Ends} {K : PySem.W.Frag} {R : It → Hp → Prop}
theorem r_lc (h : wi σ H fun J H1 => LcG J g tt te vs σ H1 Q) : tLc wi g tt te vs σ H Q := h
theorem r_for (h : wi σ H fun J H1 => ForG J g tb D σ H1) : tFor wi g tb D σ H := h
theorem r_rng1 (h : ta σ H fun vs H1 => ∃ j : Int, vs = [.int j] ∧ -(2 ^ 62) ≤ j ∧ j < 2 ^ 62 ∧ R (Itr 0 j.toNat) H1) : iRng1 ta σ H R := h
theorem r_j {j lo hi : Int} {P : Int → Prop} (h0 : lo ≤ j) (h1 : j < hi) (q : P j) : ∃ j', [V.int j] = [V.int j'] ∧ lo ≤ j' ∧ j' < hi ∧ P j' := ⟨j, rfl, h0, h1, q⟩
theorem r_iList (h : tl σ H fun x H1 => ∃ a, x = .ref a ∧ (∃ xs, SqL K H1 a xs) ∧ R (Itl K a) H1) : iList K tl σ H R := h
theorem r_iStr (h : te σ H fun v H1 => ∃ x, v = .str x ∧ R (Its x) H1) : iStr te σ H R := h
theorem r_strx {x : Str} {P : Str → Prop} (q : P x) : ∃ y, V.str x = V.str y ∧ P y := ⟨x, rfl, q⟩
theorem r_iTup (h : tl σ H fun x H1 => ∃ a, x = .ref a ∧ (∃ xs, SqT K H1 a xs) ∧ R (Itt K a) H1) : iTup K tl σ H R := h
end
/-- a comprehension that only makes new things: tests and elements told item by item -/
theorem lc_pure {J : It} {G : Hp → Prop} {items : List V} {s : Nat} {tt : TT} {te : TE} {σ : L2.St} {H1 : Hp} {Qd : VK} (w : Walk J items.length G (YAt items)) (hG : ∀ H', Same H1 H' → G H') (hn : items.length ≤ 100000) (gb : V → Bool) (f : V → V)
    (ht : ∀ x ∈ items, ∀ (H2 : Hp) (R : Bool → Hp → Prop), Same H1 H2 → (∀ H3, Same H2 H3 → R (gb x) H3) → tt (σ.set s (some x)) H2 R)
    (he : ∀ x ∈ items, gb x = true → ∀ (H2 : Hp) (R : VK), Same H1 H2 → (∀ H3, Same H2 H3 → R (f x) H3) → te (σ.set s (some x)) H2 R)
    (hd : ∀ (D : Addr) (H' : Hp), H1 D = none → Same H1 H' → H' D = some (.lst ((items.filter gb).map f)) → Qd (.ref D) H') :
    LcG J (gName s) tt te [s] σ H1 Qd := by
  intro D hD
  refine lc_it (Qd := fun H' => Qd (.ref D) H') w (fun i H' => Same H1 H' ∧ H' D = some (.lst (((items.take i).filter gb).map f))) ⟨Same.new hD, by rw [upd_same]; rfl⟩ (fun i H' _ p => hG H' p.1) ?_ (fun H' p => hd D H' hD p.1 (by rw [p.2, List.take_length]))
  rintro i x H2 H2' hi ⟨p1, p2⟩ ⟨rfl, hx⟩
  have hm : x ∈ items := List.mem_of_getElem? hx
  have hl : (((items.take i).filter gb).map f).length ≤ items.length := by
    rw [List.length_map]
    refine Nat.le_trans (List.length_filter_le _ _) ?_
    rw [List.length_take]
    omega
  show wipe ((wipe σ [s]).set s (some x)) [s] = wipe σ [s] ∧ tt ((wipe σ [s]).set s (some x)) H2' _
  refine ⟨wipe_set σ s _, ?_⟩
  rw [wipe_slot]
  refine ht x hm H2' _ p1 fun H3 s3 => ?_
  cases hg : gb x with
  | true =>
    refine iteT ?_
    refine he x hm hg H3 _ (p1.trans s3) fun H4 s4 => ?_
    have e4 := s4 _ _ (s3 _ _ p2)
    refine ⟨_, e4, sz_lt (by have : i < items.length := hi; rw [List.length_map]; have := List.length_filter_le gb (items.take i); rw [List.length_take] at this; omega), ?_⟩
    refine ⟨Same.mut (p1.trans (s3.trans s4)) hD, ?_⟩
    rw [upd_same, take_succ_filter hx, hg, if_pos rfl]
  | false =>
    refine iteF ?_
    refine ⟨p1.trans s3, ?_⟩
    rw [s3 _ _ p2, take_succ_filter hx, hg, if_neg Bool.false_ne_true, List.append_nil]
theorem filt_true {α : Type} (l : List α) : l.filter (fun _ => true) = l := List.filter_eq_self.mpr fun _ _ => rfl
/-- a text's signs as values -/
abbrev signV (c : Nat) : V := .str ⟨#[c]⟩
def codeV : V → Nat
  | .str y => y.cps.getD 0 0
  | _ => 0
theorem codeV_sign (c : Nat) : codeV (signV c) = c := rfl
def signs (z : Str) : List V := z.cps.toList.map signV
theorem walk_signs {z : Str} : Walk (Its z) (signs z).length (fun _ => True) (YAt (signs z)) := by
  have e : (signs z).length = z.cps.size := by unfold signs; rw [List.length_map, Array.length_toList]
  rw [e]
  refine Walk.mono walk_str (fun _ h => h) fun i H x H' hi _ y => ?_
  obtain ⟨h1, c, h2, h3⟩ := y
  refine ⟨h1, ?_⟩
  unfold signs
  rw [List.getElem?_map, Array.getElem?_toList, h2, h3]
  rfl
theorem r_lcStr {s : Nat} {z : Str} {tt : TT} {te : TE} {σ : L2.St} {H : Hp} {Q : VK} (hn : z.length ≤ 100000) (gb : Nat → Bool) (f : V → V)
    (ht : ∀ c ∈ z.cps.toList, ∀ (H2 : Hp) (R : Bool → Hp → Prop), Same H H2 → (∀ H3, Same H2 H3 → R (gb c) H3) → tt (σ.set s (some (signV c))) H2 R)
    (he : ∀ c ∈ z.cps.toList, gb c = true → ∀ (H2 : Hp) (R : VK), Same H H2 → (∀ H3, Same H2 H3 → R (f (signV c)) H3) → te (σ.set s (some (signV c))) H2 R)
    (hd : ∀ (D : Addr) (H' : Hp), H D = none → Same H H' → H' D = some (.lst ((z.cps.toList.filter gb).map fun c => f (signV c))) → Q (.ref D) H') : LcG (Its z) (gName s) tt te [s] σ H Q := by
  have hl : (signs z).length ≤ 100000 := by unfold signs; rw [List.length_map, Array.length_toList]; exact hn
  have inj : ∀ c, gb c = (fun v => match v with | .str y => gb (y.cps.getD 0 0) | _ => false) (signV c) := fun c => rfl
  refine lc_pure (Qd := Q) walk_signs (fun _ _ => trivial) hl (fun v => match v with | .str y => gb (y.cps.getD 0 0) | _ => false) f ?_ ?_ ?_
  · intro x hx H2 R s2 k
    obtain ⟨c, hc, rfl⟩ := List.mem_map.mp hx
    exact ht c hc H2 R s2 k
  · intro x hx hg H2 R s2 k
    obtain ⟨c, hc, rfl⟩ := List.mem_map.mp hx
    exact he c hc hg H2 R s2 k
  · intro D H' h0 s2 e
    refine hd D H' h0 s2 ?_
    rw [e]
    unfold signs
    rw [List.filter_map, List.map_map]
    rfl
/-! ### signs between two -/
theorem sign_le {a c : Nat} : (!decide (([c] : List Nat) < [a])) = decide (a ≤ c) := by
  have h : ([c] : List Nat) < [a] ↔ c < a := by
    constructor
    · intro h
      cases h with
      | cons h => cases h
      | rel h => exact h
    · exact fun h => .rel h
  by_cases q : a ≤ c
  · rw [decide_eq_true q, decide_eq_false (fun z => by have := h.mp z; omega)]; rfl
  · rw [decide_eq_false q, decide_eq_true (h.mpr (by omega))]; rfl
theorem sign_ge {a c : Nat} : (!decide (([a] : List Nat) < [c])) = decide (c ≤ a) := sign_le (a := c) (c := a)
/-- lo <= sign <= hi -/
theorem r_between {s a b c : Nat} {lo hi : Str} {σ : L2.St} {H : Hp} {Q : VK} (hv : σ[s]? = some (some (signV c))) (h1 : lo.cps.toList = [a]) (h2 : hi.cps.toList = [b]) (q : Q (.bl (decide (a ≤ c) && decide (c ≤ b))) H) :
    tChain GLe GLe (tC (.str lo)) (tVar s) (tC (.str hi)) σ H Q := by
  refine ⟨_, hv, g_leS ?_⟩
  refine ⟨_, rfl, ?_⟩
  rw [h1]
  show if (!decide (([c] : List Nat) < [a])) = true then _ else _
  rw [sign_le]
  by_cases k1 : a ≤ c
  · rw [decide_eq_true k1] at q ⊢
    refine iteT (g_leS ?_)
    rw [h2]
    show Q (.bl (!decide (([b] : List Nat) < [c]))) H
    rw [sign_ge]
    exact q
  · rw [decide_eq_false k1] at q ⊢
    exact iteF q
theorem cps_a : (Str.ofString "a").cps.toList = [97] := by decide +kernel
theorem cps_z : (Str.ofString "z").cps.toList = [122] := by decide +kernel
theorem cps_sp : (Str.ofString " ").cps.toList = [32] := by decide +kernel
theorem cps_til : (Str.ofString "~").cps.toList = [126] := by decide +kernel
end Tk

set_option Elab.async false
set_option linter.all false
set_option maxRecDepth 100000
set_option maxHeartbeats 4000000
namespace Tk
open PySem PySem.Spec PyProof.Rows L2
/-! ### words, values, numbers, stamps, entries, as data -/
mutual
def okD : PyData → Prop
  | .str x => x.length ≤ 100000
  | .list xs => xs.length ≤ 100000 ∧ okAll xs
  | .tuple xs => xs.length ≤ 100000 ∧ okAll xs
  | _ => True
def okAll : List PyData → Prop
  | [] => True
  | x :: xs => okD x ∧ okAll xs
end
def lowB (c : Nat) : Bool := decide (97 ≤ c) && decide (c ≤ 122)
def shownB (c : Nat) : Bool := decide (32 ≤ c) && decide (c ≤ 126)
def wordS (x : Str) : Bool := (decide ((1 : Int) ≤ (x.length : Int)) && decide ((x.length : Int) ≤ 8)) && x.cps.toList.all lowB
def valueS (x : Str) : Bool := (!decide ((40 : Int) < (x.length : Int))) && x.cps.toList.all shownB
def wordD : PyData → Bool
  | .str x => wordS x
  | _ => false
def valueD : PyData → Bool
  | .str x => valueS x
  | _ => false
def numD : PyData → Bool
  | .int i => decide (1 ≤ i) && decide (i ≤ 1000000000000000)
  | _ => false
def stampD : PyData → Bool
  | .tuple [a, b] => numD a && wordD b
  | _ => false
def noneD : PyData → Bool
  | .none => true
  | _ => false
def entryD : PyData → Bool
  | .tuple [k, s, v] => wordD k && (stampD s && (noneD v || valueD v))
  | _ => false
/-- a def that tells something of data -/
def spD (K : PySem.W.Frag) (f : PyData → Bool) : Sp := fun vs H Q _ => ∃ (v : V) (d : PyData), vs = [v] ∧ Dd K H v d ∧ okD d ∧ ∀ H', Same H H' → Q (.bl (f d)) H'
theorem spD_len {K : PySem.W.Frag} {f : PyData → Bool} {vs : List V} {H : Hp} {Q : VK} {E : XK} (h : spD K f vs H Q E) : vs.length = 1 := by
  obtain ⟨v, d, rfl, _⟩ := h
  rfl
section
variable {K : PySem.W.Frag} {H : Hp} {Q : VK} {x : Str} {a : Addr} {xs : List V} {A B : Prop} {b : Bool} {v : V}
theorem r_all {bs : List Bool} (h : H a = some (.lst (bs.map V.bl))) (q : Q (.bl (bs.all id)) H) : rAll K [.ref a] H Q := ⟨a, bs, rfl, SqL.of h, q⟩
theorem r_boolN (h1 : b = false → A) (h2 : b = true → B) : if (!b) = true then A else B := by
  cases b with
  | true => exact iteF (h2 rfl)
  | false => exact iteT (h1 rfl)
/-- data stand for isinstance -/
theorem r_isiS {d : PyData} (h : Dd K H v d) (q : Q (.bl (isOf d "str")) H) : rIsi K [v, .ty "str"] H Q := r_isi h (by decide) q
theorem r_isiT {d : PyData} (h : Dd K H v d) (q : Q (.bl (isOf d "tuple")) H) : rIsi K [v, .ty "tuple"] H Q := r_isi h (by decide) q
theorem r_isiI {d : PyData} (h : Dd K H v d) (q : Q (.bl (isOf d "int")) H) : rIsi K [v, .ty "int"] H Q := r_isi h (by decide) q
theorem r_isiB {d : PyData} (h : Dd K H v d) (q : Q (.bl (isOf d "bool")) H) : rIsi K [v, .ty "bool"] H Q := r_isi h (by decide) q
end
/-- a call of a def that tells something of data -/
theorem r_spD {K : PySem.W.Frag} {f : PyData → Bool} {v : V} {d : PyData} {H : Hp} {Q : VK} {E : XK} (h : Dd K H v d) (o : okD d) (q : ∀ H', Same H H' → Q (.bl (f d)) H') : spD K f ([v] ++ []) H Q E := ⟨v, d, rfl, h, o, q⟩
theorem isStr (x : Str) : isOf (.str x) "str" = true := isN_str.2.2.2.1
theorem isTup (x : List PyData) : isOf (.tuple x) "tuple" = true := isN_tuple.2.2.2.2.2.1
theorem isNotStr {d : PyData} (h : ∀ x, d ≠ .str x) : isOf d "str" = false := by
  cases d with
  | str x => exact absurd rfl (h x)
  | none => exact isN_str.1
  | bool _ => exact isN_str.2.1
  | int _ => exact isN_str.2.2.1
  | list _ => exact isN_str.2.2.2.2.1
  | tuple _ => exact isN_str.2.2.2.2.2.1
  | dict _ => exact isN_str.2.2.2.2.2.2
theorem isNotTup {d : PyData} (h : ∀ x, d ≠ .tuple x) : isOf d "tuple" = false := by
  cases d with
  | tuple x => exact absurd rfl (h x)
  | none => exact isN_tuple.1
  | bool _ => exact isN_tuple.2.1
  | int _ => exact isN_tuple.2.2.1
  | str _ => exact isN_tuple.2.2.2.1
  | list _ => exact isN_tuple.2.2.2.2.1
  | dict _ => exact isN_tuple.2.2.2.2.2.2
theorem isInt_or (d : PyData) : (isOf d "int" = true ∧ isOf d "bool" = false ∧ ∃ i, d = .int i) ∨ (isOf d "int" = true ∧ isOf d "bool" = true ∧ ∃ b, d = .bool b) ∨ (isOf d "int" = false ∧ numD d = false) := by
  cases d with
  | int i => exact .inl ⟨isN_int.2.2.1, isN_bool.2.2.1, i, rfl⟩
  | bool b => exact .inr (.inl ⟨isN_int.2.1, isN_bool.2.1, b, rfl⟩)
  | none => exact .inr (.inr ⟨isN_int.1, rfl⟩)
  | str _ => exact .inr (.inr ⟨isN_int.2.2.2.1, rfl⟩)
  | list _ => exact .inr (.inr ⟨isN_int.2.2.2.2.1, rfl⟩)
  | tuple _ => exact .inr (.inr ⟨isN_int.2.2.2.2.2.1, rfl⟩)
  | dict _ => exact .inr (.inr ⟨isN_int.2.2.2.2.2.2, rfl⟩)
theorem all_signs (l : List Nat) (g : Nat → Bool) : (l.map g).all id = l.all g := by rw [List.all_map]; rfl
theorem str_or (d : PyData) : (∃ x, d = .str x) ∨ (∀ x, d ≠ .str x) := by
  cases d with
  | str x => exact .inl ⟨x, rfl⟩
  | _ => exact .inr fun x h => nomatch h
/-- a tuple of data, or none -/
theorem tup_or {K : PySem.W.Frag} {H : Hp} {v : V} {d : PyData} (h : Dd K H v d) : (∃ a xs ds, v = .ref a ∧ d = .tuple ds ∧ H a = some (.tup xs) ∧ DdAll K H xs ds ∧ isOf d "tuple" = true) ∨ (isOf d "tuple" = false ∧ ∀ ds, d ≠ .tuple ds) := by
  cases h with
  | tup e a => exact .inl ⟨_, _, _, rfl, rfl, e, a, isTup _⟩
  | _ => exact .inr ⟨isNotTup (fun x h => nomatch h), (fun x h => nomatch h)⟩
theorem stampD_no {d : PyData} (h : ∀ ds, d ≠ .tuple ds) : stampD d = false := by
  cases d with
  | tuple x => exact absurd rfl (h x)
  | _ => rfl
theorem entryD_no {d : PyData} (h : ∀ ds, d ≠ .tuple ds) : entryD d = false := by
  cases d with
  | tuple x => exact absurd rfl (h x)
  | _ => rfl
theorem stampD_len {ds : List PyData} (h : ¬ ds.length = 2) : stampD (.tuple ds) = false := by
  unfold stampD
  split
  · rename_i e
    cases e
    exact absurd rfl h
  · rfl
theorem entryD_len {ds : List PyData} (h : ¬ ds.length = 3) : entryD (.tuple ds) = false := by
  unfold entryD
  split
  · rename_i e
    cases e
    exact absurd rfl h
  · rfl
theorem all_two {K : PySem.W.Frag} {H : Hp} {xs : List V} {ds : List PyData} (h : DdAll K H xs ds) (e : xs.length = 2) : ∃ v0 v1 d0 d1, xs = [v0, v1] ∧ ds = [d0, d1] ∧ Dd K H v0 d0 ∧ Dd K H v1 d1 := by
  cases h with
  | nil => cases e
  | cons h0 t =>
    cases t with
    | nil => cases e
    | cons h1 t =>
      cases t with
      | nil => exact ⟨_, _, _, _, rfl, rfl, h0, h1⟩
      | cons _ _ => cases e
theorem all_three {K : PySem.W.Frag} {H : Hp} {xs : List V} {ds : List PyData} (h : DdAll K H xs ds) (e : xs.length = 3) : ∃ v0 v1 v2 d0 d1 d2, xs = [v0, v1, v2] ∧ ds = [d0, d1, d2] ∧ Dd K H v0 d0 ∧ Dd K H v1 d1 ∧ Dd K H v2 d2 := by
  cases h with
  | nil => cases e
  | cons h0 t =>
    cases t with
    | nil => cases e
    | cons h1 t =>
      cases t with
      | nil => cases e
      | cons h2 t =>
        cases t with
        | nil => exact ⟨_, _, _, _, _, _, rfl, rfl, h0, h1, h2⟩
        | cons _ _ => cases e
theorem noneD_iff {K : PySem.W.Frag} {H : Hp} {v : V} {d : PyData} (h : Dd K H v d) : decide (v = .non) = noneD d := by
  cases h <;> simp [noneD]
theorem wordD_no {d : PyData} (h : ∀ x, d ≠ .str x) : wordD d = false := by
  cases d with
  | str x => exact absurd rfl (h x)
  | _ => rfl
theorem valueD_no {d : PyData} (h : ∀ x, d ≠ .str x) : valueD d = false := by
  cases d with
  | str x => exact absurd rfl (h x)
  | _ => rfl
end Tk

set_option Elab.async false
set_option linter.all false
set_option maxRecDepth 100000
set_option maxHeartbeats 4000000
namespace Tk
open PySem PySem.Spec PyProof.Rows L2
/-! ### the law's draws: a pool of two numbers -/
def PoolAt (H : Hp) (p : Addr) : Prop := ∃ a b : Int, H p = some (.lst [.int a, .int b]) ∧ 0 ≤ a ∧ 0 ≤ b ∧ b < 2147483648
theorem pool_mk {H : Hp} {p : Addr} {a b : Int} (h0 : 0 ≤ a) (h1 : 0 ≤ b) (h2 : b < 2147483647) : PoolAt (upd H p (.lst [.int a, .int b])) p := ⟨a, b, upd_same, h0, h1, by omega⟩
theorem pool_mk1 {H : Hp} {p : Addr} {a b : Int} (h0 : 0 ≤ a) (h1 : 0 ≤ b) (h2 : b < 2147483648) : PoolAt (upd H p (.lst [.int a, .int b])) p := ⟨a, b, upd_same, h0, h1, h2⟩
/-- something was drawn of the pool at p (and new things made) -/
structure Drawn (p : Addr) (H H' : Hp) : Prop where
  kept : ∀ b o, H b = some o → b ≠ p → H' b = some o
  pool : PoolAt H' p
theorem Drawn.trans {p : Addr} {H H1 H2 : Hp} (a : Drawn p H H1) (b : Drawn p H1 H2) : Drawn p H H2 := ⟨fun c o h n => b.kept c o (a.kept c o h n) n, b.pool⟩
theorem Drawn.same {p : Addr} {H H1 H2 : Hp} (a : Drawn p H H1) (b : Same H1 H2) : Drawn p H H2 := ⟨fun c o h n => b c o (a.kept c o h n), by obtain ⟨x, y, h, r⟩ := a.pool; exact ⟨x, y, b _ _ h, r⟩⟩
theorem Drawn.refl {p : Addr} {H : Hp} (h : PoolAt H p) : Drawn p H H := ⟨fun _ _ h _ => h, h⟩
theorem Drawn.of {p : Addr} {H H' : Hp} (h : PoolAt H p) (s : Same H H') : Drawn p H H' := (Drawn.refl h).same s
theorem PoolAt.same {p : Addr} {H H' : Hp} (h : PoolAt H p) (s : Same H H') : PoolAt H' p := (Drawn.of h s).pool
/-- what stood ahead of the pool stands -/
theorem Drawn.back {p : Addr} {H0 H H' : Hp} (d : Drawn p H H') (s : Same H0 H) (n : H0 p = none) : Same H0 H' := fun b o h => d.kept b o (s b o h) (ne_of_none h n)
theorem PoolAt.ne {p a : Addr} {H : Hp} {xs : List V} (h : PoolAt H p) (e : H a = some (.tup xs)) : a ≠ p := by
  obtain ⟨x, y, h, _⟩ := h
  exact ne_of e h (by intro z; cases z)
theorem Drawn.tup {p a : Addr} {H H' : Hp} {xs : List V} (d : Drawn p H H') (h : PoolAt H p) (e : H a = some (.tup xs)) : H' a = some (.tup xs) := d.kept _ _ e (h.ne e)
/-! ### take -/
def spTake : Sp := fun vs H Q _ => ∃ (p : Addr) (m : Int), vs = [.ref p, .int m] ∧ PoolAt H p ∧ 0 < m ∧ m < 2 ^ 60 ∧ ∀ r H', 0 ≤ r → r < m → Drawn p H H' → Q (.int r) H'
theorem r_take {p : Addr} {m : Int} {H : Hp} {Q : VK} {E : XK} (h : PoolAt H p) (h0 : 0 < m) (h1 : m < 2 ^ 60) (q : ∀ r H', 0 ≤ r → r < m → Drawn p H H' → Q (.int r) H') : spTake ([.ref p, .int m] ++ []) H Q E := ⟨p, m, rfl, h, h0, h1, q⟩
def spPool (K : PySem.W.Frag) : Sp := fun vs H Q _ => ∃ (s : Addr) (ns : List Int) (k : Int), vs = [.ref s, .int k] ∧ SqL K H s (ns.map V.int) ∧ ns.length ≤ 63 ∧ 0 ≤ k ∧ k < 64 ∧ ∀ p H', H p = none → Same H H' → PoolAt H' p → Q (.ref p) H'
theorem spTake_len {vs : List V} {H : Hp} {Q : VK} {E : XK} (h : spTake vs H Q E) : vs.length = 2 := by
  obtain ⟨p, m, rfl, _⟩ := h
  rfl
theorem spPool_len {K : PySem.W.Frag} {vs : List V} {H : Hp} {Q : VK} {E : XK} (h : spPool K vs H Q E) : vs.length = 2 := by
  obtain ⟨p, m, k, rfl, _⟩ := h
  rfl
/-! ### what a written expression gives, as data: only new things are made -/
def EvD (K : PySem.W.Frag) (te : TE) (σ : L2.St) (d : PyData) : Prop := ∀ (H : Hp) (Q : VK), (∀ v H', Same H H' → Dd K H' v d → Q v H') → te σ H Q
def EvDA (K : PySem.W.Frag) (ta : TA) (σ : L2.St) (ds : List PyData) : Prop := ∀ (H : Hp) (Q : List V → Hp → Prop), (∀ vs H', Same H H' → DdAll K H' vs ds → Q vs H') → ta σ H Q
section
variable {K : PySem.W.Frag} {σ : L2.St} {te : TE} {ta : TA} {d : PyData} {ds : List PyData}
theorem ed_int {i : Int} : EvD K (tC (.int i)) σ (.int i) := fun H Q q => q _ H (Same.refl H) (.int i)
theorem ed_str {i : Str} : EvD K (tC (.str i)) σ (.str i) := fun H Q q => q _ H (Same.refl H) (.str i)
theorem ed_bl {i : Bool} : EvD K (tC (.bl i)) σ (.bool i) := fun H Q q => q _ H (Same.refl H) (.bl i)
theorem ed_non : EvD K (tC .non) σ .none := fun H Q q => q _ H (Same.refl H) .non
theorem ed_nil : EvDA K tNil σ [] := fun H Q q => q _ H (Same.refl H) .nil
theorem ed_cons (h : EvD K te σ d) (t : EvDA K ta σ ds) : EvDA K (tCons te ta) σ (d :: ds) := fun H Q q =>
  h H _ fun v H1 s1 dv => t H1 _ fun vs H2 s2 dvs => q _ H2 (s1.trans s2) (.cons (Dd.same s2 d v dv) dvs)
theorem ed_tup (h : EvDA K ta σ ds) (hl : ds.length ≤ 100000) : EvD K (tTup ta) σ (.tuple ds) := fun H Q q =>
  h H _ fun vs H1 s1 dvs => ⟨sz_of (by rw [dvs.length]; exact hl), fun p hp => q _ _ (s1.trans (Same.new hp)) (.tup upd_same (DdAll.same (Same.new hp) ds vs dvs))⟩
theorem ed_lst (h : EvDA K ta σ ds) (hl : ds.length ≤ 100000) : EvD K (tLst ta) σ (.list ds) := fun H Q q =>
  h H _ fun vs H1 s1 dvs => ⟨sz_of (by rw [dvs.length]; exact hl), fun p hp => q _ _ (s1.trans (Same.new hp)) (.lst upd_same (DdAll.same (Same.new hp) ds vs dvs))⟩
theorem ed_dct : EvD K tDNewK σ (.dict []) := fun H Q q => fun p hp => q _ _ (Same.new hp) (.dct upd_same)
theorem ed_neg {i : Int} : EvD K (tUn (rU fun i => .int (-i)) (tC (.int i))) σ (.int (-i)) := fun H Q q => ⟨i, rfl, q _ H (Same.refl H) (.int _)⟩
end
theorem DdAll.append {K : PySem.W.Frag} {H : Hp} : ∀ {vs ws : List V} {ds es : List PyData}, DdAll K H vs ds → DdAll K H ws es → DdAll K H (vs ++ ws) (ds ++ es)
  | _, _, _, _, .nil, b => b
  | _, _, _, _, .cons h t, b => .cons h (DdAll.append t b)
theorem DdAll.mem {K : PySem.W.Frag} {H : Hp} : ∀ {vs : List V} {ds : List PyData} {v : V}, DdAll K H vs ds → okAll ds → v ∈ vs → ∃ d, Dd K H v d ∧ okD d
  | _, _, _, .nil, _, h => by cases h
  | _, _, v, .cons h t, o, m => by
    rcases List.mem_cons.mp m with e | m
    · subst e
      exact ⟨_, h, o.1⟩
    · exact DdAll.mem t o.2 m
/-- a value that needs no heap -/
def Scal (v : V) : Prop := ∃ d, okD d ∧ ∀ K H, Dd K H v d
theorem scal_int (i : Int) : Scal (.int i) := ⟨.int i, trivial, fun _ _ => .int i⟩
theorem scal_bl (i : Bool) : Scal (.bl i) := ⟨.bool i, trivial, fun _ _ => .bl i⟩
theorem scal_non : Scal .non := ⟨.none, trivial, fun _ _ => .non⟩
theorem scal_str (x : Str) (h : x.length ≤ 100000) : Scal (.str x) := ⟨.str x, h, fun _ _ => .str x⟩
theorem PoolAt.ne' {p a : Addr} {H : Hp} (h : PoolAt H p) (e : H a = none) : a ≠ p := by
  obtain ⟨x, y, h, _⟩ := h
  exact (ne_of_none h e).symm
/-- a made list, a made tuple: the heap behind is a letter -/
theorem a_lst {xs : List V} {H : Hp} {Q : VK} (hl : xs.length ≤ 100000) (q : ∀ p H2, H p = none → Same H H2 → H2 p = some (.lst xs) → Q (.ref p) H2) : AllocL xs H Q :=
  ⟨sz_of hl, fun p hp => q p _ hp (Same.new hp) upd_same⟩
theorem a_tup {xs : List V} {H : Hp} {Q : VK} (hl : xs.length ≤ 100000) (q : ∀ p H2, H p = none → Same H H2 → H2 p = some (.tup xs) → Q (.ref p) H2) : AllocT xs H Q :=
  ⟨sz_of hl, fun p hp => q p _ hp (Same.new hp) upd_same⟩
/-- texts of at most n signs -/
def textB (n : Nat) : V → Bool
  | .str x => decide (x.length ≤ n)
  | _ => false
theorem textB_all {n : Nat} {xs : List V} {v : V} (h : xs.all (textB n) = true) (m : v ∈ xs) : ∃ x : Str, v = .str x ∧ x.length ≤ n := by
  have q := List.all_eq_true.mp h v m
  cases v with
  | str x => exact ⟨x, rfl, of_decide_eq_true q⟩
  | _ => cases q
def scalB : V → Bool
  | .non => true
  | .bl _ => true
  | .int _ => true
  | .str x => decide (x.length ≤ 100000)
  | _ => false
theorem scal_of {v : V} (h : scalB v = true) : Scal v := by
  cases v with
  | non => exact scal_non
  | bl b => exact scal_bl b
  | int i => exact scal_int i
  | str x => exact scal_str x (of_decide_eq_true h)
  | _ => cases h
theorem scal_all {xs : List V} {v : V} (h : xs.all scalB = true) (m : v ∈ xs) : Scal v := scal_of (List.all_eq_true.mp h v m)
/-- an item at a drawn place -/
theorem at_drawn {xs : List V} {r : Int} (h0 : 0 ≤ r) (h1 : r < (xs.length : Nat)) : ∃ v, atI xs r = some v ∧ v ∈ xs := by
  obtain ⟨n, rfl⟩ := Int.eq_ofNat_of_zero_le h0
  have hn : n < xs.length := by omega
  exact ⟨xs[n], atI_nat (by simp [hn]), List.getElem_mem hn⟩
theorem r_pow15 {H : Hp} {Q : VK} (q : Q (.int 1000000000000000) H) : rI CPow (fun i j => .int (i ^ j.toNat)) (.int 10) (.int 15) H Q := by
  refine r_I (C := CPow) (⟨by decide, by decide, by decide⟩ : CPow 10 15) ?_
  have e : ((10 : Int) ^ (15 : Int).toNat) = 1000000000000000 := by decide +kernel
  rw [e]
  exact q
theorem r_pow18 {H : Hp} {Q : VK} (q : Q (.int 1000000000000000000) H) : rI CPow (fun i j => .int (i ^ j.toNat)) (.int 10) (.int 18) H Q := by
  refine r_I (C := CPow) (⟨by decide, by decide, by decide⟩ : CPow 10 18) ?_
  have e : ((10 : Int) ^ (18 : Int).toNat) = 1000000000000000000 := by decide +kernel
  rw [e]
  exact q
theorem r_pow6 {H : Hp} {Q : VK} (q : Q (.int 1000000) H) : rI CPow (fun i j => .int (i ^ j.toNat)) (.int 10) (.int 6) H Q := by
  refine r_I (C := CPow) (⟨by decide, by decide, by decide⟩ : CPow 10 6) ?_
  have e : ((10 : Int) ^ (6 : Int).toNat) = 1000000 := by decide +kernel
  rw [e]
  exact q
theorem isEmpty_filter (l : List Nat) (g : Nat → Bool) (f : Nat → V) : ((l.filter fun c => !g c).map f).isEmpty = l.all g := by
  induction l with
  | nil => rfl
  | cons a r ih =>
    rw [List.filter_cons, List.all_cons]
    cases h : g a with
    | true => simpa [h] using ih
    | false => simp
end Tk

set_option Elab.async false
set_option linter.all false
set_option maxRecDepth 100000
set_option maxHeartbeats 4000000
namespace Tk
open PySem PySem.Spec PyProof.Rows L2
/-- a comprehension over a range whose element draws -/
theorem lc_drawn {n s : Nat} {p : Addr} {te : TE} {σ : L2.St} {H1 : Hp} {Qd : VK} (hp : PoolAt H1 p) (hn : n ≤ 100000) (Pv : V → Prop)
    (he : ∀ (i : Nat) (H2 : Hp) (R : VK), i < n → PoolAt H2 p → Drawn p H1 H2 → (∀ v H3, Pv v → Drawn p H2 H3 → R v H3) → te (σ.set s (some (.int (0 + (i : Int))))) H2 R)
    (hd : ∀ (D : Addr) (H' : Hp) (ys : List V), H1 D = none → Drawn p H1 H' → ys.length = n → (∀ y ∈ ys, Pv y) → H' D = some (.lst ys) → Qd (.ref D) H') :
    LcG (Itr 0 n) (gName s) tYes te [s] σ H1 Qd := by
  intro D hD
  have nD : D ≠ p := by
    obtain ⟨a, b, e, _⟩ := hp
    exact (ne_of_none e hD).symm
  refine lc_range (Qd := fun H' => Qd (.ref D) H') (lo := 0) (n := n) (fun i H' => Drawn p H1 H' ∧ ∃ ys : List V, ys.length = i ∧ (∀ y ∈ ys, Pv y) ∧ H' D = some (.lst ys)) ⟨Drawn.of hp (Same.new hD), [], rfl, (fun _ h => by cases h), upd_same⟩ ?_ (fun H' ⟨d, ys, e1, e2, e3⟩ => hd D H' ys hD d e1 e2 e3)
  rintro i H2 hi ⟨d2, ys, e1, e2, e3⟩
  show wipe ((wipe σ [s]).set s (some (V.int (0 + (i : Int))))) [s] = wipe σ [s] ∧ _
  refine ⟨wipe_set σ s _, ?_⟩
  simp only [tYes, reduceIte, wipe_slot]
  refine he i H2 _ hi d2.pool d2 fun v H3 hv d3 => ?_
  have e4 := d3.kept _ _ e3 nD
  refine ⟨ys, e4, sz_lt (by omega), ?_⟩
  have d5 : Drawn p H1 H3 := d2.trans d3
  refine ⟨⟨fun b o h n => by rw [upd_ne (ne_of_none h hD)]; exact d5.kept b o h n, ?_⟩, ys ++ [v], by simp [e1], fun y hy => ?_, upd_same⟩
  · obtain ⟨a, b, e, r⟩ := d5.pool
    exact ⟨a, b, by rw [upd_ne nD.symm]; exact e, r⟩
  · rcases List.mem_append.mp hy with h | h
    · exact e2 y h
    · rw [List.mem_singleton.mp h]; exact hv
theorem strs_of {n : Nat} : ∀ {ys : List V}, (∀ y ∈ ys, ∃ x : Str, y = .str x ∧ x.length ≤ n) → ∃ zs : List Str, ys = zs.map V.str ∧ ∀ z ∈ zs, z.length ≤ n
  | [], _ => ⟨[], rfl, fun _ h => by cases h⟩
  | y :: ys, h => by
    obtain ⟨x, rfl, hx⟩ := h y List.mem_cons_self
    obtain ⟨zs, rfl, hz⟩ := strs_of (ys := ys) fun z hz => h z (List.mem_cons_of_mem _ hz)
    exact ⟨x :: zs, rfl, fun z hz' => by
      rcases List.mem_cons.mp hz' with rfl | h
      · exact hx
      · exact hz z h⟩
theorem sum_le {n : Nat} : ∀ {zs : List Str}, (∀ z ∈ zs, z.length ≤ n) → (zs.map (·.length)).sum ≤ zs.length * n
  | [], _ => by simp
  | z :: zs, h => by
    have h1 := h z List.mem_cons_self
    have h2 := sum_le (zs := zs) fun y hy => h y (List.mem_cons_of_mem _ hy)
    rw [List.map_cons, List.sum_cons, List.length_cons, Nat.succ_mul]
    omega
theorem join_len (sep : Str) (zs : List Str) : (Txt.join sep zs).length = (zs.map (·.length)).sum + (zs.length - 1) * sep.length := size_glued sep zs
def rJoin (K : PySem.W.Frag) : V → List V → Hp → VK → Prop := fun x xs H Q => ∃ a p, ∃ ys : List Str, x = V.str a ∧ xs = [V.ref p] ∧ (SqL K H p (ys.map V.str) ∨ SqT K H p (ys.map V.str)) ∧ (ys.map (·.length)).sum + ys.length * a.length ≤ 16777216 ∧ Q (.str (Txt.join a ys)) H
theorem pe_joinK {X : Cx} {o e : Expr} {to te : TE} {apos pos : Pos} (ho : PE X o to) (he : PE X e te) (hs : starEach [e] X.env = [(false, eval e X.env)] := by rfl) (hbase : attributeBase o "join" X.env (eval o X.env) = eval o X.env := by rfl) (hline : (apos.endLine == pos.line) = true := by rfl) :
    PE X (.Call (.Attribute o "join" apos) [e] [] pos) (tM1 (rJoin X.K) to te) := pe_join ho he hs hbase hline
theorem r_m1 {r : V → List V → Hp → VK → Prop} {to te : TE} {σ : L2.St} {H : Hp} {Q : VK} (h : to σ H fun x H1 => (∃ a, x = .str a) ∧ te σ H1 fun y H2 => r x [y] H2 Q) : tM1 r to te σ H Q := h
theorem r_join {K : PySem.W.Frag} {p : Addr} {zs : List Str} {sep : Str} {H : Hp} {Q : VK} (h : H p = some (.lst (zs.map V.str))) (hz : (zs.map (·.length)).sum + zs.length * sep.length ≤ 16777216) (q : Q (.str (Txt.join sep zs)) H) : rJoin K (.str sep) [.ref p] H Q :=
  ⟨sep, p, zs, rfl, rfl, .inl (SqL.of h), hz, q⟩
/-! ### the rules with the written part said by its letter -/
section
variable {X : Cx} {K : PySem.W.Frag}
theorem k_ix (e : X.K = K := by rfl) : IxR X (rIx K) := by subst e; exact ix_seq
theorem k_add (e : X.K = K := by rfl) : OpR X (binaryOp .Add) (GAdd K) := by subst e; exact o_add
theorem k_eq (hu : X.A.units + 64 < cLine) (e : X.K = K := by rfl) : OpR X (compareOp .Eq) (GEq K) := by subst e; exact o_eq hu
theorem k_ne (hu : X.A.units + 64 < cLine) (e : X.K = K := by rfl) : OpR X (compareOp .NotEq) (GNe K) := by subst e; exact o_ne hu
theorem k_isi (e : X.K = K := by rfl) : CallR X (.builtin "isinstance") (rIsi K) := by subst e; exact call_isi
theorem k_len (e : X.K = K := by rfl) : CallR X (.builtin "len") (rLen K) := by subst e; exact c_len
theorem k_all (hc : X.calm = true) (e : X.K = K := by rfl) : CallR X (.builtin "all") (rAll K) := by subst e; exact cr_all hc
theorem k_any (hc : X.calm = true) (e : X.K = K := by rfl) : CallR X (.builtin "any") (rAny K) := by subst e; exact cr_any hc
theorem k_listOf (e : X.K = K := by rfl) : CallR X (.type "list") (rListOf K) := by subst e; exact c_listOf
def GSlice (K : PySem.W.Frag) : V → Option Int → Option Int → Hp → VK → Prop := fun x lo hi H Q => rSlL K x lo hi H Q ∨ (rSlS x lo hi H Q ∨ rSlA K x lo hi H Q)
theorem k_slice (e : X.K = K := by rfl) : SlR X (GSlice K) := by subst e; exact o_slice
theorem r_sl {r : V → Option Int → Option Int → Hp → VK → Prop} {te : TE} {tl th : TO} {σ : L2.St} {H : Hp} {Q : VK} (h : te σ H fun x H1 => tl σ H1 fun lo H2 => th σ H2 fun hi H3 => r x lo hi H3 Q) : tSl r te tl th σ H Q := h
theorem r_un {r : V → Hp → VK → Prop} {te : TE} {σ : L2.St} {H : Hp} {Q : VK} (h : te σ H fun x H1 => r x H1 Q) : tUn r te σ H Q := h
theorem r_U {g : Int → V} {i : Int} {H : Hp} {Q : VK} (q : Q (g i) H) : rU g (.int i) H Q := ⟨i, rfl, q⟩
theorem g_listOfT {p : Addr} {xs : List V} {H : Hp} {Q : VK} (h : H p = some (.tup xs)) (q : ∀ l H2, H l = none → Same H H2 → H2 l = some (.lst xs) → Q (.ref l) H2) : rListOf K [.ref p] H Q := r_listOfT h fun l hl => q l _ hl (Same.new hl) upd_same
theorem r_noPart {σ : L2.St} {H : Hp} {R : Option Int → Hp → Prop} (h : R none H) : tNoPart σ H R := h
theorem r_part {te : TE} {σ : L2.St} {H : Hp} {R : Option Int → Hp → Prop} (h : te σ H fun x H1 => ∃ i, x = .int i ∧ R (some i) H1) : tPart te σ H R := h
theorem r_inti {i : Int} {P : Int → Prop} (q : P i) : ∃ j, V.int i = V.int j ∧ P j := ⟨i, rfl, q⟩
theorem g_slS {x : Str} {lo hi : Option Int} {H : Hp} {Q : VK} (hx : x.length ≤ 100000) (q : Q (.str (cutS x lo hi)) H) : GSlice K (.str x) lo hi H Q := .inr (.inl ⟨x, rfl, sz_of hx, q⟩)
theorem g_slT {a : Addr} {xs : List V} {n : Nat} {lo hi : Option Int} {H : Hp} {Q : VK} (h : H a = some (.tup xs)) (hn : xs.length = n) (hw : ¬ (HT.sIx n 0 lo = 0 ∧ HT.sIx n n hi = n)) (q : ∀ p H2, H p = none → Same H H2 → H2 p = some (.tup (cutV xs lo hi)) → Q (.ref p) H2) : GSlice K (.ref a) lo hi H Q := by
  subst hn
  exact .inr (.inr ⟨a, xs, rfl, SqT.of h, fun w => absurd w hw, fun _ p hp => q p _ hp (Same.new hp) upd_same⟩)
theorem cutS_len (z : Str) (lo hi : Option Int) : (cutS z lo hi).length ≤ z.length := by
  unfold cutS
  show (List.toArray _).size ≤ z.cps.size
  rw [List.size_toArray, List.length_take, List.length_drop, Array.length_toList]
  omega
theorem k_list {tg l : Expr} {tl : TE} (hl : PE X l tl) (e : X.K = K := by rfl) : PI X tg l (iList K tl) := by subst e; exact pi_list hl
theorem k_tup {tg l : Expr} {tl : TE} (hl : PE X l tl) (e : X.K = K := by rfl) : PI X tg l (iTup K tl) := by subst e; exact pi_tup hl
theorem k_gtup {es : List Expr} {k : Nat} {pos : Pos} {t : TGs} {n : Nat} (hc : X.calm = true) (h : PGs X es t) (e : X.K = K := by rfl) (hn : (assignEach es X.env).length = n := by rfl) (hst : (assignEach es X.env).findIdx? (·.1) = none := by rfl) : PG X (.Tuple es k pos) (gTup K n t) := by subst e; exact pg_tup hc h hn hst
theorem k_joinK {o e' : Expr} {to te : TE} {apos pos : Pos} (ho : PE X o to) (he : PE X e' te) (e : X.K = K := by rfl) (hs : starEach [e'] X.env = [(false, eval e' X.env)] := by rfl) (hbase : attributeBase o "join" X.env (eval o X.env) = eval o X.env := by rfl) (hline : (apos.endLine == pos.line) = true := by rfl) :
    PE X (.Call (.Attribute o "join" apos) [e'] [] pos) (tM1 (rJoin K) to te) := by subst e; exact pe_joinK ho he hs hbase hline
end
def spDraw (Pv : V → Prop) : Sp := fun vs H Q _ => ∃ (p : Addr), vs = [.ref p] ∧ PoolAt H p ∧ ∀ v H', Pv v → Drawn p H H' → Q v H'
theorem spDraw_len {Pv : V → Prop} {vs : List V} {H : Hp} {Q : VK} {E : XK} (h : spDraw Pv vs H Q E) : vs.length = 1 := by
  obtain ⟨p, rfl, _⟩ := h
  rfl
theorem r_draw {Pv : V → Prop} {p : Addr} {H : Hp} {Q : VK} {E : XK} (h : PoolAt H p) (q : ∀ v H', Pv v → Drawn p H H' → Q v H') : spDraw Pv ([.ref p] ++ []) H Q E := ⟨p, rfl, h, q⟩
/-- a text of at most n signs -/
def TextV (n : Nat) (v : V) : Prop := ∃ x : Str, v = .str x ∧ x.length ≤ n
theorem turns_of (m l : Nat) (hm : 1 ≤ m) : ∃ n : Nat, (if (if (m : Int) < (l : Int) then (m : Int) else (l : Int)) > 1 then (if (m : Int) < (l : Int) then (m : Int) else (l : Int)) else 1) = (n : Int) ∧ n ≤ m := by
  by_cases h : (m : Int) < (l : Int)
  · rw [if_pos h]
    by_cases h2 : (m : Int) > 1
    · exact ⟨m, if_pos h2, Nat.le_refl _⟩
    · exact ⟨1, if_neg h2, hm⟩
  · rw [if_neg h]
    by_cases h2 : (l : Int) > 1
    · exact ⟨l, if_pos h2, by omega⟩
    · exact ⟨1, if_neg h2, hm⟩
theorem r_pool {K : PySem.W.Frag} {s : Addr} {ns : List Int} {k : Int} {H : Hp} {Q : VK} {E : XK} (h : SqL K H s (ns.map V.int)) (hl : ns.length ≤ 63) (h0 : 0 ≤ k) (h1 : k < 64) (q : ∀ p H', H p = none → Same H H' → PoolAt H' p → Q (.ref p) H') : spPool K ([.ref s, .int k] ++ []) H Q E :=
  ⟨s, ns, k, rfl, h, hl, h0, h1, q⟩
/-- the law's own promise -/
def spLaw (K : PySem.W.Frag) : Sp := fun vs H Q _ => ∃ (a : Addr) (ns : List Int), vs = [.ref a] ∧ SqL K H a (ns.map V.int) ∧ ns.length ≤ 63 ∧ ∀ H', Q (.bl true) H'
theorem spLaw_len {K : PySem.W.Frag} {vs : List V} {H : Hp} {Q : VK} {E : XK} (h : spLaw K vs H Q E) : vs.length = 1 := by
  obtain ⟨a, ns, rfl, _⟩ := h
  rfl
theorem ev_use {K : PySem.W.Frag} {te : TE} {σ : L2.St} {d : PyData} {H : Hp} {Q : VK} (h : EvD K te σ d) (q : ∀ v H', Same H H' → Dd K H' v d → Q v H') : te σ H Q := h H Q q
theorem g_cat {K : PySem.W.Frag} {v w : V} {ds es : List PyData} {H : Hp} {Q : VK} (h1 : Dd K H v (.list ds)) (h2 : Dd K H w (.list es)) (hl : ds.length + es.length ≤ 100000) (q : ∀ v' H2, Same H H2 → Dd K H2 v' (.list (ds ++ es)) → Q v' H2) : GAdd K v w H Q := by
  cases h1 with
  | lst e1 a1 =>
    cases h2 with
    | lst e2 a2 =>
      exact .inr (.inr (.inl ⟨_, _, _, _, rfl, rfl, e1, e2, sz_of (by rw [a1.length, a2.length]; exact hl), fun p hp => q _ _ (Same.new hp) (.lst upd_same (DdAll.same (Same.new hp) _ _ (a1.append a2)))⟩))
/-- a comprehension over a list of data whose tests all fail -/
theorem lc_none {K : PySem.W.Frag} {T : Addr} {xs : List V} {ds : List PyData} {s : Nat} {tt : TT} {te : TE} {σ : L2.St} {H : Hp} {Q : VK} (e : H T = some (.lst xs)) (al : DdAll K H xs ds) (ok : okAll ds) (hl : ds.length ≤ 100000)
    (ht : ∀ v d, Dd K H v d → okD d → ∀ (H2 : Hp) (R : Bool → Hp → Prop), Same H H2 → (∀ H3, Same H2 H3 → R false H3) → tt (σ.set s (some v)) H2 R)
    (hd : ∀ (D : Addr) (H' : Hp), H D = none → Same H H' → H' D = some (.lst []) → Q (.ref D) H') : LcG (Itl K T) (gName s) tt te [s] σ H Q := by
  refine lc_pure walk_list (fun H' s' => SqL.of (s' _ _ e)) (by rw [al.length]; exact hl) (fun _ => false) (fun v => v) ?_ (fun _ _ h => nomatch h) ?_
  · intro v hv H2 R s2 q
    obtain ⟨d, hd, od⟩ := al.mem ok hv
    exact ht v d hd od H2 R s2 q
  · intro D H' h0 s' e'
    refine hd D H' h0 s' ?_
    rw [e']
    have z : xs.filter (fun _ => false) = [] := List.filter_eq_nil_iff.mpr (fun _ _ h => nomatch h)
    rw [z]
    rfl
/-- a loop over a list of data that only makes new things -/
theorem for_data {K : PySem.W.Frag} {T : Addr} {xs : List V} {g : TG} {tb : TS} {D : Ends} {σ : L2.St} {H : Hp} (e : H T = some (.lst xs)) (Sl : L2.St → Prop) (h0 : Sl σ)
    (hs : ∀ v ∈ xs, ∀ (σ : L2.St) (H2 : Hp), Sl σ → Same H H2 → g v σ H2 fun σ2 H3 => tb { D with nx := fun σ' H' => Sl σ' ∧ Same H H', ct := fun σ' H' => Sl σ' ∧ Same H H', bk := D.nx } σ2 H3) (hd : ∀ σ H', Sl σ → Same H H' → D.nx σ H') :
    ForG (Itl K T) g tb D σ H := by
  refine for_it walk_list (fun _ σ H' => Sl σ ∧ Same H H') ⟨h0, Same.refl H⟩ (fun i σ H' _ p => SqL.of (p.2 _ _ e)) ?_ (fun σ H' p => hd σ H' p.1 p.2)
  rintro i x σ H2 H2' hi ⟨p1, p2⟩ ⟨rfl, hx⟩
  exact hs x (List.mem_of_getElem? hx) σ _ p1 p2
end Tk

set_option Elab.async false
set_option linter.all false
set_option maxRecDepth 100000
set_option maxHeartbeats 4000000
/-! defs as they are called where no repr runs around them: a promise that may lean on it (repr of lists and tuples asks it) -/
namespace Tk
open PySem PySem.Spec PyProof.Rows L2
structure FnG (P : Program) (w : World) (K : PySem.W.Frag) (mg : Str → Option Value) (base : Heap) (CX : CXT) (k : Nat) (f : Addr) (fd : FuncData) (ps : List Str) (sp : Sp) : Prop where
  arity : ∀ zs H Q E, sp zs H Q E → zs.length = ps.length
  go : ∀ (B : Around) (outs : List Env) (t : Shared) (H : Hp) (ar : Args) (us : List Value) (zs : List V) (Q : VK) (E : XK), B.guards = some [] → Room k B → Env0 P w K mg base B outs t H →
    BindsTo t fd ar (ps.zip us) → Vals zs us → sp zs H Q E → codeAny (model P w) B (.call (.ref f) ar) (CR CX outs P w H t Q E) t
section
variable {P : Program} {w : World} {K : PySem.W.Frag} {mg : Str → Option Value} {base : Heap} {CX : CXT} {j k : Nat} {f : Addr} {fd : FuncData} {ps : List Str} {sp : Sp}
theorem FnG.of (F : FnOk P w K mg base CX k f fd ps sp) : FnG P w K mg base CX k f fd ps sp :=
  ⟨F.len, fun B outs t H ar us zs Q E _ rm => F.run B outs t H ar us zs Q E rm⟩
theorem FnG.mono (F : FnG P w K mg base CX j f fd ps sp) (h : j ≤ k) : FnG P w K mg base CX k f fd ps sp :=
  ⟨F.arity, fun B outs t H ar us zs Q E gd rm => F.go B outs t H ar us zs Q E gd (rm.mono h)⟩
end
structure CalG (P : Program) (w : World) (K : PySem.W.Frag) (mg : Str → Option Value) (base : Heap) (CX : CXT) (k : Nat) (x : Str) (ps : List Str) (sp : Sp) : Prop where
  ex : ∃ (f : Addr) (fd : FuncData), mg x = some (.ref f) ∧ PySem.W.keepIn K (.ref f) = true ∧ Binds K fd ps [] ∧ FnG P w K mg base CX k f fd ps sp
section
variable {P : Program} {w : World} {K : PySem.W.Frag} {mg : Str → Option Value} {base : Heap} {CX : CXT} {j k : Nat} {x : Str} {ps : List Str} {sp : Sp}
theorem CalG.mono (C : CalG P w K mg base CX j x ps sp) (h : j ≤ k) : CalG P w K mg base CX k x ps sp := by
  obtain ⟨f, fd, m1, m2, m3, F⟩ := C.ex
  exact ⟨f, fd, m1, m2, m3, F.mono h⟩
theorem Cal.toG (C : Cal P w K mg base CX k x ps sp) : CalG P w K mg base CX k x ps sp := by
  obtain ⟨f, fd, m1, m2, m3, F⟩ := C.ex
  exact ⟨f, fd, m1, m2, m3, FnG.of F⟩
theorem CalG.of {f : Addr} {fd : FuncData} (m1 : mg x = some (.ref f)) (m2 : PySem.W.keepIn K (.ref f) = true) (m3 : Binds K fd ps []) (F : FnG P w K mg base CX k f fd ps sp) : CalG P w K mg base CX k x ps sp := ⟨f, fd, m1, m2, m3, F⟩
end
/-! ### calls -/
section
variable {X : Cx} {CX : CXT} {k : Nat} {f : Addr} {fd : FuncData} {ps : List Str} {sp : Sp} {E : XK} {x : Str} {p pos : Pos} {e : Expr} {es : List Expr} {t : TA}
theorem goG {pn : List (Addr × Obj)} {σ : L2.St} {H : Hp} {s : Shared} {Q : VK} {us : List Value} {zs : List V} (F : FnG X.prog X.w X.K X.mg X.base CX k f fd ps sp) (gd : X.A.guards = some []) (rm : Room k X.A) (bd : Binds X.K fd ps []) (hE : ∀ u s', Inv X pn σ H s → CX X.stack H s E u s' → X.xe u s')
    (I : Inv X pn σ H s) (rv : Vals zs us) (q : sp zs H Q E) : wpAny (model X.prog X.w) X.A (call (.ref f) us) (EP X pn σ Q) X.xe s := by
  have ar : us.length = ps.length := rv.length.symm.trans (F.arity _ _ _ _ q)
  have b := bd s us I.kIn (by rw [List.append_nil]; exact ar)
  rw [List.append_nil] at b
  refine wpAny_call (codeAny_mono (F.go X.A X.stack s H ⟨us, []⟩ us zs Q E gd rm I.env0 b rv q) ?_)
  rintro (e' | fl) s' hq
  · exact hE _ s' I hq
  · rcases fl with _ | _ | _ | u
    all_goals first | exact I.after hq | exact hq.elim
theorem pe_calg (C : CalG X.prog X.w X.K X.mg X.base CX k x ps sp) (gd : X.A.guards = some []) (rm : Room k X.A) (hx : Passes CX X E) (ha : PA X (e :: es) t) (hg : Gl X x := by rfl)
    (hdb : (x == ("__debug__" : Str)) = false := by decide) (he : starEach (e :: es) X.env = (false, eval e X.env) :: starEach es X.env := by rfl) (hpl : (backTo pos (starEach es X.env)).any (·.1) = false := by rfl) :
    PE X (.Call (.Name x p) (e :: es) [] pos) (tCall sp [] E t) := by
  obtain ⟨f, fd, m1, m2, m3, F⟩ := C.ex
  constructor
  intro pn s σ H Q I h
  refine wpAny_Call_Name_kw (ld_glob I hg m1 ?_ hdb)
  refine PySem.W.callWith_K (h₀ := X.base) I.ok.mod.kin m2 (thn (ha.run pos pn s σ H _ I h) ?_) he hpl
  rintro us s1 ⟨zs, H1, I1, rv, q⟩
  refine ⟨I1.kIn, goG F gd rm m3 (fun u s' I c => hx pn σ H1 s1 u s' I c) I1 rv ?_⟩
  rw [List.append_nil] at q
  exact q
end
/-! ### a def's body -/
section
variable {P : Program} {w : World} {K : PySem.W.Frag} {mg : Str → Option Value} {base : Heap} {CX : CXT} {k : Nat} {f : Addr} {N ps : List Str} {sp : Sp} {nm qn : Str} {prm : Arguments} {bd : List Stmt} {sco : Scope} {u1 u2 u3 u4 u5 u6 u7 : Value} {an od : Option Addr} {osl : Array (Option Value)}
theorem fnG_of (at_f : K.lookup f = some ⟨u7, od, .func (PySem.W.fnOf nm qn prm bd sco u1 u2 u3 u4 an u5 u6), osl⟩) (cd : PySem.W.codeIn K u5 qn = true) (S : FnScope N ps sco) (ary : ∀ zs H Q E, sp zs H Q E → zs.length = ps.length)
    (body : ∀ (B : Around) (outs : List Env) (t : Shared) (H : Hp) (zs : List V) (Q : VK) (E : XK), B.guards = some [] → Room k (B.deeper (envOfC qn sco t.heap.objs.size f u5)) → sp zs H Q E →
      ∃ tr, PSs (cxOf CX P w K mg base N qn sco f u5 B outs t H E) bd tr ∧ tr { nx := fun _ H' => Q .non H', rt := Q } (start N zs) H) :
    FnG P w K mg base CX (k + 1) f (PySem.W.fnOf nm qn prm bd sco u1 u2 u3 u4 an u5 u6) ps sp := by
  constructor
  case arity => exact ary
  intro B outs t H ar us zs Q E gd rm e0 bt rv q
  have len := ary _ _ _ _ q
  have up := fun b o e => (e0.bs b o e).1
  have kin : K.In t.heap := e0.mod.kin.keeps up
  have ndl : t.heap.NoLimit := e0.mod.nolimit.keeps up
  have kd : ∀ y ∈ ps.zip us, sco.names.lookup y.1 = some .local ∨ (sco.names.lookup y.1 = some .cell ∧ ((cellsFrom (t.heap.objs.size + 1) sco.names []).lookup y.1).isSome = true) := by
    rintro ⟨a, b⟩ hy
    cases S.par a (List.of_mem_zip hy).1 with
    | inl z => exact .inl z
    | inr z => exact .inr ⟨z, PySem.W.cellsFrom_some _ _ _ (.inl z)⟩
  refine codeAny_call_function rm.depth (kin _ _ at_f) rfl S.co S.gen rfl (PySem.W.codeRec_of kin cd) (bt _ _ _ _ ?_)
  refine wpAny_newFunctionEnv_cells S.kind kd ?_
  intro ff eq t1 xx
  cases eq
  refine ⟨ndl.keeps xx.toInCall.keep, codeAny_func ?_⟩
  obtain ⟨tr, der, rd⟩ := body B outs t H zs Q E gd (rm.deeper _) q
  have I0 := inv_start (CX := CX) (E := E) S rm.hd e0 len rv xx
  refine wpAny_mono (der.run [] t1 (start N zs) H _ I0 rd) ?_ (fun _ _ z => z)
  intro fl t2 hz
  cases fl with
  | next => obtain ⟨σ', H', J, z⟩ := hz; exact ⟨.non, H', J.os, J.bare, J.base, J.hok, rfl, z⟩
  | ret u => obtain ⟨v, σ', H', J, rr, z⟩ := hz; exact ⟨v, H', J.os, J.bare, J.base, J.hok, rr, z⟩
  | brk => obtain ⟨_, _, _, z⟩ := hz; exact z.elim
  | cont => obtain ⟨_, _, _, z⟩ := hz; exact z.elim
theorem funG {x qual : Str} {st : Stmt} {fd : FuncData} (F : Fun K x qual st f fd) (S : FnScope N ps (defScope st)) (ary : ∀ zs H Q E, sp zs H Q E → zs.length = ps.length)
    (body : ∀ (cdv : Value) (B : Around) (outs : List Env) (t : Shared) (H : Hp) (zs : List V) (Q : VK) (E : XK), B.guards = some [] → Room k (B.deeper (envOfC qual (defScope st) t.heap.objs.size f cdv)) → sp zs H Q E →
      ∃ tr, PSs (cxOf CX P w K mg base N qual (defScope st) f cdv B outs t H E) (defBody st) tr ∧ tr { nx := fun _ H' => Q .non H', rt := Q } (start N zs) H) : FnG P w K mg base CX (k + 1) f fd ps sp := by
  obtain ⟨_, _, _, _, _, _, cdv, _, _, rfl, at_f, cd⟩ := F.ex
  exact fnG_of at_f cd S ary fun B outs t H zs Q E gd rm q => body cdv B outs t H zs Q E gd rm q
/-- where no error leaves it -/
theorem funG0 {x qual : Str} {st : Stmt} {fd : FuncData} (F : Fun K x qual st f fd) (S : FnScope N ps (defScope st)) (ary : ∀ zs H Q E, sp zs H Q E → zs.length = ps.length)
    (body : ∀ (cdv : Value) (B : Around) (outs : List Env) (t : Shared) (H : Hp) (zs : List V) (Q : VK) (E : XK), B.guards = some [] → Room k (B.deeper (envOfC qual (defScope st) t.heap.objs.size f cdv)) → sp zs H Q E →
      ∃ tr, PSs (cxOf CX0 P w K mg base N qual (defScope st) f cdv B outs t H E).nox (defBody st) tr ∧ tr { nx := fun _ H' => Q .non H', rt := Q } (start N zs) H) : FnG P w K mg base CX0 (k + 1) f fd ps sp :=
  funG F S ary fun cdv B outs t H zs Q E gd rm q => by
    obtain ⟨tr, d, r⟩ := body cdv B outs t H zs Q E gd rm q
    exact ⟨tr, d.nox, r⟩
end
/-! ### the law's own call -/
section
variable {P : Program} {w : World} {K : PySem.W.Frag} {mg mb : Str → Option Value} {k : Nat} {fa a : Addr} {fd : FuncData} {x : Str} {t : Shared} {vs : List Value} {ns : List Int}
theorem lawG (kin : K.In t.heap) (n1 : t.heap.Ns mainGlobals mg) (n2 : t.heap.Ns builtinsNs mb) (n3 : ∀ y : Str, y ≠ "__name__" → mb y = bootBuiltins y) (ndl : t.heap.NoLimit) (gz : t.gens = #[])
    (obj : t.heap.get? a = some { cls := .type "list", data := .seq vs.toArray }) (are : IntsAre vs ns) (small : ns.length ≤ 63) (rm : Room k callerA)
    (F : ∀ bh : Heap, K.In bh → bh.Ns mainGlobals mg → FnG P w K mg bh CX0 k fa fd [x] (spLaw K)) (bt : ∀ (s : Shared) (u : Value), BindsTo s fd ⟨[u], []⟩ [(x, u)]) :
    codeAny (model P w) callerA (.call (.ref fa) ⟨[.ref a], []⟩) (fun r s' => r = .ok (.ret (.bool true)) ∧ OldK t.heap s'.heap ∧ s'.os = t.os ∧ AllBare s'.gens) t := by
  have lens := are.length
  have rel := vals_ints are
  have main : ∀ H : Hp, (∀ b, H b = none ∨ (b = a ∧ H b = some (.frz { cls := .type "list", data := .seq vs.toArray } (.lst (ns.map V.int))))) → (H a ≠ none → K.lookup a = none) → SqL K H a (ns.map V.int) →
      codeAny (model P w) callerA (.call (.ref fa) ⟨[.ref a], []⟩) (fun r s' => r = .ok (.ret (.bool true)) ∧ OldK t.heap s'.heap ∧ s'.os = t.os ∧ AllBare s'.gens) t := by
    intro H form free sq
    have hok : HOk P w H t.heap := by
      intro b u e
      rcases form b with z | ⟨rfl, z⟩
      · rw [z] at e; cases e
      · rw [z] at e
        cases e
        exact ⟨obj, by rw [List.length_map]; exact sz_of (by omega), vs, _, rel, obj⟩
    have hide : ∀ {b : Addr} {o : Obj}, t.heap.get? b = some o → H b = none → (hidT t.heap H).get? b = some o := fun e z => hidT_get e z
    have plain : ∀ {b : Addr} {o : Obj} {es : Array DictEntry} {ep : Nat}, t.heap.get? b = some o → o.data = .dict es ep → H b = none := by
      intro b o es ep e dd
      rcases form b with z | ⟨rfl, _⟩
      · exact z
      · rw [obj] at e
        cases e
        exact nomatch dd
    have names : ∀ {b : Addr} {m : Str → Option Value}, t.heap.Ns b m → (hidT t.heap H).Ns b m := by
      rintro b m ⟨o, es, ep, e, dd, rr⟩
      exact ⟨o, es, ep, hide e (plain e dd), dd, rr⟩
    have kin2 : K.In (hidT t.heap H) := by
      intro b o e
      refine hide (kin b o e) ?_
      rcases form b with z | ⟨rfl, z⟩
      · exact z
      · rw [free (by rw [z]; exact fun q => nomatch q)] at e
        cases e
    obtain ⟨mc, c1, c2⟩ := ndl
    have md : Mod K mg (hidT t.heap H) := ⟨kin2, names n1, ⟨mb, names n2, n3⟩, ⟨mc, names c1, c2⟩⟩
    have e0 : Env0 P w K mg (hidT t.heap H) callerA [] t H :=
      { frames := rfl, mod := md, bs := fun b o e => of_hidT e, bsz := Nat.le_of_eq (hidT_size _ _), funs := trivial, frf := (fun _ hb => nomatch hb), hok := hok, bare := .of_eq gz }
    refine codeAny_mono ((F _ kin2 (names n1)).go callerA [] t H ⟨[.ref a], []⟩ [.ref a] [.ref a] (fun v _ => v = .bl true) (fun _ _ _ => False) rfl rm e0 (bt t (.ref a)) (.cons rfl .nil) ⟨a, ns, rfl, sq, small, fun _ => rfl⟩) ?_
    rintro (e' | fl) s' hz
    · exact False.elim hz
    · rcases fl with _ | _ | _ | u
      · exact False.elim hz
      · exact False.elim hz
      · exact False.elim hz
      · obtain ⟨v, H', h1, h2, h3, h4, h5, h6⟩ := hz
        have h6' : v = .bl true := h6
        subst h6'
        obtain rfl : u = Value.bool true := h5
        refine ⟨rfl, OldK.of_keep ?_, h1, h2⟩
        intro b o e
        rcases form b with z | ⟨rfl, z⟩
        · exact h3.keep b o e z (by intro y; cases y) (by intro y; cases y)
        · obtain ⟨y1, _⟩ := h4 b _ (h3.frzs b _ _ z)
          rw [obj] at e
          cases e
          exact y1
  cases lk : K.lookup a with
  | some o =>
    have e := kin a o lk
    rw [obj] at e
    cases e
    exact main (fun _ => none) (fun _ => .inl rfl) (fun z => absurd rfl z) (.inr ⟨_, vs.toArray, _, lk, rfl, rfl, rfl, by rw [List.size_toArray, lens]; exact sz_of (by omega), by simpa using rel⟩)
  | none =>
    refine main (fun b => if b = a then some (.frz { cls := .type "list", data := .seq vs.toArray } (.lst (ns.map V.int))) else none) ?_ (fun _ => lk) (.inl (.inr ⟨_, if_pos rfl⟩))
    intro b
    by_cases z : b = a
    · exact .inr ⟨z, if_pos z⟩
    · exact .inl (if_neg z)
end
theorem walkG {l : PySem.W.OpenLaw} {k : Nat} {q : Program} {loose : List Str} {XP : (Str → Option Value) → Heap → Prop} {YP : World → Heap → Prop} {d : DefRec} {K : Params → PySem.W.Frag} {x : Str} (hn : l.most = some 63) (hdf : d.params.defaults = []) (rm : Room k callerA)
    (hY : ∀ (w : World) (h : Heap), YP w h → (K w.params).In h)
    (F : ∀ (w : World) (mg : Str → Option Value) (fa : Addr) (h : Heap), (K w.params).In h → h.Ns mainGlobals mg → mg d.name = some (.ref fa) →
      ∃ fd : FuncData, (∀ (s : Shared) (u : Value), BindsTo s fd ⟨[u], []⟩ [(x, u)]) ∧ ∀ bh : Heap, (K w.params).In bh → bh.Ns mainGlobals mg → FnG l.prog w (K w.params) mg bh CX0 k fa fd [x] (spLaw (K w.params))) :
    PySem.W.WalkO q loose XP YP l.row.toRowW d [] (fun f vs => PySem.call f vs) := by
  refine Att.attach_call hn hdf ?_
  intro w s₀ t mg mb fa o pm cd doc a vs ns G Y ho hd hcd hmg obj are small gz
  have kin := hY w _ Y
  obtain ⟨fd, bt, FF⟩ := F w mg fa _ kin G.T.g hmg
  exact lawG kin G.T.g G.T.b G.T.builtins G.T.nolimit gz obj are small rm FF bt
end Tk

set_option Elab.async false
set_option linter.all false
set_option maxRecDepth 100000
set_option maxHeartbeats 4000000
/-! repr of data; errors of own classes that store their argument as value -/
namespace Tk
open PySem PySem.Spec PyProof.Rows L2
section
variable {X : Cx} {pn : List (Addr × Obj)} {σ : L2.St} {H : Hp} {s : Shared}
mutual
theorem Dd.reads (I : Inv X pn σ H s) : ∀ (d : PyData) (v : V) (u : Value), Dd X.K H v d → RelV v u → ∃ as, Reads s.heap u d as
  | .none, _, _, h, r => by
    cases h; cases r
    exact ⟨_, Reads.none⟩
  | .bool b, _, _, h, r => by
    cases h; cases r
    exact ⟨_, Reads.bool b⟩
  | .int i, _, _, h, r => by
    cases h
    obtain ⟨t, rfl⟩ := r
    exact ⟨_, Reads.int i t⟩
  | .str x, _, _, h, r => by
    cases h
    obtain ⟨t, rfl⟩ := r
    exact ⟨_, Reads.str x t⟩
  | .list ds, _, _, h, r => by
    cases h with
    | lst e al =>
      cases r
      obtain ⟨its, rv, ⟨o, n, ho, hc, _, hd⟩, _⟩ := I.list (SqL.of e)
      obtain ⟨as, q⟩ := DdAll.reads I ds _ its al rv
      exact ⟨_, Reads.list ho hc hd q⟩
  | .tuple ds, _, _, h, r => by
    cases h with
    | tup e al =>
      cases r
      obtain ⟨its, rv, ⟨o, ho, hc, n, hd⟩, _⟩ := I.tuple (SqT.of e)
      obtain ⟨as, q⟩ := DdAll.reads I ds _ its al rv
      exact ⟨_, Reads.tuple ho hc hd q⟩
  | .dict kvs, _, _, h, r => by
    cases h with
    | dct e =>
      cases r
      obtain ⟨_, _, vs, kv, o, es, ep, h1, h2, h3, h4, h5, h6⟩ := (show ObjOk X.prog X.w H s.heap _ (.dK []) from I.hok _ _ e)
      cases kv
      have z : es.toList = [] := by
        generalize es.toList = l at h5
        cases h5
        rfl
      exact ⟨_, Reads.dict (as := []) (bs := []) h1 h2.1 h3 (by rw [z]; exact .nil) (by rw [z]; exact .nil)⟩
theorem DdAll.reads (I : Inv X pn σ H s) : ∀ (ds : List PyData) (vs : List V) (us : List Value), DdAll X.K H vs ds → Vals vs us → ∃ as, ReadsAll s.heap us ds as
  | [], _, _, h, r => by
    cases h; cases r
    exact ⟨_, ReadsAll.nil⟩
  | d :: ds, _, _, h, r => by
    cases h with
    | cons h1 h2 =>
      cases r with
      | cons r1 r2 =>
        obtain ⟨as, q1⟩ := Dd.reads I d _ _ h1 r1
        obtain ⟨bs, q2⟩ := DdAll.reads I ds _ _ h2 r2
        exact ⟨_, ReadsAll.cons q1 q2⟩
end
end
/-- what repr is asked of -/
structure Shows (d : PyData) : Prop where
  form : d.hasDict = false ∨ d = .dict []
  show_ : d.showable = true
  len : d.shown.length ≤ 1000000
  deep : d.depth ≤ 60
def rReprD (K : PySem.W.Frag) : List V → Hp → VK → Prop := fun xs H Q => ∃ v d, xs = [v] ∧ Dd K H v d ∧ Shows d ∧ Q (.str d.shown) H
theorem r_reprD {K : PySem.W.Frag} {v : V} {d : PyData} {H : Hp} {Q : VK} (h : Dd K H v d) (S : Shows d) (q : Q (.str d.shown) H) : rReprD K [v] H Q := ⟨v, d, rfl, h, S, q⟩
theorem call_reprD {X : Cx} {K : PySem.W.Frag} (gd : X.A.guards = some []) (hu : X.A.units + 64 < cLine) (e : X.K = K := by rfl) : CallR X (.builtin "repr") (rReprD K) := by
  subst e
  intro pn s σ H xs us Q I r h
  obtain ⟨v, d, rfl, hd, S, q⟩ := h
  obtain ⟨u, rfl, ru⟩ := vals1 r
  have hl : d.shown.length ≤ sizeLine := Nat.le_trans S.len (by decide)
  obtain ⟨as, rd⟩ := Dd.reads I d v u hd ru
  have dp := S.deep
  have fin : ∀ a : Addr, Reads s.heap (.ref a) d as → (d.hasDict = true → sysModules ∉ as) → wpAny (model X.prog X.w) X.A (call (.builtin "repr") [.ref a]) (EP X pn σ Q) X.xe s := fun a rd hs =>
    repr_of_reads' rd S.show_ hs gd (by omega) (fun _ _ z => z) (fun h' t tk k => ⟨.str d.shown, H, I.kept (t' := tk) k, ⟨t, rfl⟩, q⟩) hl
  cases hd with
  | non => cases ru; exact PySem.P.repr_of_none ⟨.str _, H, I.tok _, ⟨_, rfl⟩, q⟩
  | bl b =>
    cases ru
    have q' : Q (.str (if b then "True" else "False")) H := q
    exact PySem.P.repr_of_bool ⟨.str _, H, I.tok _, ⟨_, rfl⟩, q'⟩
  | int i =>
    obtain ⟨t, rfl⟩ := ru
    exact PySem.P.repr_of_int (by simpa [PyData.showable] using S.show_) ⟨.str _, H, I.tok _, ⟨_, rfl⟩, q⟩
  | str x =>
    obtain ⟨t, rfl⟩ := ru
    exact PySem.P.repr_of_str ⟨.str _, H, I.tok _, ⟨_, rfl⟩, q⟩ hl
  | lst e al =>
    cases ru
    exact fin _ rd (PyData.noDict_hsm (S.form.resolve_right fun z => nomatch z))
  | tup e al =>
    cases ru
    exact fin _ rd (PyData.noDict_hsm (S.form.resolve_right fun z => nomatch z))
  | dct e =>
    cases ru
    obtain ⟨_, ns, _⟩ := (show ObjOk X.prog X.w H s.heap _ (.dK []) from I.hok _ _ e)
    cases rd with
    | dict h1 h2 h3 h4 h5 =>
      rename_i es ep as1 bs1
      cases h4' : es.toList with
      | nil =>
        rw [h4'] at h4 h5
        cases h4; cases h5
        refine fin _ (.dict h1 h2 h3 (by rw [h4']; exact .nil) (by rw [h4']; exact .nil)) fun _ m => ?_
        rcases List.mem_cons.mp m with z | z
        · rw [← z] at ns; simp at ns
        · cases z
      | cons y ys => rw [h4'] at h4; cases h4
/-! ### own errors with one argument, kept as value -/
structure ExcCls (K : PySem.W.Frag) (mg : Str → Option Value) (x : Str) (C fI : Addr) : Prop where
  gC : mg x = some (.ref C)
  T : OexC K C
  nv : PySem.W.findIn K (.ref C) "value" = some none
  iC : PySem.W.findIn K (.ref C) "__init__" = some (some (.ref fI))
  tI : PySem.W.typeIn K (.ref fI) = some (.type "function")
  xf : XfC K C
  te : PySem.W.exmOne K (.ref C) (.ref C) = some true
theorem exm_own {K : PySem.W.Frag} {C : Addr} (a : PySem.W.subIn K (.ref C) (.type "BaseException") = some true) (b : PySem.W.isClsIn K C = true) (c : PySem.W.typeIn K (.ref C) = some (.type "type")) (d : PySem.W.subIn K (.ref C) (.ref C) = some true) : PySem.W.exmOne K (.ref C) (.ref C) = some true := by
  have b' : (PySem.W.clsIn K C).isSome = true := b
  unfold PySem.W.exmOne PySem.W.kitCls
  simp [a, b', c, d]
abbrev valF (v : V) : List (Str × V) := [(("value" : Str), v)]
def spIni (K : PySem.W.Frag) (C : Addr) : Sp := fun vs H Q _ => ∃ (a : Addr) (v : V), vs = [.ref a, v] ∧ H a = some (exo a C none) ∧ ∀ dx, H dx = none → dx ≠ a → Q .non (upd (upd H dx (exd dx (valF v))) a (exo a C (some dx)))
structure ExcR (P : Program) (w : World) (K : PySem.W.Frag) (mg : Str → Option Value) (base : Heap) (x : Str) (C : Addr) : Prop where
  cls : ∃ (fI : Addr) (fd : FuncData), ExcCls K mg x C fI ∧ Binds K fd ["self", "value"] [] ∧ FnOk P w K mg base CX0 1 fI fd ["self", "value"] (spIni K C)
theorem ok_ini {P : Program} {w : World} {K : PySem.W.Frag} {mg : Str → Option Value} {base : Heap} {st : Stmt} {q : Str} {f C : Addr} {fd : FuncData} (F : Fun K "__init__" q st f fd) (sc : FnScope ["self", "value"] ["self", "value"] (defScope st))
    (hb : ∃ p1 p2 p3 p4, defBody st = [.Assign [.Attribute (.Name "self" p1) "value" p2] (.Name "value" p3) p4]) (T : OexC K C) (nv : PySem.W.findIn K (.ref C) "value" = some none) : FnOk P w K mg base CX0 1 f fd ["self", "value"] (spIni K C) := by
  refine F.ok sc (fun vs H Q E h => ?_) (fun cdv A outer s H vs Q E hr h => ?_)
  · obtain ⟨a, v, rfl, _⟩ := h
    rfl
  · obtain ⟨a, v, rfl, ha, k⟩ := h
    obtain ⟨p1, p2, p3, p4, eb⟩ := hb
    rw [eb]
    have v0 : Vis (defScope st) "self" := (sc.par "self" (by simp)).elim Or.inl fun z => Or.inr (Or.inl z)
    have v1 : Vis (defScope st) "value" := (sc.par "value" (by simp)).elim Or.inl fun z => Or.inr (Or.inl z)
    refine ⟨_, pss_one (ps_ost (pv 0 rfl v0) (pv 1 rfl v1)), ?_⟩
    exact ⟨_, rfl, _, rfl, a, C, rfl, T, nv, .inl ⟨ha, fun dx hd hn => k dx hd hn⟩⟩
/-- what is wished where such an error is made -/
def MkG (K : PySem.W.Frag) (C : Addr) (v : V) (H1 : Hp) (R : XK) : Prop := [v].length ≤ 1000 ∧ ∀ a, H1 a = none → spIni K C (.ref a :: ([v] ++ [])) (upd H1 a (exo a C none))
  (fun z H2 => z = .non ∧ ∃ (d : Addr) (fs : List (Str × V)), H2 a = some (exo a C (some d)) ∧ H2 d = some (exd d fs) ∧ H1 d = none ∧ R (.ref C) (some d) (upd (del H2 a) d (.xd fs))) (fun _ _ _ => False)
theorem r_mk {K : PySem.W.Frag} {C : Addr} {v : V} {H : Hp} {R : XK} (q : ∀ d H2, H d = none → Same H H2 → H2 d = some (.xd (valF v)) → R (.ref C) (some d) H2) : MkG K C v H R := by
  refine ⟨by simp, fun a ha => ⟨a, v, rfl, upd_same, fun dx hd hn => ⟨rfl, dx, valF v, upd_same, by rw [upd_ne hn, upd_same], ?_, ?_⟩⟩⟩
  · rw [upd_ne hn] at hd
    exact hd
  · rw [upd_ne hn] at hd
    refine q dx _ hd (fun b o e => ?_) upd_same
    have n1 := ne_of_none e hd
    have n2 := ne_of_none e ha
    rw [upd_ne n1, del_ne n2, upd_ne n2, upd_ne n1, upd_ne n2]
    exact e
def tRaiseV (K : PySem.W.Frag) (C : Addr) (W : WX) (te : TE) : TS := fun _ σ H => te σ H fun v H1 => MkG K C v H1 fun cls d H' => W cls d σ H'
theorem ps_raiseV {X : Cx} {K : PySem.W.Frag} {x : Str} {C : Addr} {W : WX} {e : Expr} {te : TE} {p pos pos2 : Pos} (R : ExcR X.prog X.w K X.mg X.base x C) (tk : Takes X W) (hr : Room 2 X.A) (he : PE X e te) (eK : X.K = K := by rfl) (hc : X.calm = true := by rfl) (hg : Gl X x := by rfl)
    (hdb : (x == ("__debug__" : Str)) = false := by decide) (hs : starEach (e :: []) X.env = (false, eval e X.env) :: starEach [] X.env := by rfl) (hpl : (backTo pos (starEach [] X.env)).any (·.1) = false := by rfl) :
    PS X (.Raise (some (.Call (.Name x p) [e] [] pos)) none pos2) (tRaiseV K C W te) := by
  subst eK
  obtain ⟨fI, fd, c, b, F1⟩ := R.cls
  exact ps_raise hc tk (pmk_oex (p := p) c.T c.iC c.tI F1 hr b .nil pass0 hg c.gC (pa_cons he pa_nil hs) hdb hs hpl)
theorem r_raise {K : PySem.W.Frag} {C : Addr} {W : WX} {te : TE} {D : Ends} {σ : L2.St} {H : Hp} (h : te σ H fun v H1 => MkG K C v H1 fun cls d H' => W cls d σ H') : tRaiseV K C W te D σ H := h
/-! ### isinstance of the caught error, where it is one -/
section
open PySem.W
variable {prog : Program} {w : World} {A : Around} {E : Value → Shared → Prop} {Q : Value → Shared → Prop} {s : Shared} {K : PySem.W.Frag} {x D : Addr} {ox : Obj} {od : Option Obj} {c : Value}
theorem isi_yes (X : K.In s.heap) (I : InstAt s.heap x ox D od) (ht : ∀ h : Heap, K.In h → Looks (model prog w) h (typeOf c) (.type "type")) (hi : ∀ h : Heap, K.In h → Looks (model prog w) h (isType c) true) (hs : subIn K (.ref D) c = some true) (q : Q (.bool true) s) :
    wpAny (model prog w) A (call (.builtin "isinstance") [.ref x, c]) Q E s := by
  refine PyProof.Rows.call_isinstance_of ?_ (fun z => nomatch z)
  unfold Builtin.«isinstance.nested»
  have L0 := I.type (M := model prog w)
  refine wpAny_bind (m := typeOf (.ref x)) (L0.at ?_)
  show wpAny _ _ (if (Value.ref D == c) = true then _ else _) _ _ s
  by_cases he : (Value.ref D == c) = true
  · rw [if_pos he]
    repeat (first | refine wpAny_pure ?_ | refine wpAny_rule ?_ | refine wpAny_bind ?_)
    exact q
  · rw [if_neg he]
    refine wpAny_bind (m := typeOf c) ((ht _ X).at ?_)
    show wpAny _ _ (if (Value.type "type" == Value.type "type") = true then _ else _) _ _ s
    rw [if_pos (by decide)]
    refine wpAny_bind (wpAny_bind (m := isType c) ((hi _ X).at ?_))
    have L9 : Looks (model prog w) s.heap (isInstance (.ref x) c) true := L0.andThen (looks_subIn X hs)
    refine wpAny_bind (m := isInstance (.ref x) c) (L9.at ?_)
    exact wpAny_pure (a := true) (wpAny_pure q)
theorem isType_ref {C : Addr} (hd : hasDictIn K C = true) (h : Heap) (X : K.In h) : Looks (model prog w) h (isType (.ref C)) true := by
  obtain ⟨cd, hc, _⟩ := any_some hd
  unfold clsIn at hc
  split at hc
  · rename_i c' d' cd' sl' ho
    intro A' Q' E' s' k q
    unfold isType
    unfold loadHead
    exact wpAny_bind (wpAny_loadPart (k _ _ (X _ _ ho)) (wpAny_pure q))
  · cases hc
end
/-- isinstance(e, c) is True -/
def rIsE1 (K : PySem.W.Frag) (D a : Addr) (dd : Addr) : List V → Hp → VK → Prop := fun xs H Q => ∃ (c : V) (cv : Value) (fs : List (Str × V)), xs = [.ref a, c] ∧ H dd = some (.xd fs) ∧ (∀ u, RelV c u → u = cv) ∧
  (PySem.W.typeIn K cv = some (.type "type") ∨ typeOf cv = pure (.type "type")) ∧ ((∃ n, cv = .type n) ∨ ∃ C, cv = .ref C ∧ PySem.W.hasDictIn K C = true) ∧ PySem.W.subIn K (.ref D) cv = some true ∧ Q (.bl true) H
theorem call_isE1 {X : Cx} {K : PySem.W.Frag} {a D dd : Addr} {oe : Obj} {pn : List (Addr × Obj)} (hz : Zc (.ref D) (some dd) oe) (hf : ∃ vs, oe.data = .fields vs) (eK : X.K = K := by rfl) : CallR (X.suite a ((a, oe) :: pn)) (.builtin "isinstance") (rIsE1 K D a dd) := by
  subst eK
  intro pins s σ H xs us Q I r h
  obtain ⟨c, cv, fs, rfl, hx, hcv, ht, hk, hs, q⟩ := h
  obtain ⟨u1, u2, rfl, r1, r2⟩ := vals2 r
  cases r1
  obtain rfl := hcv _ r2
  obtain ⟨hget, _⟩ := I.pin (a, oe) (List.mem_append.mpr (.inl List.mem_cons_self))
  obtain ⟨vs, hv⟩ := hf
  obtain ⟨mA, hns, _⟩ := (show ObjOk X.prog X.w H s.heap dd (.xd fs) from I.hok dd _ hx)
  obtain ⟨od, ho, _⟩ := lookIn_ns hns
  have J : PySem.W.InstAt s.heap a oe D (some od) := ⟨hget, hz.1, by unfold PySem.W.notCls; rw [hv] <;> rfl, by rw [hz.2]; exact ho⟩
  refine isi_yes I.kIn J (fun h Xh => ht.elim (fun e => PySem.W.looks_typeIn Xh e) fun e => PySem.W.Looks.of_pure e) ?_ hs ⟨.bl true, H, I, rfl, q⟩
  rcases hk with ⟨n, rfl⟩ | ⟨C, rfl, hd⟩
  · exact fun _ _ => PySem.W.Looks.of_pure rfl
  · exact isType_ref hd
end Tk

set_option Elab.async false
set_option linter.all false
set_option maxRecDepth 100000
set_option maxHeartbeats 4000000
/-! an entry as text: what is written is read back, and nothing else is -/
namespace TkM
open PySem PySem.StrLaws PySem.Builtin.Str SX
open TL (spl par joinL numL)
def esc (v : List Nat) : List Nat := v.flatMap fun c => if c = 92 ∨ c = 34 then [92, c] else [c]
def esc1 (v : List Nat) : List Nat := v.flatMap fun c => if c = 92 then [92, 92] else [c]
theorem esc_cons (c : Nat) (v : List Nat) : esc (c :: v) = (if c = 92 ∨ c = 34 then [92, c] else [c]) ++ esc v := by
  unfold esc
  rw [List.flatMap_cons]
theorem esc1_cons (c : Nat) (v : List Nat) : esc1 (c :: v) = (if c = 92 then [92, 92] else [c]) ++ esc1 v := by
  unfold esc1
  rw [List.flatMap_cons]
theorem repl1 (a : Nat) (z : List Nat) : ∀ l : List Nat, replL [a] z l = l.flatMap fun c => if c = a then z else [c]
  | [] => by rw [replL_nil]; rfl
  | c :: r => by
    rw [List.flatMap_cons]
    by_cases e : c = a
    · subst e
      rw [if_pos rfl, replL_hit (by simp) (by simp), ← repl1 c z r]
      rfl
    · rw [if_neg e, replL_miss (by simp [e]), repl1 a z r]
      rfl
theorem esc_repl (v : List Nat) : replL [34] [92, 34] (replL [92] [92, 92] v) = esc v := by
  rw [repl1, repl1, List.flatMap_assoc]
  unfold esc
  congr 1
  funext c
  by_cases e : c = 92
  · subst e; rfl
  · by_cases e2 : c = 34
    · subst e2; rfl
    · simp [e, e2]
theorem esc_head : ∀ (v : List Nat) (r : List Nat), esc v ≠ 34 :: r
  | [], _ => by intro h; cases h
  | c :: v, r => by
    rw [esc_cons]
    by_cases e : c = 92 ∨ c = 34
    · rw [if_pos e]
      intro h
      injection h with h1 _
      omega
    · rw [if_neg e]
      intro h
      injection h with h1 _
      omega
theorem back1 : ∀ v : List Nat, replL [92, 34] [34] (esc v) = esc1 v
  | [] => replL_nil
  | c :: v => by
    have ih := back1 v
    rw [esc_cons, esc1_cons]
    by_cases e : c = 92
    · subst e
      rw [if_pos (.inl rfl), if_pos rfl]
      show replL [92, 34] [34] (92 :: 92 :: esc v) = 92 :: 92 :: esc1 v
      rw [replL_miss (by simp), replL_miss, ih]
      intro h
      cases ev : esc v with
      | nil => rw [ev] at h; cases h
      | cons d r =>
        rw [ev] at h
        have h2 : [92, d] = [92, 34] := h
        injection h2 with _ h3
        injection h3 with h4 _
        exact esc_head v r (by rw [ev, h4])
    · by_cases e2 : c = 34
      · subst e2
        rw [if_pos (.inr rfl), if_neg e]
        show replL [92, 34] [34] (92 :: 34 :: esc v) = 34 :: esc1 v
        rw [replL_hit (by simp) (by simp)]
        show [34] ++ replL [92, 34] [34] (esc v) = _
        rw [ih]
        rfl
      · rw [if_neg (by omega), if_neg e]
        show replL [92, 34] [34] (c :: esc v) = c :: esc1 v
        rw [replL_miss (by
          intro h
          have h2 : c = 92 := by
            cases ev : esc v with
            | nil => rw [ev] at h; cases h
            | cons d r =>
              rw [ev] at h
              have h2 : [c, d] = [92, 34] := h
              injection h2
          exact e h2), ih]
theorem back2 : ∀ v : List Nat, replL [92, 92] [92] (esc1 v) = v
  | [] => replL_nil
  | c :: v => by
    have ih := back2 v
    rw [esc1_cons]
    by_cases e : c = 92
    · subst e
      rw [if_pos rfl]
      show replL [92, 92] [92] (92 :: 92 :: esc1 v) = _
      rw [replL_hit (by simp) (by simp)]
      show [92] ++ replL [92, 92] [92] (esc1 v) = _
      rw [ih]
      rfl
    · rw [if_neg e]
      show replL [92, 92] [92] (c :: esc1 v) = c :: v
      rw [replL_miss (by
        intro h
        have h2 : c = 92 := by
          cases ev : esc1 v with
          | nil => rw [ev] at h; cases h
          | cons d r =>
            rw [ev] at h
            have h2 : [c, d] = [92, 92] := h
            injection h2
        exact e h2), ih]
theorem esc_back (v : List Nat) : replL [92, 92] [92] (replL [92, 34] [34] (esc v)) = v := by rw [back1, back2]
/-! ### the careful reader of a value -/
def vr : List Nat → List Nat → Option (List Nat)
  | [], found => some found
  | [c], found => if c = 34 ∨ c = 92 then none else some (found ++ [c])
  | c :: d :: r, found => if c = 34 then none else if c = 92 then (if d = 92 ∨ d = 34 then vr r (found ++ [d]) else none) else vr (d :: r) (found ++ [c])
theorem vr_esc : ∀ (v found : List Nat), vr (esc v) found = some (found ++ v)
  | [], found => by
    show some found = some (found ++ [])
    rw [List.append_nil]
  | c :: v, found => by
    have ih := vr_esc v (found ++ [c])
    rw [List.append_assoc] at ih
    rw [esc_cons]
    by_cases e : c = 92 ∨ c = 34
    · rw [if_pos e]
      show vr (92 :: c :: esc v) found = _
      unfold vr
      rw [if_neg (by decide), if_pos rfl, if_pos e, ih]
      rfl
    · rw [if_neg e]
      show vr (c :: esc v) found = _
      cases ev : esc v with
      | nil =>
        rw [ev] at ih
        unfold vr
        rw [if_neg (by omega)]
        have : v = [] := by
          cases v with
          | nil => rfl
          | cons d v => rw [esc_cons] at ev; split at ev <;> cases ev
        subst this
        rfl
      | cons d r =>
        rw [ev] at ih
        unfold vr
        rw [if_neg (by omega), if_neg (by omega), ih]
        rfl
theorem vr_back : ∀ (n : Nat) (t found w : List Nat), t.length ≤ n → vr t found = some w → ∃ v, w = found ++ v ∧ esc v = t
  | _, [], found, w, _, h => by
    have h2 : some found = some w := h
    injection h2 with h3
    exact ⟨[], by rw [List.append_nil]; exact h3.symm, rfl⟩
  | _, [c], found, w, _, h => by
    unfold vr at h
    by_cases e : c = 34 ∨ c = 92
    · rw [if_pos e] at h; cases h
    · rw [if_neg e] at h
      injection h with h3
      refine ⟨[c], h3.symm, ?_⟩
      rw [esc_cons, if_neg (by omega)]
      rfl
  | n + 1, c :: d :: r, found, w, hl, h => by
    unfold vr at h
    simp only [List.length_cons] at hl
    by_cases e : c = 34
    · rw [if_pos e] at h; cases h
    · rw [if_neg e] at h
      by_cases e2 : c = 92
      · rw [if_pos e2] at h
        by_cases e3 : d = 92 ∨ d = 34
        · rw [if_pos e3] at h
          obtain ⟨v, h1, h2⟩ := vr_back n r _ _ (by omega) h
          refine ⟨d :: v, by rw [h1, List.append_assoc]; rfl, ?_⟩
          rw [esc_cons, if_pos e3, h2, e2]
          rfl
        · rw [if_neg e3] at h; cases h
      · rw [if_neg e2] at h
        obtain ⟨v, h1, h2⟩ := vr_back n (d :: r) _ _ (by simp only [List.length_cons]; omega) h
        refine ⟨c :: v, by rw [h1, List.append_assoc]; rfl, ?_⟩
        rw [esc_cons, if_neg (by omega), h2]
        rfl
  | 0, _ :: _ :: _, _, _, h, _ => by simp at h
/-! ### numbers -/
theorem num_back {a : List Nat} (h : NumText.AllDigits a) (h0 : ∃ c r, a = c :: r ∧ c ≠ 48) : numL (NumText.digitsVal a) = a := by
  obtain ⟨c, r, rfl, h1⟩ := h0
  have hc := h.head
  show (Nat.toDigits 10 (NumText.digitsVal (c :: r))).map Char.toNat = c :: r
  rw [NumText.toDigits_digitsVal r.length (c :: r) rfl h (.inr ⟨c, r, rfl, by omega⟩), List.map_map]
  refine (List.map_congr_left fun d hd => ?_).trans (List.map_id _)
  have := h d hd
  show (Char.ofNat d).toNat = d
  have key : ∀ d : Nat, d < 58 → (Char.ofNat d).toNat = d := by decide
  exact key d (by omega)
theorem numL_head {n : Nat} (h : 1 ≤ n) : ∃ c r, numL n = c :: r ∧ c ≠ 48 := by
  induction n using Nat.strongRecOn with
  | _ n ih =>
    by_cases hn : n < 10
    · rw [TL.numL_lt hn]
      exact ⟨_, _, rfl, by omega⟩
    · rw [TL.numL_step (by omega)]
      obtain ⟨c, r, e, h1⟩ := ih (n / 10) (by omega) (by omega)
      exact ⟨c, r ++ [48 + n % 10], by rw [e]; rfl, h1⟩
end TkM

set_option Elab.async false
set_option linter.all false
set_option maxRecDepth 100000
set_option maxHeartbeats 4000000
/-! split at most twice; numbers as text; an entry read and written -/
namespace TkM
open PySem PySem.StrLaws PySem.Builtin PySem.Builtin.Str SX Tk
open TL (spl par joinL numL tl)
/-! ### occurrences, at most so many -/
theorem occ_most (s sub : Str) (hi most lo : Nat) (hw : 1 ≤ sub.length) : ∀ (m cur : Nat) (p : Array Nat × Nat), ChainG s sub hi lo p.1.toList p.2 → (p.1.size < most → ∀ k, p.2 ≤ k → k < cur → ¬ At s sub hi k) →
    ∃ q : Array Nat × Nat, (forIn (List.range' cur m) p (occBody s sub hi most)).run = q ∧ ChainG s sub hi lo q.1.toList q.2 ∧ (q.1.size < most → ∀ k, q.2 ≤ k → k < cur + m → ¬ At s sub hi k)
  | 0, cur, p, g, no => ⟨p, rfl, g, no⟩
  | m + 1, cur, p, g, no => by
    rw [List.range'_succ, List.forIn_cons, show cur + (m + 1) = cur + 1 + m by omega]
    unfold occBody
    split
    · rename_i c
      obtain ⟨⟨⟨c1, c2⟩, c3⟩, c4⟩ := c
      refine occ_most s sub hi most lo hw m (cur + 1) (p.1.push cur, cur + sub.length) ?_ ?_
      · show ChainG s sub hi lo (p.1.push cur).toList _
        rw [Array.toList_push]
        exact chainG_snoc g c2 ⟨c3, c4⟩ (no c1)
      · intro _ k k1 k2
        have k1' : cur + sub.length ≤ k := k1
        omega
    · rename_i c
      refine occ_most s sub hi most lo hw m (cur + 1) p g ?_
      intro z k k1 k2 at_k
      rcases Nat.lt_or_ge k cur with q | q
      · exact no z k k1 q at_k
      · obtain rfl : k = cur := by omega
        exact c ⟨⟨⟨z, k1⟩, at_k.1⟩, at_k.2⟩
theorem occ_two (x y : Str) (most : Nat) (hw : 1 ≤ y.length) : ∃ f, ChainG x y x.length 0 (occurrences x y 0 x.length most) f ∧ ((occurrences x y 0 x.length most).length < most → ∀ k, f ≤ k → ¬ At x y x.length k) := by
  rw [occ_eq]
  obtain ⟨q, e, g, no⟩ := occ_most x y x.length most 0 hw (x.length + 1 - 0) 0 ((#[] : Array Nat), 0) rfl (fun _ k _ z => by omega)
  refine ⟨q.2, ?_, ?_⟩
  · rw [e]; exact g
  · rw [e]
    intro z k k1 a
    exact no (by rw [← Array.length_toList]; exact z) k k1 (by have := a.1; omega) a
/-- parts, at most three -/
theorem split2_few (x : Str) (c : Nat) : (Txt.splitMax x (S [c]) 2).length ≤ 3 := by
  unfold Txt.splitMax
  split
  · exact Nat.le_add_left 1 2
  · split
    · exact Nat.le_add_left 1 2
    · rw [length_partsBetween]
      have : (occurrences x (S [c]) 0 x.length (limitOf x 2)).length ≤ limitOf x 2 := occ_length_le _ _ _ _ _
      have e : limitOf x 2 = 2 := rfl
      omega
theorem first_at {L : List Nat} {c f : Nat} {p r : List Nat} (x : Str) (ex : x = S L) (hp : c ∉ p) (e : L.drop f = p ++ c :: r) {k : Nat} (k1 : f ≤ k) (at_k : At x (S [c]) x.length k) (no : ∀ j, f ≤ j → j < k → ¬ At x (S [c]) x.length j) : k = f + p.length := by
  subst ex
  have is : ∀ j, At (S L) (S [c]) (S L).length j ↔ L[j]? = some c := subAt_one (S L) c
  have g : ∀ j, L[f + j]? = (p ++ c :: r)[j]? := fun j => by rw [← e, List.getElem?_drop]
  have here : At (S L) (S [c]) (S L).length (f + p.length) := (is _).mpr (by rw [g, List.getElem?_append_right (Nat.le_refl _), Nat.sub_self]; rfl)
  rcases Nat.lt_trichotomy k (f + p.length) with q | q | q
  · have z := (is k).mp at_k
    rw [show k = f + (k - f) by omega, g, List.getElem?_append_left (by omega)] at z
    exact absurd (List.mem_of_getElem? z) hp
  · exact q
  · exact absurd here (no _ (by omega) q)
theorem split2 {p q r : List Nat} {c : Nat} (hc : c < 256) (hp : c ∉ p) (hq : c ∉ q) : Txt.splitMax (S (p ++ c :: (q ++ c :: r))) (S [c]) 2 = [S p, S q, S r] := by
  obtain ⟨f, g, no⟩ := occ_two (S (p ++ c :: (q ++ c :: r))) (S [c]) 2 (Nat.le_refl _)
  have lim : limitOf (S (p ++ c :: (q ++ c :: r))) 2 = 2 := rfl
  have hl : (S (p ++ c :: (q ++ c :: r))).length = p.length + (q.length + (r.length + 1) + 1) := by rw [S_len]; simp only [List.length_append, List.length_cons]
  have is : ∀ j, At (S (p ++ c :: (q ++ c :: r))) (S [c]) (S (p ++ c :: (q ++ c :: r))).length j ↔ (p ++ c :: (q ++ c :: r))[j]? = some c := subAt_one _ c
  have d1 : (p ++ c :: (q ++ c :: r)).drop (p.length + 1) = q ++ c :: r := by rw [← List.drop_drop, List.drop_left]; rfl
  have d2 : (p ++ c :: (q ++ c :: r)).drop (p.length + 1 + q.length + 1) = r := by rw [← List.drop_drop, ← List.drop_drop, d1, List.drop_left]; rfl
  have a1 : At (S (p ++ c :: (q ++ c :: r))) (S [c]) (S (p ++ c :: (q ++ c :: r))).length p.length := (is _).mpr (by rw [List.getElem?_append_right (Nat.le_refl _), Nat.sub_self]; rfl)
  have a2 : At (S (p ++ c :: (q ++ c :: r))) (S [c]) (S (p ++ c :: (q ++ c :: r))).length (p.length + 1 + q.length) := (is _).mpr (by rw [← List.getElem?_drop, d1, List.getElem?_append_right (Nat.le_refl _), Nat.sub_self]; rfl)
  have key : occurrences (S (p ++ c :: (q ++ c :: r))) (S [c]) 0 (S (p ++ c :: (q ++ c :: r))).length 2 = [p.length, p.length + 1 + q.length] := by
    have few : (occurrences (S (p ++ c :: (q ++ c :: r))) (S [c]) 0 (S (p ++ c :: (q ++ c :: r))).length 2).length ≤ 2 := occ_length_le _ _ _ _ _
    generalize occurrences (S (p ++ c :: (q ++ c :: r))) (S [c]) 0 (S (p ++ c :: (q ++ c :: r))).length 2 = cs at g no few
    match cs, g, no, few with
    | [], g, no, _ =>
      have e : f = 0 := g
      exact absurd a1 (no (by decide) _ (by omega))
    | [b], g, no, _ =>
      obtain ⟨g1, g2, g3, g4⟩ := g
      have e : f = b + 1 := g4
      have eb := first_at (L := p ++ c :: (q ++ c :: r)) (f := 0) (p := p) (r := q ++ c :: r) _ rfl hp rfl g1 g2 g3
      exact absurd a2 (no (by simp) _ (by omega))
    | [b, d], g, no, _ =>
      obtain ⟨g1, g2, g3, g4, g5, g6, g7⟩ := g
      have eb := first_at (L := p ++ c :: (q ++ c :: r)) (f := 0) (p := p) (r := q ++ c :: r) _ rfl hp rfl g1 g2 g3
      have e0 : b + (S [c]).length = p.length + 1 := by rw [eb]; show 0 + p.length + 1 = _; omega
      rw [e0] at g4 g6
      have ed := first_at (L := p ++ c :: (q ++ c :: r)) (f := p.length + 1) (p := q) (r := r) _ rfl hq d1 g4 g5 g6
      rw [eb, ed, Nat.zero_add]
    | _ :: _ :: _ :: _, _, _, few => simp at few
  unfold Txt.splitMax
  rw [lim, key, if_neg, if_neg (by simp), partsBetween_eq]
  · show [strSub _ 0 p.length, strSub _ (p.length + 1) (p.length + 1 + q.length), strSub _ (p.length + 1 + q.length + 1) (S (p ++ c :: (q ++ c :: r))).length] = _
    have e1 : strSub (S (p ++ c :: (q ++ c :: r))) 0 p.length = S p := TL.ext_tl (by rw [TL.tl_strSub]; show ((p ++ _).drop 0).take (p.length - 0) = p; rw [List.drop_zero, Nat.sub_zero, List.take_left])
    have e2 : strSub (S (p ++ c :: (q ++ c :: r))) (p.length + 1) (p.length + 1 + q.length) = S q := TL.ext_tl (by
      rw [TL.tl_strSub]
      show ((p ++ c :: (q ++ c :: r)).drop (p.length + 1)).take _ = q
      rw [d1, Nat.add_sub_cancel_left, List.take_left])
    have e3 : strSub (S (p ++ c :: (q ++ c :: r))) (p.length + 1 + q.length + 1) (S (p ++ c :: (q ++ c :: r))).length = S r := TL.ext_tl (by
      rw [TL.tl_strSub_end]
      exact d2)
    rw [e1, e2, e3]
  · rw [Bool.or_eq_true, decide_eq_true_eq, decide_eq_true_eq]
    rintro (z | z)
    · rw [hl] at z
      have : (S [c]).length = 1 := rfl
      omega
    · exact TL.kind_ok (all256 (b := [c]) (by simp [hc])) z
/-! ### numbers -/
theorem ascii_digit {c : Nat} (h : c < 128) : Unicode.isDigit c = (decide (48 ≤ c) && decide (c ≤ 57)) := by
  have key : ∀ c : Fin 128, Unicode.isDigit c.val = (decide (48 ≤ c.val) && decide (c.val ≤ 57)) := by decide +kernel
  exact key ⟨c, h⟩
def digB (c : Nat) : Bool := decide (48 ≤ c) && decide (c ≤ 57)
theorem all_dig : ∀ a : List Nat, (∀ x ∈ a, x < 128) → a.all Unicode.isDigit = a.all digB
  | [], _ => rfl
  | c :: r, h => by
    rw [List.all_cons, List.all_cons, all_dig r fun x hx => h x (List.mem_cons_of_mem _ hx), ascii_digit (h c (List.mem_cons_self ..))]
    rfl
theorem digits_told (a : List Nat) : (Txt.isascii (S a) && Txt.isdigit (S a)) = (!a.isEmpty && a.all digB) := by
  have e1 : Txt.isascii (S a) = a.all fun c => decide (c < 128) := by
    unfold Txt.isascii
    rw [← Array.all_toList]
  have e2 : Txt.isdigit (S a) = (decide (0 < a.length) && a.all Unicode.isDigit) := by
    unfold Txt.isdigit
    rw [← Array.all_toList, S_len]
  have e3 : (!a.isEmpty) = decide (0 < a.length) := by cases a <;> simp
  rw [e1, e2, e3]
  cases h : a.all fun c => decide (c < 128) with
  | true =>
    rw [Bool.true_and, all_dig a fun x hx => of_decide_eq_true (List.all_eq_true.mp h x hx)]
  | false =>
    rw [Bool.false_and]
    symm
    rw [Bool.and_eq_false_iff]
    right
    rw [List.all_eq_false] at h ⊢
    obtain ⟨c, hc, hn⟩ := h
    refine ⟨c, hc, fun z => hn ?_⟩
    unfold digB at z
    simp at z ⊢
    omega
end TkM

set_option Elab.async false
set_option linter.all false
set_option maxRecDepth 100000
set_option maxHeartbeats 4000000
/-! an entry, its text, its two readers -/
namespace TkM
open PySem PySem.StrLaws PySem.Builtin PySem.Builtin.Str SX Tk L2
open TL (spl par joinL numL tl)
abbrev Ent := List Nat × Nat × List Nat × Option (List Nat)
def optV : Option (List Nat) → PyData
  | none => .none
  | some v => .str (S v)
def entD (e : Ent) : PyData := .tuple [.str (S e.1), .tuple [.int e.2.1, .str (S e.2.2.1)], optV e.2.2.2]
def optD : Option Ent → PyData
  | none => .none
  | some e => entD e
def toldL : Option (List Nat) → List Nat
  | none => [45]
  | some v => 34 :: (esc v ++ [34])
def fmtL (e : Ent) : List Nat := e.1 ++ 32 :: ((numL e.2.1 ++ 46 :: e.2.2.1) ++ 32 :: toldL e.2.2.2)
def midL (t : List Nat) : List Nat := (t.drop 1).take (t.length - 2)
def valR (t : List Nat) : Option (Option (List Nat)) :=
  if t = [45] then some none else if t.length < 2 ∨ t.head? ≠ some 34 ∨ t.getLast? ≠ some 34 then none else (vr (midL t) []).map some
def entR (a b w : List Nat) (v : Option (List Nat)) : Option Ent :=
  if (a ≠ [] ∧ a.head? ≠ some 48 ∧ a.length ≤ 16 ∧ a.all digB = true) ∧ entryD (entD (w, NumText.digitsVal a, b, v)) = true then some (w, NumText.digitsVal a, b, v) else none
def readL (t : List Nat) : Option Ent :=
  match spl [32] 0 [] t with
  | w0 :: w1 :: w2 :: ws =>
    match spl [46] 0 [] w1, valR (joinL [32] (w2 :: ws)) with
    | [a, b], some v => entR a b w0 v
    | _, _ => none
  | _ => none
/-! what an entry is -/
structure IsE (e : Ent) : Prop where
  key : wordS (S e.1) = true
  lo : 1 ≤ e.2.1
  hi : e.2.1 ≤ 1000000000000000
  home : wordS (S e.2.2.1) = true
  val : ∀ v, e.2.2.2 = some v → valueS (S v) = true
theorem isE_iff {e : Ent} : entryD (entD e) = true ↔ IsE e := by
  obtain ⟨k, n, h, v⟩ := e
  have num : numD (.int (n : Int)) = true ↔ 1 ≤ n ∧ n ≤ 1000000000000000 := by
    unfold numD
    rw [Bool.and_eq_true, decide_eq_true_eq, decide_eq_true_eq]
    omega
  have val : (noneD (optV v) || valueD (optV v)) = true ↔ ∀ u, v = some u → valueS (S u) = true := by
    cases v with
    | none => exact ⟨fun _ _ z => (nomatch z), fun _ => rfl⟩
    | some u => exact ⟨fun z w e => by cases e; exact z, fun z => z u rfl⟩
  have e0 : entryD (entD (k, n, h, v)) = (wordS (S k) && ((numD (.int (n : Int)) && wordS (S h)) && (noneD (optV v) || valueD (optV v)))) := rfl
  rw [e0, Bool.and_eq_true, Bool.and_eq_true, Bool.and_eq_true, num, val]
  exact ⟨fun ⟨a, ⟨⟨b, c⟩, d⟩, e⟩ => ⟨a, b, c, d, e⟩, fun ⟨a, b, c, d, e⟩ => ⟨a, ⟨⟨b, c⟩, d⟩, e⟩⟩
theorem ent_of {d : PyData} (h : entryD d = true) : ∃ e : Ent, d = entD e := by
  unfold entryD at h
  split at h
  · rename_i k s v
    rw [Bool.and_eq_true, Bool.and_eq_true, Bool.or_eq_true] at h
    obtain ⟨hk, hs, hv⟩ := h
    have ek : ∃ x, k = .str (S x) := by
      unfold wordD at hk
      split at hk
      · rename_i x
        exact ⟨x.cps.toList, by rw [S_tl]⟩
      · cases hk
    have es : ∃ n x, s = .tuple [.int ((n : Nat) : Int), .str (S x)] := by
      unfold stampD at hs
      split at hs
      · rename_i a b
        rw [Bool.and_eq_true] at hs
        obtain ⟨h1, h2⟩ := hs
        unfold numD at h1
        split at h1
        · rename_i i
          rw [Bool.and_eq_true, decide_eq_true_eq, decide_eq_true_eq] at h1
          unfold wordD at h2
          split at h2
          · rename_i x
            refine ⟨i.toNat, x.cps.toList, ?_⟩
            rw [S_tl, Int.toNat_of_nonneg (by omega)]
          · cases h2
        · cases h1
      · cases hs
    have ev : ∃ o, v = optV o := by
      rcases hv with z | z
      · cases v <;> first | exact ⟨none, rfl⟩ | cases z
      · unfold valueD at z
        split at z
        · rename_i x
          exact ⟨some x.cps.toList, by show _ = PyData.str (S _); rw [S_tl]⟩
        · cases z
    obtain ⟨x, rfl⟩ := ek
    obtain ⟨n, y, rfl⟩ := es
    obtain ⟨o, rfl⟩ := ev
    exact ⟨(x, n, y, o), rfl⟩
  · cases h
theorem word_free {x : List Nat} (h : wordS (S x) = true) {c : Nat} (hc : c < 97) : c ∉ x := by
  intro m
  unfold wordS at h
  rw [Bool.and_eq_true] at h
  have := List.all_eq_true.mp h.2 c m
  unfold lowB at this
  rw [Bool.and_eq_true, decide_eq_true_eq] at this
  omega
theorem word_len {x : List Nat} (h : wordS (S x) = true) : 1 ≤ x.length ∧ x.length ≤ 8 := by
  unfold wordS at h
  rw [Bool.and_eq_true, Bool.and_eq_true, decide_eq_true_eq, decide_eq_true_eq, S_len] at h
  omega
theorem value_len {x : List Nat} (h : valueS (S x) = true) : x.length ≤ 40 := by
  unfold valueS at h
  rw [Bool.and_eq_true] at h
  have h1 := h.1
  rw [Bool.not_eq_true', decide_eq_false_iff_not, S_len] at h1
  omega
/-! joined again -/
theorem spl_ne (S0 : List Nat) : ∀ (t acc : List Nat), spl S0 0 acc t ≠ []
  | [], acc => by rw [TL.spl_nil]; simp
  | c :: r, acc => by
    cases h : TL.pre S0 (c :: r) with
    | true => rw [TL.spl_hit h]; simp
    | false => rw [TL.spl_miss h]; exact spl_ne S0 r _
theorem spl_joined (c : Nat) : ∀ (t acc : List Nat), joinL [c] (spl [c] 0 acc t) = acc ++ t
  | [], acc => by
    rw [TL.spl_nil, List.append_nil]
    rfl
  | d :: r, acc => by
    by_cases e : d = c
    · subst e
      rw [TL.spl_hit (by unfold TL.pre; simp)]
      have ih := spl_joined d r []
      cases h : spl [d] 0 [] r with
      | nil => exact absurd h (spl_ne _ _ _)
      | cons x y =>
        rw [h] at ih
        show joinL [d] (acc :: (spl [d] 0 [] r)) = _
        rw [h]
        show acc ++ ([d] ++ joinL [d] (x :: y)) = _
        rw [ih]
        rfl
    · rw [TL.spl_miss (by unfold TL.pre; simp [e]), spl_joined c r, List.append_assoc]
      rfl
theorem mid_back {t : List Nat} (h1 : ¬ t.length < 2) (h2 : t.head? = some 34) (h3 : t.getLast? = some 34) : t = 34 :: (midL t ++ [34]) := by
  cases t with
  | nil => simp at h1
  | cons c r =>
    have e : c = 34 := by simpa using h2
    subst e
    have hr : r ≠ [] := by rintro rfl; simp at h1
    have hl : r.getLast hr = 34 := by
      rw [List.getLast?_eq_some_getLast (by simp), List.getLast_cons hr] at h3
      exact Option.some.inj h3
    have em : midL (34 :: r) = r.dropLast := by
      unfold midL
      rw [List.dropLast_eq_take]
      rfl
    rw [em]
    have := List.dropLast_concat_getLast hr
    rw [hl] at this
    rw [this]
theorem mid_of (m : List Nat) : midL (34 :: (m ++ [34])) = m := by
  unfold midL
  have e : (34 :: (m ++ [34])).length - 2 = m.length := by simp
  rw [e]
  show (m ++ [34]).take m.length = m
  rw [List.take_left]
theorem valR_back {t : List Nat} {v : Option (List Nat)} (h : valR t = some v) : toldL v = t := by
  unfold valR at h
  by_cases e : t = [45]
  · rw [if_pos e] at h
    cases h
    exact e.symm
  · rw [if_neg e] at h
    by_cases e2 : t.length < 2 ∨ t.head? ≠ some 34 ∨ t.getLast? ≠ some 34
    · rw [if_pos e2] at h; cases h
    · rw [if_neg e2] at h
      rw [not_or, not_or] at e2
      obtain ⟨h1, h2, h3⟩ := e2
      cases hv : vr (midL t) [] with
      | none => rw [hv] at h; cases h
      | some w =>
        rw [hv] at h
        cases h
        obtain ⟨u, eu, hu⟩ := vr_back _ _ _ _ (Nat.le_refl _) hv
        rw [List.nil_append] at eu
        subst eu
        show 34 :: (esc w ++ [34]) = t
        rw [hu]
        exact (mid_back h1 (Classical.not_not.mp h2) (Classical.not_not.mp h3)).symm
theorem valR_told (v : Option (List Nat)) : valR (toldL v) = some v := by
  cases v with
  | none => rfl
  | some u =>
    unfold valR toldL
    rw [if_neg (by intro h; injection h with h1 _; omega), if_neg, mid_of, vr_esc, List.nil_append]
    · rfl
    · have e : (34 :: (esc u ++ [34])).getLast? = some 34 := by
        show ((34 :: esc u) ++ [34]).getLast? = _
        rw [List.getLast?_concat]
      rw [e]
      simp
theorem read_back {t : List Nat} {e : Ent} (h : readL t = some e) : IsE e ∧ fmtL e = t := by
  unfold readL at h
  split at h
  · rename_i w0 w1 w2 ws e1
    split at h
    · rename_i a b v e2 e3
      unfold entR at h
      by_cases c : (a ≠ [] ∧ a.head? ≠ some 48 ∧ a.length ≤ 16 ∧ a.all digB = true) ∧ entryD (entD (w0, NumText.digitsVal a, b, v)) = true
      · rw [if_pos c] at h
        cases h
        obtain ⟨⟨c1, c2, c3, c4⟩, c5⟩ := c
        refine ⟨isE_iff.mp c5, ?_⟩
        have ad : NumText.AllDigits a := fun x hx => by
          have := List.all_eq_true.mp c4 x hx
          unfold digB at this
          rw [Bool.and_eq_true, decide_eq_true_eq, decide_eq_true_eq] at this
          exact this
        have na : numL (NumText.digitsVal a) = a := num_back ad (by
          cases a with
          | nil => exact absurd rfl c1
          | cons x y => exact ⟨x, y, rfl, fun z => c2 (by rw [z]; rfl)⟩)
        have j1 := spl_joined 32 t []
        rw [e1] at j1
        have j2 := spl_joined 46 w1 []
        rw [e2] at j2
        show w0 ++ 32 :: ((numL (NumText.digitsVal a) ++ 46 :: b) ++ 32 :: toldL v) = t
        rw [na, valR_back e3]
        have j2' : a ++ 46 :: b = w1 := j2
        rw [j2']
        exact j1
      · rw [if_neg c] at h; cases h
    · cases h
  · cases h
theorem num_len {n : Nat} (h : n ≤ 1000000000000000) : (numL n).length ≤ 16 := TL.numL_len (by decide) (by omega)
theorem read_fmt {e : Ent} (h : IsE e) : readL (fmtL e) = some e := by
  obtain ⟨k, n, m, v⟩ := e
  have k1 : 32 ∉ k := word_free h.key (by decide)
  have m1 : 32 ∉ m := word_free h.home (by decide)
  have m2 : 46 ∉ m := word_free h.home (by decide)
  have lo : 1 ≤ n := h.lo
  have hi : n ≤ 1000000000000000 := h.hi
  have n1 : 32 ∉ numL n := TL.numL_free (by decide)
  have n2 : 46 ∉ numL n := TL.numL_free (by decide)
  have s1 : 32 ∉ numL n ++ 46 :: m := by
    intro z
    rcases List.mem_append.mp z with z | z
    · exact n1 z
    · rcases List.mem_cons.mp z with z | z
      · cases z
      · exact m1 z
  have e1 : spl [32] 0 [] (fmtL (k, n, m, v)) = k :: (numL n ++ 46 :: m) :: spl [32] 0 [] (toldL v) := by
    show spl [32] 0 [] (k ++ ([32] ++ ((numL n ++ 46 :: m) ++ ([32] ++ toldL v)))) = _
    rw [TL.spl_part1 k1, TL.spl_part1 s1]
    rfl
  have e2 : spl [46] 0 [] (numL n ++ 46 :: m) = [numL n, m] := by
    show spl [46] 0 [] (numL n ++ ([46] ++ m)) = _
    rw [TL.spl_part1 n2, TL.spl_last1 m2]
    rfl
  have e3 := spl_joined 32 (toldL v) []
  rw [List.nil_append] at e3
  have ne := spl_ne [32] (toldL v) []
  unfold readL
  rw [e1]
  cases h0 : spl [32] 0 [] (toldL v) with
  | nil => exact absurd h0 ne
  | cons x y =>
    rw [h0] at e3
    show (match spl [46] 0 [] (numL n ++ 46 :: m), valR (joinL [32] (x :: y)) with
      | [a, b], some v => entR a b k v
      | _, _ => none) = _
    rw [e2, e3, valR_told]
    show entR (numL n) m k v = _
    unfold entR
    rw [TL.numL_val, if_pos]
    refine ⟨⟨TL.numL_ne n, ?_, num_len hi, ?_⟩, isE_iff.mpr h⟩
    · obtain ⟨c, r, e, q⟩ := numL_head lo
      rw [e]
      intro z
      exact q (by simpa using z)
    · refine List.all_eq_true.mpr fun c hc => ?_
      have := TL.numL_digits n c hc
      unfold digB
      rw [Bool.and_eq_true, decide_eq_true_eq, decide_eq_true_eq]
      exact this
theorem read_iff {t : List Nat} {e : Ent} : readL t = some e ↔ IsE e ∧ fmtL e = t := ⟨read_back, fun ⟨a, b⟩ => b ▸ read_fmt a⟩
/-! ### the quick reader -/
def likN (a : Str) : PyData := if decide ((16 : Int) < (a.length : Int)) || !(Txt.isascii a && Txt.isdigit a) then .none else .int (NumText.digitsVal a.cps.toList)
def unq (x : Str) : Str := Txt.replace (Txt.replace (cutS x (some 1) (some (-1))) (S [92, 34]) (S [34])) (S [92, 92]) (S [92])
def likT (k st told : Str) : PyData := .tuple [.str k, .tuple [likN (Txt.partition st (S [46])).1, .str (Txt.partition st (S [46])).2.2], if (told == S [45]) = true then .none else .str (unq told)]
def likE (x : Str) : PyData :=
  match Txt.splitMax x (S [32]) 2 with
  | [k, st, told] => likT k st told
  | _ => .none
theorem unq_told (u : List Nat) : unq (S (34 :: (esc u ++ [34]))) = S u := by
  have c : cutS (S (34 :: (esc u ++ [34]))) (some 1) (some (-1)) = S (esc u) := by
    refine TL.ext_tl ?_
    have l : (S (34 :: (esc u ++ [34]))).length = (esc u).length + 2 := by rw [S_len]; simp
    have i1 : HT.sIx (S (34 :: (esc u ++ [34]))).length 0 (some 1) = 1 := by rw [l]; unfold HT.sIx; simp
    have i2 : HT.sIx (S (34 :: (esc u ++ [34]))).length (S (34 :: (esc u ++ [34]))).length (some (-1)) = (esc u).length + 1 := by rw [l]; unfold HT.sIx; simp; omega
    unfold cutS
    rw [i1, i2]
    show (((34 :: (esc u ++ [34])).drop 1).take ((esc u).length + 1 - 1)) = esc u
    rw [Nat.add_sub_cancel]
    show (esc u ++ [34]).take (esc u).length = _
    rw [List.take_left]
  unfold unq
  rw [c]
  refine TL.ext_tl ?_
  show (Txt.replace (Txt.replace (S (esc u)) (S [92, 34]) (S [34])) (S [92, 92]) (S [92])).cps.toList = u
  rw [replace_list (by decide), replace_list (by decide)]
  exact esc_back u
theorem lik_fmt {e : Ent} (h : IsE e) : likE (S (fmtL e)) = entD e := by
  obtain ⟨k, n, m, v⟩ := e
  have k1 : 32 ∉ k := word_free h.key (by decide)
  have m1 : 32 ∉ m := word_free h.home (by decide)
  have n1 : 32 ∉ numL n := TL.numL_free (by decide)
  have n2 : 46 ∉ numL n := TL.numL_free (by decide)
  have hi : n ≤ 1000000000000000 := h.hi
  have s1 : 32 ∉ numL n ++ 46 :: m := by
    intro z
    rcases List.mem_append.mp z with z | z
    · exact n1 z
    · rcases List.mem_cons.mp z with z | z
      · cases z
      · exact m1 z
  unfold likE
  have e1 : Txt.splitMax (S (fmtL (k, n, m, v))) (S [32]) 2 = [S k, S (numL n ++ 46 :: m), S (toldL v)] := split2 (by decide) k1 s1
  rw [e1]
  show likT (S k) (S (numL n ++ 46 :: m)) (S (toldL v)) = _
  unfold likT
  have e2 : Txt.partition (S (numL n ++ 46 :: m)) (S [46]) = (S (numL n), S [46], S m) := partition_some (by simp) (TL.par_part1 (S := []) (acc := []) n2)
  have e3 : likN (S (numL n)) = .int n := by
    unfold likN
    have al : (numL n).all digB = true := List.all_eq_true.mpr fun c hc => by
      have := TL.numL_digits n c hc
      unfold digB
      rw [Bool.and_eq_true, decide_eq_true_eq, decide_eq_true_eq]
      exact this
    have ne : (numL n).isEmpty = false := by
      cases z : numL n with
      | nil => exact absurd z (TL.numL_ne n)
      | cons _ _ => rfl
    have hl := num_len hi
    rw [digits_told, al, ne, if_neg]
    · show PyData.int (NumText.digitsVal (numL n)) = _
      rw [TL.numL_val]
    · rw [S_len]
      simp
      omega
  rw [e2, e3]
  have e4 : (if (S (toldL v) == S [45]) = true then PyData.none else PyData.str (unq (S (toldL v)))) = optV v := by
    cases v with
    | none => rfl
    | some u =>
      rw [if_neg]
      · show PyData.str (unq (S (34 :: (esc u ++ [34])))) = _
        rw [unq_told]
        rfl
      · rw [S_beq]
        intro z
        have := eq_of_beq z
        injection this with q _
        cases q
  rw [e4]
  rfl
/-- what the program's reader tells is what the careful one tells -/
theorem parse_none {t : List Nat} (h : readL t = none) : ¬ ∃ e : Ent, IsE e ∧ fmtL e = t := fun ⟨e, a, b⟩ => by
  rw [read_iff.mpr ⟨a, b⟩] at h
  cases h
end TkM

set_option Elab.async false
set_option linter.all false
set_option maxRecDepth 100000
set_option maxHeartbeats 4000000
/-! texts: written texts out (replace), f-strings, split, partition; calls that may raise, in a try -/
namespace Tk
open PySem PySem.Spec PyProof.Rows L2 CwR
section
variable {X : Cx} {te : TE} {e : Expr} {pos : Pos}
/-- name = value, a token out -/
theorem pst_set {i : Nat} {x : Str} {pos' : Pos} (hN : X.N.Nodup) (hi : X.N[i]? = some x) (hx : Loc X.env.scope x) (he : PET X e te) (hs : swapsWith e (some (.Name x pos')) pos.line X.env = pure false := by rfl)
    (hf : X.fn x = true ∨ X.env.scope.names.lookup x = some .local := by first | exact .inl rfl | exact .inr rfl | assumption) : PST X (.Assign [.Name x pos'] e pos) (tAsg te (gName i)) := by
  intro pn s σ H D h0 I h
  refine wpAny_Assign_Name (thn (he pn s σ H _ h0 I h) fun v s1 hv => ?_) hs
  obtain ⟨y, H1, I1, r1, q1⟩ := hv
  exact store_ok I1 hN hi hx r1 (fun s2 I2 => ⟨_, H1, I2, q1⟩) hf
end
/-- a def with parameters, none of them in a cell: when it begins a token is out -/
theorem Fun_okT {P : Program} {w : World} {K : PySem.W.Frag} {mg : Str → Option Value} {base : Heap} {k : Nat} {x qual : Str} {st : Stmt} {f : Addr} {fd : FuncData} {N ps : List Str} {sp : Sp} (F : Fun K x qual st f fd) (S : FnScope N ps (defScope st)) (hnc : ∀ y ∈ (defScope st).names, y.2 ≠ .cell) (hps : 1 ≤ ps.length)
    (len : ∀ vs H Q E, sp vs H Q E → vs.length = ps.length)
    (go : ∀ (cdv : Value) (A : Around) (outer : List Env) (s : Shared) (H : Hp) (vs : List V) (Q : VK) (E : XK), Room k (A.deeper (envOfC qual (defScope st) s.heap.objs.size f cdv)) → sp vs H Q E →
      ∃ t, PSsT (cxOf CX0 P w K mg base N qual (defScope st) f cdv A outer s H E) (defBody st) t ∧ t { nx := fun _ H' => Q .non H', rt := Q } (start N vs) H) : FnOk P w K mg base CX0 (k + 1) f fd ps sp := by
  obtain ⟨_, _, _, _, _, _, cdv, _, _, rfl, at_f, cd⟩ := F.ex
  exact fn_ofT at_f cd S hnc hps len fun A outer s H vs Q E hr h => go cdv A outer s H vs Q E hr h
/-! ### calls that may raise -/
section
variable {X : Cx} {k : Nat} {sp : Sp} {x : Str} {ps : List Str} {p pos : Pos} {e : Expr} {es : List Expr} {t : TA} {W : WX}
theorem pe_calS {CX : CXT} {E : L2.St → XK} (C : Cal X.prog X.w X.K X.mg X.base CX k x ps sp) (hr : Room k X.A) (hx : ∀ σ, PassesAt CX X σ (E σ)) (ha : PA X (e :: es) t) (hg : Gl X x := by rfl)
    (hdb : (x == ("__debug__" : Str)) = false := by decide) (he : starEach (e :: es) X.env = (false, eval e X.env) :: starEach es X.env := by rfl) (hpl : (backTo pos (starEach es X.env)).any (·.1) = false := by rfl) :
    PE X (.Call (.Name x p) (e :: es) [] pos) (tCallS sp E t) := by
  obtain ⟨f, fd, m1, m2, m3, F⟩ := C.ex
  exact pe_callS F hr hg m1 m2 m3 hx ha hdb he hpl
/-- a raising def called in a def that lets it out -/
theorem passOut (tk : Takes X fun cls d _ H => E cls d H) : Passes (L2.CX X.prog X.w) X E := fun pn σ H s e s' I c => passes_call tk (fun _ _ _ _ h => h) pn σ H s e s' I c
end
theorem r_callS {sp : Sp} {E : L2.St → XK} {t : TA} {σ : L2.St} {H : Hp} {Q : VK} (h : t σ H fun vs H1 => sp vs H1 Q (E σ)) : tCallS sp E t σ H Q := h
/-! ### methods of texts -/
def rSplit1 : V → List V → Hp → VK → Prop := fun x xs H Q => ∃ a b, x = .str a ∧ xs = [.str b] ∧ (b.length == 0) = false ∧ a.length + 2 ≤ sizeLine ∧ rNewStrs (Txt.split a b) H Q
def rSplit2 : V → List V → Hp → VK → Prop := fun x xs H Q => ∃ (a b : Str) (k : Int), x = .str a ∧ xs = [.str b, .int k] ∧ (b.length == 0) = false ∧ -(2 ^ 63) ≤ k ∧ k < 2 ^ 63 ∧ a.length + 2 ≤ sizeLine ∧ rNewStrs (Txt.splitMax a b k) H Q
def rPart3 : V → List V → Hp → VK → Prop := fun x xs H Q => ∃ a b, x = .str a ∧ xs = [.str b] ∧ (b.length == 0) = false ∧ a.length ≤ sizeLine ∧
  ∀ p, H p = none → Q (.ref p) (upd H p (.tup [.str (Txt.partition a b).1, .str (Txt.partition a b).2.1, .str (Txt.partition a b).2.2]))
def rTold (g : Str → Bool) : V → List V → Hp → VK → Prop := fun x xs H Q => ∃ a, x = .str a ∧ xs = [] ∧ True ∧ Q (.bl (g a)) H
section
variable {X : Cx}
theorem k_split1 : MtR X "str.split" rSplit1 := mt_split
theorem k_split2 : MtR X "str.split" rSplit2 := mt_splitMax
theorem k_part3 : MtR X "str.partition" rPart3 := mt_partition
theorem k_ascii : MtR X "str.isascii" (rTold Txt.isascii) := mt_isascii
theorem k_digit : MtR X "str.isdigit" (rTold Txt.isdigit) := mt_isdigit
end
section
variable {K : PySem.W.Frag} {σ : L2.St} {H : Hp} {Q : VK} {a b : Str} {r : V → List V → Hp → VK → Prop} {to te : TE} {t : TA}
theorem r_m0 (h : to σ H fun x H1 => (∃ a, x = .str a) ∧ r x [] H1 Q) : tM0 r to σ H Q := h
theorem r_bm {T : String} (h : to σ H fun x H1 => tyV K T x H1 ∧ t σ H1 fun xs H2 => r x xs H2 Q) : tBM K T r to t σ H Q := h
theorem new_strs {ys : List Str} (q : ∀ p H', H p = none → Same H H' → H' p = some (.lst (ys.map V.str)) → Q (.ref p) H') : rNewStrs ys H Q := fun p hp => q p _ hp (Same.new hp) upd_same
theorem r_split1 (hb : (b.length == 0) = false) (ha : a.length ≤ 90000) (q : ∀ p H', H p = none → Same H H' → H' p = some (.lst ((Txt.split a b).map V.str)) → Q (.ref p) H') : rSplit1 (.str a) [.str b] H Q := ⟨a, b, rfl, rfl, hb, sz_of (n := a.length + 2) (by omega), new_strs q⟩
theorem r_split2 {k : Int} (hb : (b.length == 0) = false) (h0 : 0 ≤ k) (h1 : k < 100) (ha : a.length ≤ 90000) (q : ∀ p H', H p = none → Same H H' → H' p = some (.lst ((Txt.splitMax a b k).map V.str)) → Q (.ref p) H') : rSplit2 (.str a) [.str b, .int k] H Q :=
  ⟨a, b, k, rfl, rfl, hb, by omega, by omega, sz_of (n := a.length + 2) (by omega), new_strs q⟩
theorem r_part3 (hb : (b.length == 0) = false) (ha : a.length ≤ 100000) (q : ∀ p H', H p = none → Same H H' → H' p = some (.tup [.str (Txt.partition a b).1, .str (Txt.partition a b).2.1, .str (Txt.partition a b).2.2]) → Q (.ref p) H') : rPart3 (.str a) [.str b] H Q :=
  ⟨a, b, rfl, rfl, hb, sz_of ha, fun p hp => q p _ hp (Same.new hp) upd_same⟩
theorem r_told {g : Str → Bool} (q : Q (.bl (g a)) H) : rTold g (.str a) [] H Q := ⟨a, rfl, rfl, trivial, q⟩
theorem r_isS {B : Prop} (q : B) : (∃ u, V.str a = .str u) ∧ B := ⟨⟨a, rfl⟩, q⟩
theorem r_gLst {n : Nat} {t : TGs} {p : Addr} {xs : List V} {R : L2.St → Hp → Prop} (h : H p = some (.lst xs)) (hl : xs.length = n) (q : t xs σ H R) : gLst K n t (.ref p) σ H R := ⟨p, xs, rfl, SqL.of h, hl, q⟩
theorem k_glst {X : Cx} {es : List Expr} {k : Nat} {pos : Pos} {t : TGs} {n : Nat} (hc : X.calm = true) (h : PGs X es t) (e : X.K = K := by rfl) (hn : (assignEach es X.env).length = n := by rfl) (hst : (assignEach es X.env).findIdx? (·.1) = none := by rfl) : PG X (.Tuple es k pos) (gLst K n t) := by subst e; exact pg_lst hc h hn hst
theorem r_lenL {p : Addr} {xs : List V} (h : H p = some (.lst xs)) (q : Q (.int (xs.length : Nat)) H) : rLen K [.ref p] H Q := r_lenQ (SqL.of h) q
/-! f-strings -/
theorem r_fmtS (h : te σ H fun x H1 => ∃ y : Str, x = .str y ∧ y.length ≤ 100000 ∧ Q (.str y) H1) (mono : ∀ R R' : VK, (∀ v H', R v H' → R' v H') → te σ H R → te σ H R') : tFmt te σ H Q :=
  mono _ _ (fun v H' ⟨y, e, hl, q⟩ => .inl ⟨y, e, sz_of hl, q⟩) h
theorem r_fmtVar {i : Nat} {x : Str} (hv : σ[i]? = some (some (.str x))) (hl : x.length ≤ 100000) (q : Q (.str x) H) : tFmt (tVar i) σ H Q := ⟨_, hv, .inl ⟨x, rfl, sz_of hl, q⟩⟩
theorem r_fmtInt {i : Nat} {n : Int} (hv : σ[i]? = some (some (.int n))) (hl : n.natAbs.log2 < 1920) (q : Q (.str (toString n)) H) : tFmt (tVar i) σ H Q := ⟨_, hv, .inr ⟨n, rfl, hl, q⟩⟩
theorem r_js {ts : List TE} {acc : Str} {t : TE} {R : Str → Hp → Prop} (h : t σ H fun x H1 => ∃ y : Str, x = .str y ∧ (acc ++ y).length ≤ sizeLine ∧ tJs ts (acc ++ y) σ H1 R) : tJs (t :: ts) acc σ H R := h
theorem r_jsNil {acc : Str} {R : Str → Hp → Prop} (h : R acc H) : tJs [] acc σ H R := h
theorem r_jsIs {acc y : Str} {P : Str → Prop} (hl : (acc ++ y).length ≤ 100000) (q : P y) : ∃ z : Str, V.str y = .str z ∧ (acc ++ z).length ≤ sizeLine ∧ P z := ⟨y, rfl, sz_of hl, q⟩
/-! replace -/
theorem r_repl {y z : Str} (h : to σ H fun v H1 => ∃ x, v = .str x ∧ x.length + (x.length + 1) * z.length ≤ 16777216 ∧ Q (.str (Txt.replace x y z)) H1) : tReplC to y z σ H Q := h
theorem r_replIs {x y z : Str} (hl : x.length + (x.length + 1) * z.length ≤ 16777216) (q : Q (.str (Txt.replace x y z)) H) : ∃ u, V.str x = .str u ∧ u.length + (u.length + 1) * z.length ≤ 16777216 ∧ Q (.str (Txt.replace u y z)) H := ⟨x, rfl, hl, q⟩
theorem r_replU {B : Prop} {x z : Str} (hx : x.length ≤ 100000) (hz : z.length ≤ 100) (q : B) : x.length + (x.length + 1) * z.length ≤ 16777216 ∧ B :=
  ⟨by have := Nat.mul_le_mul (show x.length + 1 ≤ 100001 by omega) hz; omega, q⟩
theorem cat_len (x y : Str) : (x ++ y).length = x.length + y.length := by rw [TL.len_tl, TL.tl_append, List.length_append, ← TL.len_tl, ← TL.len_tl]
theorem r_fits {B : Prop} {x : Str} (hx : x.length ≤ 100000) (q : B) : x.length ≤ sizeLine ∧ B := ⟨sz_of hx, q⟩
theorem repl_le {x y z : Str} {n : Nat} (hx : x.length ≤ n) {m : Nat} (hz : z.length ≤ m) : (Txt.replace x y z).length ≤ n + (n + 1) * m := by
  have h1 := TK.replace_len x y z
  have h2 := Nat.mul_le_mul (show x.length + 1 ≤ n + 1 by omega) hz
  omega
end
/-! parts are no longer than the whole -/
theorem sub_le (x : Str) (i j : Nat) : (Builtin.Str.strSub x i j).length ≤ x.length := by
  rw [TL.len_tl, TL.tl_strSub, TL.len_tl x, List.length_take, List.length_drop]
  omega
theorem from_le (x : Str) (n : Nat) : ∀ (cs : List Nat) (a : Nat), ∀ p ∈ StrLaws.partsFrom x n a cs, p.length ≤ x.length
  | [], a, p, h => by
    rw [List.mem_singleton.mp h]
    exact sub_le _ _ _
  | c :: cs, a, p, h => by
    rcases List.mem_cons.mp h with rfl | h
    · exact sub_le _ _ _
    · exact from_le x n cs _ p h
theorem splitMax_le (x y : Str) (k : Int) : ∀ p ∈ Txt.splitMax x y k, p.length ≤ x.length := by
  intro p h
  unfold Txt.splitMax at h
  split at h
  · rw [List.mem_singleton.mp h]; exact Nat.le_refl _
  · split at h
    · rw [List.mem_singleton.mp h]; exact Nat.le_refl _
    · rw [StrLaws.partsBetween_eq] at h
      exact from_le _ _ _ _ p h
theorem split_le (x y : Str) : ∀ p ∈ Txt.split x y, p.length ≤ x.length := by
  intro p h
  unfold Txt.split at h
  split at h
  · rw [List.mem_singleton.mp h]; exact Nat.le_refl _
  · split at h
    · rw [List.mem_singleton.mp h]; exact Nat.le_refl _
    · rw [StrLaws.partsBetween_eq] at h
      exact from_le _ _ _ _ p h
theorem part3_le (x y : Str) : (Txt.partition x y).1.length ≤ x.length ∧ (Txt.partition x y).2.2.length ≤ x.length := by
  have h := congrArg Str.length (StrLaws.partition_sum x y)
  rw [cat_len, cat_len] at h
  omega
end Tk

set_option Elab.async false
set_option linter.all false
set_option maxRecDepth 100000
set_option maxHeartbeats 4000000
/-! == of data without dicts, membership among written texts, int of a bool, text at a place, while -/
namespace Tk
open PySem PySem.Spec PyProof.Rows L2 SX
def rEqP (K : PySem.W.Frag) : R2 := fun x y H Q => ∃ d e, Dd K H x d ∧ Dd K H y e ∧ d.plain = true ∧ e.plain = true ∧ d.depth ≤ 60 ∧ Q (.bl (PyData.eqv d e)) H
def rNeP (K : PySem.W.Frag) : R2 := fun x y H Q => ∃ d e, Dd K H x d ∧ Dd K H y e ∧ d.plain = true ∧ e.plain = true ∧ d.depth ≤ 60 ∧ Q (.bl (!PyData.eqv d e)) H
section
variable {X : Cx} {K : PySem.W.Frag}
theorem k_eqP (hu : X.A.units + 64 < cLine) (e : X.K = K := by rfl) : OpR X (compareOp .Eq) (rEqP K) := by
  subst e
  intro pn s σ H x y v u Q I rx ry h
  obtain ⟨d, e, hd, he, pd, pe, dp, q⟩ := h
  obtain ⟨as, r1⟩ := Dd.reads I d x v hd rx
  obtain ⟨bs, r2⟩ := Dd.reads I e y u he ry
  exact PySem.SeqAt.eq_plain r1 r2 pd pe (by have := Nat.min_le_left d.depth e.depth; omega) ⟨.bl _, H, I, rfl, q⟩
theorem k_neP (hu : X.A.units + 64 < cLine) (e : X.K = K := by rfl) : OpR X (compareOp .NotEq) (rNeP K) := by
  subst e
  intro pn s σ H x y v u Q I rx ry h
  obtain ⟨d, e, hd, he, pd, pe, dp, q⟩ := h
  obtain ⟨as, r1⟩ := Dd.reads I d x v hd rx
  obtain ⟨bs, r2⟩ := Dd.reads I e y u he ry
  exact PySem.SeqAt.ne_plain r1 r2 pd pe (by have := Nat.min_le_left d.depth e.depth; omega) ⟨.bl _, H, I, rfl, q⟩
theorem k_in (e : X.K = K := by rfl) : OpR X (compareOp .In) (rIn K false) := by subst e; exact op_in_seq
theorem k_notin (e : X.K = K := by rfl) : OpR X (compareOp .NotIn) (rIn K true) := by subst e; exact op_notIn_seq
end
section
variable {K : PySem.W.Frag} {H : Hp} {Q : VK} {v w : V} {d : PyData}
theorem r_neSame (h1 : Dd K H v d) (h2 : Dd K H w d) (pl : d.plain = true) (dp : d.depth ≤ 60) (q : Q (.bl false) H) : rNeP K v w H Q := ⟨d, d, h1, h2, pl, pl, dp, by rw [PySem.SeqAt.eqv_refl_plain d pl]; exact q⟩
theorem r_inL {p : Addr} {xs : List V} {x : V} (h : H p = some (.lst xs)) (fx : flatV x = true) (fs : xs.all flatV = true) (q : Q (.bl (inV x xs)) H) : rIn K false x (.ref p) H Q := ⟨p, xs, rfl, .inl (SqL.of h), fx, fs, q⟩
theorem r_notinL {p : Addr} {xs : List V} {x : V} (h : H p = some (.lst xs)) (fx : flatV x = true) (fs : xs.all flatV = true) (q : Q (.bl (!inV x xs)) H) : rIn K true x (.ref p) H Q := ⟨p, xs, rfl, .inl (SqL.of h), fx, fs, q⟩
theorem in_two (c a b : Nat) : inV (signV c) [.str (S [a]), .str (S [b])] = decide (c = a ∨ c = b) := by
  have e : ∀ x y : Nat, (S [x] == S [y]) = decide (x = y) := fun x y => by
    rw [S_beq_eq]
    by_cases h : x = y
    · subst h; simp
    · simp [h]
  show ((S [a] == S [c]) || ((S [b] == S [c]) || false)) = _
  rw [e, e, Bool.or_false]
  by_cases h1 : c = a
  · subst h1; simp
  · by_cases h2 : c = b
    · subst h2; simp
    · simp [h1, h2, Ne.symm h1, Ne.symm h2, eq_comm]
theorem in_two_none (a b : Nat) : inV (.str (S [])) [.str (S [a]), .str (S [b])] = false := by
  show ((S [a] == S []) || ((S [b] == S []) || false)) = _
  rw [S_beq, S_beq]
  rfl
def rInt1 : List V → Hp → VK → Prop := fun xs H Q => (∃ i, xs = [.int i] ∧ Q (.int i) H) ∨ ∃ k, xs = [.bl k] ∧ Q (.int (if k then 1 else 0)) H
theorem k_int1 {X : Cx} : CallR X (.type "int") rInt1 := call_int1
theorem r_int1 {k : Bool} (q : Q (.int (if k then 1 else 0)) H) : rInt1 [.bl k] H Q := .inr ⟨k, rfl, q⟩
def rStr1 : List V → Hp → VK → Prop := fun xs H Q => ∃ i, xs = [.int i] ∧ i.natAbs.log2 < 1920 ∧ Q (.str (toString i)) H
theorem k_str1 {X : Cx} : CallR X (.type "str") rStr1 := call_str_int
theorem r_str1 {i : Int} (hi : i.natAbs.log2 < 1920) (q : Q (.str (toString i)) H) : rStr1 [.int i] H Q := ⟨i, rfl, hi, q⟩
/-! a text at a place -/
theorem r_ixS {x : Str} {i : Int} {c : Nat} (hx : x.length ≤ 100000) (e : atI x.cps.toList i = some c) (q : Q (signV c) H) : rIx K (.str x) (.int i) H Q := .inr (.inr ⟨x, i, c, rfl, rfl, sz_of hx, e, q⟩)
theorem r_par {i j : Nat} {ta : TA} {D : Ends} {σ : L2.St} (h : ta σ H fun vs H1 => ∃ v w, vs = [v, w] ∧ D.nx ((σ.set i (some v)).set j (some w)) H1) : tPar i j ta D σ H := h
theorem r_pair {P : V → V → Prop} (q : P v w) : ∃ v' w', [v, w] = [v', w'] ∧ P v' w' := ⟨v, w, rfl, q⟩
theorem sg {c d : Nat} : ((⟨#[c]⟩ : Str) = (⟨#[d]⟩ : Str)) ↔ c = d := by
  constructor
  · intro h
    have : ([c] : List Nat) = [d] := congrArg (fun x : Str => x.cps.toList) h
    exact (List.cons.inj this).1
  · intro h
    rw [h]
end
section
variable {K : PySem.W.Frag} {H : Hp} {Q : VK}
def rSgn : R2 := fun x y H Q => ∃ (c : Nat) (z : Str), x = .str ⟨#[c]⟩ ∧ y = .str z ∧ Q (.bl (!decide (c ∈ z.cps.toList))) H
theorem k_notSign {X : Cx} : OpR X (compareOp .NotIn) rSgn := op_notIn_sign
theorem r_notSign {c : Nat} {z : Str} (q : Q (.bl (!decide (c ∈ z.cps.toList))) H) : rSgn (signV c) (.str z) H Q := ⟨c, z, rfl, rfl, q⟩
theorem g_slL {a : Addr} {xs : List V} {lo hi : Option Int} (h : H a = some (.lst xs)) (q : ∀ p H2, H p = none → Same H H2 → H2 p = some (.lst (cutV xs lo hi)) → Q (.ref p) H2) : GSlice K (.ref a) lo hi H Q := .inl ⟨a, xs, rfl, SqL.of h, fun p hp => q p _ (by exact hp) (Same.new hp) upd_same⟩
end
theorem cutV2 (a b : V) (xs : List V) : cutV (a :: b :: xs) (some 2) none = xs := by
  unfold cutV
  have i1 : HT.sIx (a :: b :: xs).length 0 (some 2) = 2 := by
    unfold HT.sIx
    simp
  rw [i1, HT.sIx_none]
  show xs.take ((a :: b :: xs).length - 2) = xs
  rw [List.take_of_length_le (by simp)]
theorem signs_data {K : PySem.W.Frag} {H : Hp} {p : Addr} : ∀ {cs : List Nat}, H p = some (.lst (cs.map signV)) → Dd K H (.ref p) (.list (cs.map fun c => .str (S [c]))) := fun {cs} h => .lst h (by
  clear h
  induction cs with
  | nil => exact .nil
  | cons c cs ih => exact .cons (.str _) ih)
theorem signs_plain (cs : List Nat) : (PyData.list (cs.map fun c => .str (S [c]))).plain = true := by
  show PyData.plainAll _ = true
  induction cs with
  | nil => rfl
  | cons c cs ih =>
    rw [List.map_cons, PyData.plainAll, ih]
    rfl
theorem signs_deep (cs : List Nat) : (PyData.list (cs.map fun c => .str (S [c]))).depth ≤ 60 := by
  have : PyData.depthAll (cs.map fun c => PyData.str (S [c])) = 0 := by
    induction cs with
    | nil => rfl
    | cons c cs ih =>
      rw [List.map_cons, PyData.depthAll, ih]
      rfl
  rw [PyData.depth, this]
  decide
theorem signs_eqv (cs : List Nat) : PyData.eqv (.list (cs.map fun c => .str (S [c]))) (.list []) = cs.isEmpty := by
  cases cs <;> rfl
/-! isinstance of what was caught, its class and dict by their letters -/
def rIsE2 (K : PySem.W.Frag) (cls : Value) (d : Option Addr) (a : Addr) : List V → Hp → VK → Prop := fun xs H Q => ∃ D dd, cls = .ref D ∧ d = some dd ∧ rIsE1 K D a dd xs H Q
theorem call_isE2 {X : Cx} {K : PySem.W.Frag} {a : Addr} {cls : Value} {d : Option Addr} {oe : Obj} {pn : List (Addr × Obj)} (hz : Zc cls d oe) (hf : ∃ vs, oe.data = .fields vs) (eK : X.K = K := by rfl) : CallR (X.suite a ((a, oe) :: pn)) (.builtin "isinstance") (rIsE2 K cls d a) := by
  intro pins s σ H xs us Q I r h
  obtain ⟨D, dd, rfl, rfl, h⟩ := h
  exact call_isE1 hz hf eK pins s σ H xs us Q I r h
theorem r_isE2 {K : PySem.W.Frag} {a D dd : Addr} {c : V} {cv : Value} {fs : List (Str × V)} {H : Hp} {Q : VK} (hd : H dd = some (.xd fs)) (hc : ∀ u, RelV c u → u = cv) (ht : PySem.W.typeIn K cv = some (.type "type") ∨ typeOf cv = pure (.type "type")) (hk : (∃ n, cv = .type n) ∨ ∃ C, cv = .ref C ∧ PySem.W.hasDictIn K C = true)
    (hs : PySem.W.subIn K (.ref D) cv = some true) (q : Q (.bl true) H) : rIsE2 K (.ref D) (some dd) a [.ref a, c] H Q := ⟨D, dd, rfl, rfl, c, cv, fs, rfl, hd, hc, ht, hk, hs, q⟩
theorem r_xf {K : PySem.W.Frag} {a C dd : Addr} {v : V} {te : TE} {σ : L2.St} {H : Hp} {Q : VK} (h : te σ H fun x H1 => x = .ref a ∧ H1 dd = some (.xd (valF v)) ∧ Q v H1) (mono : ∀ R R' : VK, (∀ v H', R v H' → R' v H') → te σ H R → te σ H R') : tXf a (.ref C) (some dd) C "value" te σ H Q :=
  mono _ _ (fun x H' ⟨e, h1, q⟩ => ⟨e, rfl, dd, _, v, rfl, h1, rfl, q⟩) h
theorem r_xfVar {a C dd : Addr} {v : V} {i : Nat} {σ : L2.St} {H : Hp} {Q : VK} (hv : σ[i]? = some (some (.ref a))) (hd : H dd = some (.xd (valF v))) (q : Q v H) : tXf a (.ref C) (some dd) C "value" (tVar i) σ H Q := ⟨_, hv, rfl, rfl, dd, _, v, rfl, hd, rfl, q⟩
/-! cuts of a text by its list -/
theorem cut1 (c : Nat) (r : List Nat) : cutS (S (c :: r)) (some 1) none = S r := by
  refine TL.ext_tl ?_
  have l : (S (c :: r)).length = r.length + 1 := by rw [S_len]; rfl
  have i1 : HT.sIx (S (c :: r)).length 0 (some 1) = 1 := by
    rw [l]
    unfold HT.sIx
    simp
  have i2 : HT.sIx (S (c :: r)).length (S (c :: r)).length none = r.length + 1 := by rw [HT.sIx_none, l]
  unfold cutS
  rw [i1, i2]
  show ((c :: r).drop 1).take (r.length + 1 - 1) = r
  rw [Nat.add_sub_cancel]
  exact List.take_length
theorem cut12 (c : Nat) (r : List Nat) : cutS (S (c :: r)) (some 1) (some 2) = S (r.take 1) := by
  refine TL.ext_tl ?_
  have l : (S (c :: r)).length = r.length + 1 := by rw [S_len]; rfl
  have i1 : HT.sIx (S (c :: r)).length 0 (some 1) = 1 := by
    rw [l]
    unfold HT.sIx
    simp
  have i2 : HT.sIx (S (c :: r)).length (S (c :: r)).length (some 2) = min 2 (r.length + 1) := by
    rw [l]
    rfl
  unfold cutS
  rw [i1, i2]
  show ((c :: r).drop 1).take (min 2 (r.length + 1) - 1) = r.take 1
  show r.take _ = _
  cases r with
  | nil => rfl
  | cons d r =>
    have : min 2 ((d :: r).length + 1) - 1 = 1 := by simp
    rw [this]
theorem cut1m {l : List Nat} (h : 2 ≤ l.length) : cutS (S l) (some 1) (some (-1)) = S ((l.drop 1).take (l.length - 2)) := by
  refine TL.ext_tl ?_
  have i1 : HT.sIx (S l).length 0 (some 1) = 1 := by
    rw [S_len]
    unfold HT.sIx
    simp
    omega
  have i2 : HT.sIx (S l).length (S l).length (some (-1)) = l.length - 1 := by
    rw [S_len]
    unfold HT.sIx
    simp
    omega
  unfold cutS
  rw [i1, i2]
  show (l.drop 1).take (l.length - 1 - 1) = _
  rw [show l.length - 1 - 1 = l.length - 2 by omega]
end Tk

set_option Elab.async false
set_option linter.all false
set_option maxRecDepth 100000
set_option maxHeartbeats 4000000
/-! in, not in, len, [] over instances of own classes -/
namespace Tk
open PySem PySem.Spec PyProof.Rows L2
section
variable {X : Cx} {CX : CXT} {n : Nat} {C g : Addr} {sp : Sp} {E : XK}
theorem ins_at {pn : List (Addr × Obj)} {σ : L2.St} {H : Hp} {s : Shared} {a dx : Addr} {fs : List (Str × V)} (I : Inv X pn σ H s) (e : H a = some (.ins C dx fs)) : ∃ od, PySem.W.InstAt s.heap a (PySem.W.instObj C dx) C od := by
  obtain ⟨mA, O, _, _, _, _⟩ := ins_get I.hok e
  obtain ⟨od, ho, _⟩ := lookIn_ns O.ns
  exact ⟨some od, O.obj, rfl, rfl, ho⟩
/-- what the class at C writes under a name: a plain def at g -/
structure Own (K : PySem.W.Frag) (C : Addr) (m : Str) (g : Addr) : Prop where
  at_ : PySem.W.findIn K (.ref C) m = some (some (.ref g))
  fn : PySem.W.isFn K (.ref g) = true
def rInOwn (f : Bool → Bool) (C : Addr) (sp : Sp) (E : XK) : R2 := fun x y H Q => ∃ (a dx : Addr) (fs : List (Str × V)), y = .ref a ∧ H a = some (.ins C dx fs) ∧ sp [.ref a, x] H (fun r H' => ∃ b, r = .bl b ∧ Q (.bl (f b)) H') E
theorem k_inOwn (o : Own X.K C "__contains__" g) (F : FnR X.prog X.w X.K X.mg X.base CX n g sp) (hr : Room n X.A) (hx : Passes CX X E) : OpR X (compareOp .In) (rInOwn (fun b => b) C sp E) := by
  intro pn s σ H x y v u Q I rx ry h
  obtain ⟨a, dx, fs, rfl, ha, q⟩ := h
  obtain rfl : u = Value.ref a := ry
  obtain ⟨od, J⟩ := ins_at I ha
  obtain ⟨m, fr⟩ := I.fr
  refine PySem.W.in_K fr I.ok.mod.kin J o.at_ o.fn (wpAny_mono (wpAny_call (run_fnR (us := [.ref a, v]) (vs := [.ref a, x]) F hr hx I (.cons rfl (.cons rx .nil)) q)) (fun w s' z => ?_) fun _ _ z => z)
  obtain ⟨z', H', I', rz, b, rfl, qb⟩ := z
  obtain rfl : w = Value.bool b := rz
  exact wpAny_pure ⟨.bl b, H', I', rfl, qb⟩
theorem k_notinOwn (o : Own X.K C "__contains__" g) (F : FnR X.prog X.w X.K X.mg X.base CX n g sp) (hr : Room n X.A) (hx : Passes CX X E) : OpR X (compareOp .NotIn) (rInOwn (fun b => !b) C sp E) := by
  intro pn s σ H x y v u Q I rx ry h
  obtain ⟨a, dx, fs, rfl, ha, q⟩ := h
  obtain rfl : u = Value.ref a := ry
  obtain ⟨od, J⟩ := ins_at I ha
  obtain ⟨m, fr⟩ := I.fr
  refine PySem.W.notIn_K fr I.ok.mod.kin J o.at_ o.fn (wpAny_mono (wpAny_call (run_fnR (us := [.ref a, v]) (vs := [.ref a, x]) F hr hx I (.cons rfl (.cons rx .nil)) q)) (fun w s' z => ?_) fun _ _ z => z)
  obtain ⟨z', H', I', rz, b, rfl, qb⟩ := z
  obtain rfl : w = Value.bool b := rz
  exact wpAny_pure ⟨.bl (!b), H', I', rfl, qb⟩
/-- a op b, both of the class at C that writes op -/
def rBinOwn (C : Addr) (sp : Sp) (E : XK) : R2 := fun x y H Q => ∃ (a b dx dy : Addr) (fs gs : List (Str × V)), x = .ref a ∧ y = .ref b ∧ H a = some (.ins C dx fs) ∧ H b = some (.ins C dy gs) ∧ sp [.ref a, .ref b] H Q E
theorem k_binOwn {op : Operator} (o : Own X.K C (PySem.dunder op.info.2) g) (hc : PySem.W.selfFirst X.K C = true) (F : FnR X.prog X.w X.K X.mg X.base CX n g sp) (hr : Room n X.A) (hx : Passes CX X E) : OpR X (binaryOp op) (rBinOwn C sp E) := by
  intro pn s σ H x y v u Q I rx ry h
  obtain ⟨a, b, dx, dy, fs, gs, rfl, rfl, ha, hb, q⟩ := h
  obtain rfl : v = Value.ref a := rx
  obtain rfl : u = Value.ref b := ry
  obtain ⟨od, J⟩ := ins_at I ha
  obtain ⟨oe, J'⟩ := ins_at I hb
  obtain ⟨m, fr⟩ := I.fr
  refine PySem.W.binop_K fr I.ok.mod.kin J J'.type hc o.at_ o.fn (wpAny_mono (wpAny_call (run_fnR (us := [.ref a, .ref b]) (vs := [.ref a, .ref b]) F hr hx I (.cons rfl (.cons rfl .nil)) q)) (fun w s' z => ?_) fun _ _ z => z)
  obtain ⟨z', H', I', rz, qz⟩ := z
  exact SlX.cmpback rz ⟨z', H', I', rz, qz⟩
/-- a == b (or another comparison that the class at C writes), both of that class -/
theorem k_cmpOwn {op : CmpOp} (hop : ∀ a b, compareOp op a b = richCompare op a b) (o : Own X.K C (cmpInfo op).2.1 g) (F : FnR X.prog X.w X.K X.mg X.base CX n g sp) (hr : Room n X.A) (hx : Passes CX X E) : OpR X (compareOp op) (rBinOwn C sp E) := by
  intro pn s σ H x y v u Q I rx ry h
  obtain ⟨a, b, dx, dy, fs, gs, rfl, rfl, ha, hb, q⟩ := h
  obtain rfl : v = Value.ref a := rx
  obtain rfl : u = Value.ref b := ry
  obtain ⟨od, J⟩ := ins_at I ha
  obtain ⟨oe, J'⟩ := ins_at I hb
  obtain ⟨m, fr⟩ := I.fr
  rw [hop]
  refine PySem.W.cmp_K (op := op) (tb := .ref C) hr.units0 fr I.ok.mod.kin J J'.type (by simp [PySem.W.notFirst]) o.at_ o.fn (wpAny_mono (wpAny_call (run_fnR (us := [.ref a, .ref b]) (vs := [.ref a, .ref b]) F hr hx I (.cons rfl (.cons rfl .nil)) q)) (fun w s' z => ?_) fun _ _ z => z)
  obtain ⟨z', H', I', rz, qz⟩ := z
  exact SlX.cmpback rz ⟨z', H', I', rz, qz⟩
/-- len(a) -/
def rLenOwn (C : Addr) (sp : Sp) (E : XK) : List V → Hp → VK → Prop := fun xs H Q => ∃ (a dx : Addr) (fs : List (Str × V)), xs = [.ref a] ∧ H a = some (.ins C dx fs) ∧ sp [.ref a] H (fun r H' => ∃ k : Nat, r = .int k ∧ k ≤ 100000 ∧ Q (.int k) H') E
theorem k_lenOwn (o : Own X.K C "__len__" g) (F : FnR X.prog X.w X.K X.mg X.base CX n g sp) (hr : Room (n + 1) X.A) (hx : Passes CX X E) : CallR X (.builtin "len") (rLenOwn C sp E) := by
  intro pn s σ H xs us Q I r h
  obtain ⟨a, dx, fs, rfl, ha, q⟩ := h
  obtain ⟨u, rfl, ru⟩ := vals1 r
  obtain rfl : u = Value.ref a := ru
  obtain ⟨od, J⟩ := ins_at I ha
  obtain ⟨m, fr⟩ := I.fr
  refine PySem.W.len_K fr I.ok.mod.kin J o.at_ o.fn (wpAny_mono (wpAny_call (SlX.run_at (us := [.ref a]) (ws := [.ref a]) F (Room.in1 hr) I.env0.in1 hx I (.cons rfl .nil) q)) (fun w s' z => ?_) fun _ _ z => z)
  obtain ⟨z', H', I', rz, k, rfl, hk, qz⟩ := z
  obtain ⟨t, rfl⟩ := (show ∃ t, w = Value.int k t from rz)
  exact ⟨⟨by omega, by omega⟩, .int k, H', I'.tok _, ⟨_, rfl⟩, qz⟩
/-- a[k], a of the class at C that writes __getitem__ -/
def rSubOwn (C : Addr) (sp : Sp) (E : XK) : R2 := fun x y H Q => ∃ (a dx : Addr) (fs : List (Str × V)), x = .ref a ∧ H a = some (.ins C dx fs) ∧ sp [.ref a, y] H Q E
theorem pe_subOwn {e1 e2 : Expr} {t1 t2 : TE} {pos : Pos} (o : Own X.K C "__getitem__" g) (hg : PySem.W.fnIn X.K g = true) (F : FnR X.prog X.w X.K X.mg X.base CX n g sp) (hr : Room (n + 1) X.A) (hx : Passes CX X E) (h1 : PE X e1 t1) (h2 : PE X e2 t2)
    (hs : ∀ v u, subscripted e2 true v u = runValue (.builtin "lifetime.subscript" ⟨[v, u], []⟩) := by intro _ _; rfl) : PE X (.Subscript e1 e2 pos) (tOp (rSubOwn C sp E) t1 t2) := by
  refine ⟨fun pn s σ H Q I h => ?_⟩
  refine Subscript_ (binT h1 h2 I h fun v u s2 x y H2 I2 rx ry q => ?_)
  obtain ⟨a, dx, fs, rfl, ha, q⟩ := q
  obtain rfl : v = Value.ref a := rx
  obtain ⟨od, J⟩ := ins_at I2 ha
  obtain ⟨m, fr⟩ := I2.fr
  refine PySem.W.sub_K fr I2.ok.mod.kin J o.at_ hg o.fn (wpAny_mono (wpAny_call (SlX.run_at (us := [.ref a, u]) (ws := [.ref a, y]) F (Room.in1 hr) I2.env0.in1 hx I2 (.cons rfl (.cons ry .nil)) q)) (fun w s' z => z) fun _ _ z => z) (hs _ _)
end
end Tk

set_option Elab.async false
set_option linter.all false
set_option maxRecDepth 100000
set_option maxHeartbeats 4000000
/-! sets of texts: set(xs), len, sorted; the members as a list, none twice, in some order -/
namespace Ts
open PySem PySem.Spec PyProof.Rows L2
section
variable {P : Program} {w : World} {h h' : Heap} {a : Addr} {S : List Str}
abbrev sk (P : Program) (w : World) := PySem.strKind P w
/-- the text of a row of the table -/
def txOf (e : Int × Value) : Str := match e.2 with | .str x _ => x | _ => Str.empty
def IsTx (P : Program) (w : World) (e : Int × Value) : Prop := ∃ (x : Str) (u : Tok), e.2 = Value.str x u ∧ e.1 = (sk P w).hash x
/-- one more text -/
def addT (S : List Str) (x : Str) : List Str := if x ∈ S then S else x :: S
structure Raw (P : Program) (w : World) (h : Heap) (a : Addr) (S : List Str) (ob : Obj) (rows : Array (Int × Value)) (ep : Nat) (tb : SetTable) : Prop where
  at_ : h.get? a = some ob
  ex : ob.ExactSet
  dat : ob.data = .set rows ep tb
  txt : ∀ e ∈ rows.toList, IsTx P w e
  mem : (rows.toList.map txOf).Perm S
  nd : S.Nodup
  few : rows.size < scanBound
  fits : tb.fits rows.size = true
  ris : Ris tb.place.toList
  led : w.params.followText "set-order" = true ∨ tb.led = true
/-- the set of texts at a -/
def TSet (P : Program) (w : World) (h : Heap) (a : Addr) (S : List Str) : Prop := ∃ ob rows ep tb, Raw P w h a S ob rows ep tb
theorem TSet.keep (R : TSet P w h a S) (k : ∀ o, h.get? a = some o → h'.get? a = some o) : TSet P w h' a S := by
  obtain ⟨ob, rows, ep, tb, r⟩ := R
  exact ⟨ob, rows, ep, tb, { r with at_ := k ob r.at_ }⟩
theorem Raw.size {ob : Obj} {rows : Array (Int × Value)} {ep : Nat} {tb : SetTable} (r : Raw P w h a S ob rows ep tb) : rows.size = S.length := by
  have q := r.mem.length_eq
  rw [List.length_map, Array.length_toList] at q
  exact q
theorem tx_elems {l : List (Int × Value)} (g : ∀ e ∈ l, IsTx P w e) : ElemsOf (sk P w) l := by
  intro e he
  obtain ⟨x, u, h1, h2⟩ := g e he
  refine ⟨⟨x, ?_, h2⟩, ?_⟩ <;> rw [h1]
  · exact strKind_is P w x u
  · rfl
theorem tx_is {e : Int × Value} (g : IsTx P w e) (x : Str) : (sk P w).is x e.2 = true ↔ txOf e = x := by
  obtain ⟨y, u, h1, _⟩ := g
  unfold txOf
  rw [h1]
  constructor
  · intro z
    obtain ⟨u', z'⟩ := Value.isStrOf_shape (show Value.isStrOf x (.str y u) = true from z)
    injection z'
  · intro z
    rw [← z]
    exact strKind_is P w y u
end
section
variable {P : Program} {w : World} {A : Around} {E : Value → Shared → Prop} {s : Shared} {a : Addr} {S : List Str}
/-- the end of an adding: the rows are stored, and laid anew where they are too many -/
theorem add_end {gv : Bool → Sem Unit} (hgv : ∀ (b : Bool) (t : Shared) (Q' : Unit → Shared → Prop), Q' () t → wpAny (model P w) A (gv b) Q' E t) {ob : Obj} {rows rows1 : Array (Int × Value)} {ep : Nat} {tb tb1 : SetTable}
    (e1 : s.heap.get? a = some ob) (e2 : ob.ExactSet) (e3 : ob.data = .set rows ep tb) (g1 : ∀ e ∈ rows1.toList, IsTx P w e) (m1 : (rows1.toList.map txOf).Perm S) (n1 : S.Nodup) (f1 : rows1.size < scanBound)
    (t1 : tb1.fits rows1.size = true) (r1 : Ris tb1.place.toList) (l1 : w.params.followText "set-order" = true ∨ tb1.led = true) {dm : Bool} {R : Option Bool → Shared → Prop}
    (hR : ∀ h', Heap.SameBut a s.heap h' → TSet P w h' a S → R (some true) { s with heap := h' }) :
    wpAny (model P w) A (do storeSet a rows1 tb1; if (!dm && tb1.tooFull) = true then do { gv (relayAll tb1 rows1 (SetTable.grown rows1.size)).2.2; storeSet a (relayAll tb1 rows1 (SetTable.grown rows1.size)).1 (relayAll tb1 rows1 (SetTable.grown rows1.size)).2.1; pure (some true) } else pure (some true)) R E s := by
  have k1 := store_at (es' := rows1) (t' := tb1) e1 e3
  have b1 := Heap.SameBut.update s.heap a (Obj.putSet rows1 tb1)
  refine wpAny_bind (wpAny_storeSet_of e1 e3 ?_ (fits_of_scanBound f1))
  split
  case isFalse => exact wpAny_pure (hR _ b1 ⟨_, rows1, _, tb1, k1, e2, rfl, g1, m1, n1, f1, t1, r1, l1⟩)
  case isTrue =>
    have p2 := relayAll_perm tb1 rows1 (SetTable.grown rows1.size)
    have t2 := relayAll_fits tb1 rows1 (SetTable.grown rows1.size)
    have r2 := relayAll_ris tb1 rows1 (SetTable.grown rows1.size)
    have l2 := relayAll_led tb1 rows1 (SetTable.grown rows1.size)
    generalize relayAll tb1 rows1 (SetTable.grown rows1.size) = Z at p2 t2 r2 l2 ⊢
    obtain ⟨rows2, tb2, gw⟩ := Z
    dsimp only at p2 t2 r2 l2 ⊢
    have sz : rows2.size = rows1.size := by rw [← Array.length_toList, p2.length_eq, Array.length_toList]
    have f2 : rows2.size < scanBound := by rw [sz]; exact f1
    refine wpAny_bind (hgv _ _ _ (wpAny_bind (wpAny_storeSet_of k1 rfl ?_ (fits_of_scanBound f2))))
    have k2 := store_at (es' := rows2) (t' := tb2) k1 rfl
    exact wpAny_pure (hR _ (b1.trans (Heap.SameBut.update _ a _)) ⟨_, rows2, _, tb2, k2, e2, rfl, fun e he => g1 e (p2.mem_iff.mp he), (p2.map txOf).trans m1, n1, f2, t2, r2, l1.imp id fun z => by rw [l2]; exact z⟩)
theorem add_txt {x : Str} {u : Tok} {Q : Bool → Shared → Prop} (R : TSet P w s.heap a S) (room : S.length + 1 < scanBound)
    (hQ : ∀ h' b, Heap.SameBut a s.heap h' → TSet P w h' a (addT S x) → Q b { s with heap := h' }) : wpAny (model P w) A (setAddHashed a (.str x u) ((sk P w).hash x)) Q E s := by
  obtain ⟨ob, rows, ep, tb, r⟩ := R
  have isx : (sk P w).is x (.str x u) = true := strKind_is P w x u
  have sc : (Value.str x u).scannable = true := rfl
  have el : ElemsOf (sk P w) rows.toList := tx_elems r.txt
  unfold setAddHashed setAddHashedIn
  refine wpAny_holding (wpAny_bind (wpAny_setState_of r.at_ r.dat r.fits ?_))
  dsimp only
  rw [byScan_of sc r.few el]
  simp only [↓reduceIte]
  unfold setAddByScan
  refine wpAny_bind (wpAny_bind (wpAny_rule (wpAny_bind (wpAny_setScan_of isx r.at_ r.dat r.fits el ?_))))
  cases fi : List.findIdx? (fun e => (sk P w).is x e.2) rows.toList with
  | some j =>
    dsimp only
    obtain ⟨hj, pj, _⟩ := List.findIdx?_eq_some_iff_getElem.mp fi
    have hm : x ∈ S := r.mem.mem_iff.mp (List.mem_map.mpr ⟨rows.toList[j], List.getElem_mem hj, (tx_is (r.txt _ (List.getElem_mem hj)) x).mp pj⟩)
    refine wpAny_pure (wpAny_pure (hQ s.heap _ (Heap.SameBut.refl a s.heap) ?_))
    unfold addT
    rw [if_pos hm]
    exact ⟨ob, rows, ep, tb, r⟩
  | none =>
    dsimp only
    have nm : x ∉ S := fun z => by
      obtain ⟨e, he, q⟩ := List.mem_map.mp (r.mem.mem_iff.mpr z)
      have c := List.findIdx?_eq_none_iff.mp fi e he
      rw [(tx_is (r.txt e he) x).mpr q] at c
      cases c
    have gw : ∀ (b : Bool) {t : Shared} {Q' : Unit → Shared → Prop}, Q' () t → wpAny (model P w) A (match b with | true => rule "set.scan.the-table-gave-way" | false => pure ()) Q' E t := fun b t Q' q => by
      cases b
      · exact wpAny_pure q
      · exact wpAny_rule q
    have p1 := layNew_perm tb rows ((sk P w).hash x) (.str x u)
    have t1 := layNew_fits tb rows ((sk P w).hash x) (.str x u)
    have r1 := layNew_ris tb rows ((sk P w).hash x) (.str x u) r.ris
    have l1 := layNew_led tb rows ((sk P w).hash x) (.str x u)
    generalize layNew tb rows ((sk P w).hash x) (.str x u) = Z at p1 t1 r1 l1 ⊢
    obtain ⟨rows1, tb1, dm, gv⟩ := Z
    dsimp only at p1 t1 r1 l1 ⊢
    rw [Array.toList_push] at p1
    have pc : rows1.toList.Perm (((sk P w).hash x, Value.str x u) :: rows.toList) := p1.trans (List.perm_append_singleton _ _)
    have g1 : ∀ e ∈ rows1.toList, IsTx P w e := fun e he => by
      rcases List.mem_cons.mp (pc.mem_iff.mp he) with z | z
      · exact ⟨x, u, by rw [z], by rw [z]⟩
      · exact r.txt e z
    have es : addT S x = x :: S := if_neg nm
    have m1 : (rows1.toList.map txOf).Perm (addT S x) := by
      rw [es]
      exact (pc.map txOf).trans (List.Perm.cons x r.mem)
    have n1 : (addT S x).Nodup := by
      rw [es]
      exact List.nodup_cons.mpr ⟨nm, r.nd⟩
    have sz : rows1.size = S.length + 1 := by
      have q := m1.length_eq
      rw [es, List.length_map, Array.length_toList] at q
      exact q
    have f1 : rows1.size < scanBound := by rw [sz]; exact room
    have ld : w.params.followText "set-order" = true ∨ tb1.led = true := r.led.imp id fun z => by rw [l1]; exact z
    refine wpAny_bind (gw _ ?_)
    split
    · refine wpAny_bind ?_
      rw [hashByValue_scannable 8 sc]
      refine wpAny_pure ?_
      refine add_end ?_ r.at_ r.ex r.dat g1 m1 n1 f1 ?_ ?_ ?_ ?_
      · intro b t Q' q
        cases b <;> first | exact wpAny_pure q | exact wpAny_rule q
      · first | (split <;> first | exact t1 | exact SetTable.fits_plain_off t1) | exact t1
      · first | (split <;> exact r1) | exact r1
      · first | (split <;> exact ld) | exact ld
      · intro h' sb y; dsimp only; exact wpAny_pure (hQ h' _ sb y)
    · refine wpAny_bind (wpAny_pure ?_)
      simp only [↓reduceIte]
      refine add_end ?_ r.at_ r.ex r.dat g1 m1 n1 f1 t1 r1 ld ?_
      · intro b t Q' q
        cases b <;> first | exact wpAny_pure q | exact wpAny_rule q
      · intro h' sb y; dsimp only; exact wpAny_pure (hQ h' _ sb y)
end
/-- the texts of a row, the last one added last -/
def gather : List Str → List Str
  | [] => []
  | x :: xs => addT (gather xs) x
theorem addT_mem {S : List Str} {x y : Str} : y ∈ addT S x ↔ y = x ∨ y ∈ S := by
  unfold addT
  split
  · rename_i h
    exact ⟨.inr, fun z => z.elim (fun e => e ▸ h) id⟩
  · exact List.mem_cons
theorem gather_mem {xs : List Str} {y : Str} : y ∈ gather xs ↔ y ∈ xs := by
  induction xs with
  | nil => exact Iff.rfl
  | cons x xs ih => rw [gather, addT_mem, ih, List.mem_cons]
theorem addT_len (S : List Str) (x : Str) : (addT S x).length ≤ S.length + 1 := by
  unfold addT
  split
  · omega
  · exact Nat.le_refl _
theorem gather_len (xs : List Str) : (gather xs).length ≤ xs.length := by
  induction xs with
  | nil => exact Nat.le_refl _
  | cons x xs ih =>
    rw [gather, List.length_cons]
    exact Nat.le_trans (addT_len _ _) (by omega)

section
variable {P : Program} {w : World} {A : Around} {E : Value → Shared → Prop} {s : Shared}
theorem tset_new {h : Heap} {a : Addr} (e : h.get? a = some { cls := .type "set", dict := none, data := .set #[] 0 (.fresh 0 0 (!w.params.followText "set-order")) }) : TSet P w h a [] := by
  refine ⟨_, #[], 0, _, e, ⟨rfl, rfl, rfl⟩, rfl, ?_, .nil, .nil, by decide, rfl, .nil, ?_⟩
  · intro e he
    exact absurd he (by simp)
  · cases q : w.params.followText "set-order" with
    | true => exact .inl rfl
    | false => exact .inr rfl
/-- set.update's own loop, over anything that walks texts -/
theorem upd_loop {It : Addr} {fp wr : List Addr} {G : Array GenState → Array GenState → Prop} {n : Nat} {Pv : Nat → Value → Prop} {St : Nat → Shared → Prop} {R : Result → Shared → Prop} (W : WalksS P w A.in1 It fp wr G n Pv St) (D : Addr) (nf : D ∉ fp) (xs : List Str)
    (en : n = xs.length) (room : xs.length + 1 < scanBound) (hv : ∀ i v, Pv i v → ∃ x u, xs[i]? = some x ∧ v = Value.str x u) : ∀ (m i : Nat) (s : Shared), n - i = m → i ≤ n → St i s → TSet P w s.heap D (gather (xs.take i).reverse) →
      (∀ s', Moved (D :: wr) G s s' → TSet P w s'.heap D (gather xs.reverse) → R (.ok (.ret .none)) s') → codeAny (model P w) A (.builtin "set.update.loop" ⟨[.ref D, .ref It], []⟩) R s := by
  have nw : D ∉ wr := fun z => nf (W.sub _ z)
  have up : ∀ b ∈ wr, b ∈ D :: wr := fun b z => List.mem_cons_of_mem _ z
  intro m
  induction m with
  | zero =>
    intro i s e1 e2 st hS hR
    obtain rfl : i = n := by omega
    refine codeAny_builtin F.entry_set_update_loop (?_ : _)
    rw [Around.under_plainId F.plain_set_update_loop (_ : _)]
    show wpAny (model P w) A.in1 (pyNext (.ref It) >>= _) _ _ s
    refine wpAny_bind (W.done s _ _ st fun t mv => ?_)
    show wpAny (model P w) A.in1 (ret Value.none) _ _ t
    rw [List.take_of_length_le (show xs.length ≤ i by omega)] at hS
    exact wpAny_pure (hR t (mv.mono up) (hS.keep fun o e => mv.heap D o nw e))
  | succ m ih =>
    intro i s e1 e2 st hS hR
    have lt : i < n := by omega
    refine codeAny_builtin F.entry_set_update_loop (?_ : _)
    rw [Around.under_plainId F.plain_set_update_loop (_ : _)]
    show wpAny (model P w) A.in1 (pyNext (.ref It) >>= _) _ _ s
    refine wpAny_bind (W.item i s _ _ lt st fun v t pv st' mv => ?_)
    obtain ⟨x, u, hx, rfl⟩ := hv i v pv
    have hS1 : TSet P w t.heap D (gather (xs.take i).reverse) := hS.keep fun o e => mv.heap D o nw e
    show wpAny (model P w) A.in1 (holding [Value.str x u] (setAdd D (.str x u)) >>= _) _ _ t
    refine wpAny_bind (wpAny_holding (?_ : _))
    unfold setAdd
    refine wpAny_holding (wpAny_bind ((sk P w).pyHash (k := x) (strKind_is _ _ _ _) ?_))
    have ln : (gather (xs.take i).reverse).length + 1 < scanBound := by
      have q := gather_len (xs.take i).reverse
      rw [List.length_reverse, List.length_take] at q
      omega
    refine add_txt (s := { t with toks := t.toks + 1 }) hS1 ln fun h' b sb hS2 => ?_
    have hS3 : TSet P w h' D (gather (xs.take (i + 1)).reverse) := by
      rw [List.take_add_one, hx, List.reverse_append]
      exact hS2
    refine wpAny_pure ⟨plainId_quiet F.plain_set_update_loop _, ih (i + 1) _ (by omega) lt (W.frame _ t _ _ st' (Nat.le_succ _) fun c hc o e => ?_) hS3 fun t2 mv2 hS4 => ?_⟩
    · rw [sb.2 c fun z : c = D => nf (z ▸ hc)]
      exact e
    · refine hR t2 (Moved.trans W.gtrans ((mv.mono up).then_heap (Nat.le_succ _) fun c o hc e => ?_) mv2) hS4
      rw [sb.2 c fun z : c = D => hc (z ▸ List.mem_cons_self)]
      exact e
end
section
variable {P : Program} {w : World} {A : Around} {E : Value → Shared → Prop} {s : Shared}
/-- a new set -/
abbrev newS (w : World) : Obj := { cls := .type "set", dict := none, data := .set #[] 0 (.fresh 0 0 (!w.params.followText "set-order")) }

set_option maxHeartbeats 8000000 in
/-- set(xs), xs a list of texts -/
theorem set_list {l : Addr} {its : Array Value} {xs : List Str} {Q : Value → Shared → Prop} (hn : A.handled = none) (hl : s.heap.IsList l its) (hx : StrsAre its.toList xs) (room : xs.length + 1 < scanBound)
    (hQ : ∀ (h' : Heap) (tk : Nat), TSet P w h' s.heap.objs.size (gather xs.reverse) → (∀ b o, s.heap.get? b = some o → h'.get? b = some o) → Q (.ref s.heap.objs.size) { s with heap := h', toks := tk }) : wpAny (model P w) A (call (.type "set") [.ref l]) Q E s := by
  obtain ⟨mc, ml, mro⟩ := F.called_set.mro
  have mk := F.called_set.made
  have sb := F.called_set.sub
  refine wpAny_call (codeAny_of_tree (show wpAny (model P w) _ (callAny (.type "set") _) _ _ s from ?_))
  refine wpAny_pure ⟨Code.quiet_builtin _ (by decide +kernel), codeAny_builtin F.entry_type_call (?_ : _)⟩
  rw [Around.under_plain (weight_type_call_type "set" [.ref l] []) (by rfl)]
  have q1 := F.called_set.notType
  have q2 := F.called_set.canCreate
  have q3 := F.typeCall_set_1 (.ref l)
  repeat any_goals first | assumption | wp_step
  refine codeAny_mono (code_set_led1 (.ref l) (E := E) (Q₁ := fun v t => v = .ref s.heap.objs.size ∧ t = { s with heap := s.heap.push (newS w) }) ⟨rfl, rfl⟩) fun r t hr => ?_
  match r, hr with
  | .error e, hr => exact hr
  | .ok (.ret v), hr =>
    obtain ⟨rfl, rfl⟩ := hr
    have gS : (s.heap.push (newS w)).get? s.heap.objs.size = some (newS w) := Heap.get?_push_size _ rfl
    have tS : Shared.TypeIs { s with heap := s.heap.push (newS w) } (.ref s.heap.objs.size) "set" := ⟨_, gS, rfl⟩
    have i1 := F.called_set.init.lookup
    have i2 := F.called_set.init.bind (.ref s.heap.objs.size)
    repeat any_goals first | assumption | wp_step
    refine codeAny_mono (codeAny_call_builtin (R := wants (fun r t2 => r = .none ∧ ∃ h' tk, t2 = { s with heap := h', toks := tk } ∧ TSet P w h' s.heap.objs.size (gather xs.reverse) ∧ (∀ b o, s.heap.get? b = some o → h'.get? b = some o)) E) F.called_set.init.plain F.entry_set_init (check_set_init_1 tS ?_)) fun r2 t2 hr2 => ?_
    · obtain ⟨⟨c0, d0, dat0, sl0⟩, o1, o2, n0, o3⟩ := hl
      simp only at o2 o3
      subst o2
      subst o3
      have o1' : (s.heap.push (newS w)).get? l = some { cls := .type "list", dict := d0, data := .seq its n0, slots := sl0 } := Heap.get?_push_of_some _ o1
      have s1 := F.sub_list_set
      have s2 := F.sub_list_frozenset
      have ne : (Value.type "list" == Value.type "dict") = false := by decide
      have l1 : (s.heap.push (newS w)).IsList l its := ⟨_, o1', rfl, n0, rfl⟩
      unfold Builtin.«set.__init__» noKeywords Builtin.Frozenset.updateFrom
      generalize ePI : pyIter = PI
      wp_walk
      subst ePI
      refine wpAny_pyIter_list l1 (wpAny_bind (wpAny_runValue ?_))
      have lt := Heap.lt_size o1
      have hn3 : A.in1.in1.in1.handled = none := by simp [hn]
      have zz : (s.heap.push (newS w)).objs.size = s.heap.objs.size + 1 := Heap.size_push ..
      have nI : l ≠ (s.heap.push (newS w)).objs.size := by
        rw [zz]
        exact Nat.ne_of_lt (Nat.lt_succ_of_lt lt)
      have nf : s.heap.objs.size ∉ [(s.heap.push (newS w)).objs.size, l] := by
        rw [zz]
        simp only [List.mem_cons, List.not_mem_nil, or_false, not_or]
        exact ⟨Nat.ne_of_lt (Nat.lt_succ_self _), Nat.ne_of_gt lt⟩
      have sz : its.size = xs.length := by rw [← Array.length_toList]; exact StrsAre.length hx
      refine upd_loop ((Walks.list hn3 _ l nI its).toS) s.heap.objs.size nf xs sz room (fun i v z => ?_) (its.size - 0) 0 _ (by omega) (Nat.zero_le _) ⟨⟨_, Heap.get?_push_size _ rfl, rfl, rfl⟩, l1.push _⟩ (tset_new (Heap.get?_push_of_some _ gS)) ?_
      · obtain ⟨y, u, e1, e2⟩ := StrsAre.item hx i v (by rw [Array.getElem?_toList]; exact z)
        exact ⟨y, u, e2, e1⟩
      · rintro ⟨h', g', d', tk', os'⟩ mv hS
        obtain rfl : g' = s.gens := mv.gens
        obtain rfl : d' = s.drawn := mv.drawn
        obtain rfl : os' = s.os := mv.os
        show wpAny _ _ _ _ _ _
        refine wpAny_pure (show wpAny _ _ (ret Value.none) _ _ _ from wpAny_pure ⟨rfl, h', tk', rfl, hS, fun b o e => ?_⟩)
        have lb := Heap.lt_size e
        refine mv.heap b o ?_ (Heap.get?_push_of_some _ (Heap.get?_push_of_some _ e))
        rw [zz]
        simp only [List.mem_cons, List.not_mem_nil, or_false, not_or]
        exact ⟨Nat.ne_of_lt lb, Nat.ne_of_lt (Nat.lt_succ_of_lt lb)⟩
    · match r2, hr2 with
      | .error e, hr2 => exact hr2
      | .ok (.ret v2), hr2 =>
        obtain ⟨rfl, h', tk, rfl, hS, k⟩ := hr2
        repeat any_goals first | assumption | wp_step
        exact hQ _ _ hS k

set_option maxHeartbeats 8000000 in
/-- set(xs), xs a tuple of texts -/
theorem set_tuple {l : Addr} {its : Array Value} {xs : List Str} {Q : Value → Shared → Prop} (hn : A.handled = none) (hl : s.heap.IsTuple l its) (hx : StrsAre its.toList xs) (room : xs.length + 1 < scanBound)
    (hQ : ∀ (h' : Heap) (tk : Nat), TSet P w h' s.heap.objs.size (gather xs.reverse) → (∀ b o, s.heap.get? b = some o → h'.get? b = some o) → Q (.ref s.heap.objs.size) { s with heap := h', toks := tk }) : wpAny (model P w) A (call (.type "set") [.ref l]) Q E s := by
  obtain ⟨mc, ml, mro⟩ := F.called_set.mro
  have mk := F.called_set.made
  have sb := F.called_set.sub
  refine wpAny_call (codeAny_of_tree (show wpAny (model P w) _ (callAny (.type "set") _) _ _ s from ?_))
  refine wpAny_pure ⟨Code.quiet_builtin _ (by decide +kernel), codeAny_builtin F.entry_type_call (?_ : _)⟩
  rw [Around.under_plain (weight_type_call_type "set" [.ref l] []) (by rfl)]
  have q1 := F.called_set.notType
  have q2 := F.called_set.canCreate
  have q3 := F.typeCall_set_1 (.ref l)
  repeat any_goals first | assumption | wp_step
  refine codeAny_mono (code_set_led1 (.ref l) (E := E) (Q₁ := fun v t => v = .ref s.heap.objs.size ∧ t = { s with heap := s.heap.push (newS w) }) ⟨rfl, rfl⟩) fun r t hr => ?_
  match r, hr with
  | .error e, hr => exact hr
  | .ok (.ret v), hr =>
    obtain ⟨rfl, rfl⟩ := hr
    have gS : (s.heap.push (newS w)).get? s.heap.objs.size = some (newS w) := Heap.get?_push_size _ rfl
    have tS : Shared.TypeIs { s with heap := s.heap.push (newS w) } (.ref s.heap.objs.size) "set" := ⟨_, gS, rfl⟩
    have i1 := F.called_set.init.lookup
    have i2 := F.called_set.init.bind (.ref s.heap.objs.size)
    repeat any_goals first | assumption | wp_step
    refine codeAny_mono (codeAny_call_builtin (R := wants (fun r t2 => r = .none ∧ ∃ h' tk, t2 = { s with heap := h', toks := tk } ∧ TSet P w h' s.heap.objs.size (gather xs.reverse) ∧ (∀ b o, s.heap.get? b = some o → h'.get? b = some o)) E) F.called_set.init.plain F.entry_set_init (check_set_init_1 tS ?_)) fun r2 t2 hr2 => ?_
    · obtain ⟨⟨c0, d0, dat0, sl0⟩, o1, o2, n0, o3⟩ := hl
      simp only at o2 o3
      subst o2
      subst o3
      have o1' : (s.heap.push (newS w)).get? l = some { cls := .type "tuple", dict := d0, data := .seq its n0, slots := sl0 } := Heap.get?_push_of_some _ o1
      have s1 := F.sub_tuple_set
      have s2 := F.sub_tuple_frozenset
      have ne : (Value.type "tuple" == Value.type "dict") = false := by decide
      have l1 : (s.heap.push (newS w)).IsTuple l its := ⟨_, o1', rfl, n0, rfl⟩
      unfold Builtin.«set.__init__» noKeywords Builtin.Frozenset.updateFrom
      generalize ePI : pyIter = PI
      wp_walk
      subst ePI
      refine wpAny_pyIter_tuple l1 (wpAny_bind (wpAny_runValue ?_))
      have lt := Heap.lt_size o1
      have hn3 : A.in1.in1.in1.handled = none := by simp [hn]
      have zz : (s.heap.push (newS w)).objs.size = s.heap.objs.size + 1 := Heap.size_push ..
      have nI : l ≠ (s.heap.push (newS w)).objs.size := by
        rw [zz]
        exact Nat.ne_of_lt (Nat.lt_succ_of_lt lt)
      have nf : s.heap.objs.size ∉ [(s.heap.push (newS w)).objs.size, l] := by
        rw [zz]
        simp only [List.mem_cons, List.not_mem_nil, or_false, not_or]
        exact ⟨Nat.ne_of_lt (Nat.lt_succ_self _), Nat.ne_of_gt lt⟩
      have sz : its.size = xs.length := by rw [← Array.length_toList]; exact StrsAre.length hx
      refine upd_loop ((Walks.tuple hn3 _ l nI its).toS) s.heap.objs.size nf xs sz room (fun i v z => ?_) (its.size - 0) 0 _ (by omega) (Nat.zero_le _) ⟨⟨_, Heap.get?_push_size _ rfl, rfl, rfl⟩, l1.push _⟩ (tset_new (Heap.get?_push_of_some _ gS)) ?_
      · obtain ⟨y, u, e1, e2⟩ := StrsAre.item hx i v (by rw [Array.getElem?_toList]; exact z)
        exact ⟨y, u, e2, e1⟩
      · rintro ⟨h', g', d', tk', os'⟩ mv hS
        obtain rfl : g' = s.gens := mv.gens
        obtain rfl : d' = s.drawn := mv.drawn
        obtain rfl : os' = s.os := mv.os
        show wpAny _ _ _ _ _ _
        refine wpAny_pure (show wpAny _ _ (ret Value.none) _ _ _ from wpAny_pure ⟨rfl, h', tk', rfl, hS, fun b o e => ?_⟩)
        have lb := Heap.lt_size e
        refine mv.heap b o ?_ (Heap.get?_push_of_some _ (Heap.get?_push_of_some _ e))
        rw [zz]
        simp only [List.mem_cons, List.not_mem_nil, or_false, not_or]
        exact ⟨Nat.ne_of_lt lb, Nat.ne_of_lt (Nat.lt_succ_of_lt lb)⟩
    · match r2, hr2 with
      | .error e, hr2 => exact hr2
      | .ok (.ret v2), hr2 =>
        obtain ⟨rfl, h', tk, rfl, hS, k⟩ := hr2
        repeat any_goals first | assumption | wp_step
        exact hQ _ _ hS k
end
/-! sorted(a set of texts) -/
section
variable {P : Program} {w : World} {A : Around} {E : Value → Shared → Prop} {s : Shared}
theorem strs_from : ∀ {vs : List Value} {l : List (Int × Value)}, vs.Perm (l.map (·.2)) → (∀ e ∈ l, IsTx P w e) → ∃ ys : List Str, StrsAre vs ys ∧ ys.Perm (l.map txOf) := by
  intro vs l pm g
  have all : ∀ v ∈ vs, ∃ x u, v = Value.str x u := fun v hv => by
    obtain ⟨e, he, q⟩ := List.mem_map.mp (pm.mem_iff.mp hv)
    obtain ⟨x, u, h1, _⟩ := g e he
    exact ⟨x, u, by rw [← q, h1]⟩
  let f : Value → Str := fun v => match v with | .str x _ => x | _ => Str.empty
  refine ⟨vs.map f, ?_, ?_⟩
  · clear pm
    induction vs with
    | nil => exact .nil
    | cons v vs ih =>
      obtain ⟨x, u, rfl⟩ := all v List.mem_cons_self
      exact .cons x u (ih fun y hy => all y (List.mem_cons_of_mem _ hy))
  · have q := pm.map f
    rw [List.map_map] at q
    exact q
theorem sorted_txt {a : Addr} {S : List Str} {Q : Value → Shared → Prop} (R : TSet P w s.heap a S) (hn : A.handled = none) (few : S.length < 64)
    (hQ : ∀ t p (out : Array Value) (c : Nat) (ys : List Str), (∀ b o, s.heap.get? b = some o → t.heap.get? b = some o) → t.gens = s.gens → t.os = s.os → s.heap.objs.size ≤ p → t.heap.get? p = some (seqObj "list" out c) → StrsAre out.toList ys → ys.Perm S → sortedS ys = true → Q (.ref p) t) :
    wpAny (model P w) A (call (.builtin "sorted") [.ref a]) Q E s := by
  obtain ⟨ob, rows, ep, tb, r⟩ := R
  refine Calls.call_function_entry kind_sorted plain_sorted entry_sorted (args_sorted1 _) (?_ : _)
  unfold Builtin.«sorted»
  refine wpAny_bind (m := checkCount "sorted" 1 1 _) (wpAny_pure (wpAny_bind (collect_set (A := A.in1) hn ⟨ob, r.at_, r.ex.1, r.dat⟩ r.fits r.few r.ris r.led fun t vs k1 hz g1 o1 pm => ?_)))
  obtain ⟨zs, hS, pz⟩ := strs_from pm r.txt
  have pS : zs.Perm S := pz.trans r.mem
  have vl : vs.length < 64 := by rw [StrsAre.length hS, pS.length_eq]; exact few
  refine wpAny_bind (wpAny_newList (?_ : _) (by rw [sizeLine_eq]; omega))
  have oL : (t.heap.push (seqObj "list" vs.toArray 0)).get? t.heap.objs.size = some (seqObj "list" vs.toArray 0) := Heap.get?_push_size _ rfl
  refine wpAny_bind (wpAny_holding (wpAny_call_entry slot_list_sort ⟨_, oL, rfl⟩ entry_list_sort (list_sort_treeK (κ := PyProof.Rows.strKind) strKind_oneLt oL hS.keysOf (fun v₁ v₂ rest e => keyKind_strs (by rw [← e]; exact hS)) vl fun st hp hs => ⟨_, rfl, ?_⟩) (args_list_sort _)))
  obtain ⟨ys, e1, e2, e3⟩ := sorted_out_str hS hp hs
  obtain ⟨c, hc⟩ := sortedHeap_at (vs := vs) (out := (arrOf st).map (·.2)) oL
  refine wpAny_pure ⟨_, rfl, hQ _ t.heap.objs.size _ c ys (fun b u e => ?_) g1 o1 hz hc e1 (e2.trans pS) e3⟩
  have q := k1 b u e
  have lt := Heap.lt_size q
  show (sortedHeap (t.heap.push (seqObj "list" vs.toArray 0)) t.heap.objs.size vs _).get? b = some u
  rw [sortedHeap_old (Nat.ne_of_lt lt) (by rw [size_push']; exact Nat.lt_succ_of_lt lt)]
  exact Heap.get?_push_of_some _ q
end
end Ts

set_option Elab.async false
set_option linter.all false
set_option maxRecDepth 100000
set_option maxHeartbeats 4000000
/-! set(xs), sorted(set), len(set) of texts as rules; tables of the module; zip of tuples -/
namespace Tk
open PySem PySem.Spec PyProof.Rows L2 Ts
def TSetO (P : Program) (w : World) (a : Addr) (S : List Str) : HO := .ext fun h => TSet P w h a S
theorem tset_ok {P : Program} {w : World} {H : Hp} {h : Heap} {a : Addr} {S : List Str} (R : TSet P w h a S) : ObjOk P w H h a (TSetO P w a S) :=
  ⟨R, by obtain ⟨o, _, _, _, r⟩ := R; exact ⟨o, r.at_⟩, fun _ _ p k => TSet.keep p k⟩
section
variable {X : Cx} {K : PySem.W.Frag}
theorem tset_get {pn : List (Addr × Obj)} {σ : L2.St} {H : Hp} {s : Shared} {a : Addr} {S : List Str} (I : Inv X pn σ H s) (e : H a = some (TSetO X.prog X.w a S)) : TSet X.prog X.w s.heap a S := (I.hok a _ e).1
def rSetX (K : PySem.W.Frag) (P : Program) (w : World) : List V → Hp → VK → Prop := fun vs H Q => ∃ (l : Addr) (xs : List Str), vs = [.ref l] ∧ (SqL K H l (xs.map V.str) ∨ SqT K H l (xs.map V.str)) ∧ xs.length ≤ 4000 ∧ ∀ p, H p = none → Q (.ref p) (upd H p (TSetO P w p (gather xs.reverse)))
theorem k_setX (hc : X.calm = true) (e : X.K = K := by rfl) : CallR X (.type "set") (rSetX K X.prog X.w) := by
  subst e
  intro pn s σ H vs us Q I r h
  obtain ⟨l, xs, rfl, hq, hl, q⟩ := h
  rw [Vals.ref1 r]
  have sb : xs.length + 1 < scanBound := by unfold scanBound; omega
  have go : ∀ (h' : Heap) (tk : Nat), TSet X.prog X.w h' s.heap.objs.size (gather xs.reverse) → (∀ b o, s.heap.get? b = some o → h'.get? b = some o) → (fun v s' => EP X pn σ Q v s') (.ref s.heap.objs.size) { s with heap := h', toks := tk } := fun h' tk R k =>
    ⟨.ref _, upd H s.heap.objs.size (TSetO X.prog X.w s.heap.objs.size (gather xs.reverse)), I.laid (t' := tk) k (Nat.le_refl _) (tset_ok R), rfl, q _ (I.hok.fresh (Nat.le_refl _))⟩
  rcases hq with hq | hq
  · obtain ⟨its, rv, pl, _⟩ := I.list hq
    exact set_list (I.ok.hd hc) pl.isList (by simpa using strsAre_of rv) sb go
  · obtain ⟨its, rv, pl, _⟩ := I.tuple hq
    exact set_tuple (I.ok.hd hc) pl (by simpa using strsAre_of rv) sb go
def rSortX (P : Program) (w : World) : List V → Hp → VK → Prop := fun vs H Q => ∃ (a : Addr) (S : List Str), vs = [.ref a] ∧ H a = some (TSetO P w a S) ∧ S.length < 64 ∧ ∀ ys p, ys.Perm S → sortedS ys = true → H p = none → Q (.ref p) (upd H p (.lst (ys.map V.str)))
theorem k_sortX (hc : X.calm = true) : CallR X (.builtin "sorted") (rSortX X.prog X.w) := by
  intro pn s σ H vs us Q I r h
  obtain ⟨a, S, rfl, ha, few, q⟩ := h
  rw [Vals.ref1 r]
  refine sorted_txt (tset_get I ha) (I.ok.hd hc) few fun t p out c ys k g o hp at_ hs pm srt => ?_
  have hn : H p = none := I.hok.fresh hp
  have hlen : (ys.map V.str).length ≤ sizeLine := by
    rw [List.length_map, pm.length_eq, sizeLine_eq]
    omega
  have J : Inv X pn σ (upd H p (.lst (ys.map V.str))) { s with heap := t.heap, gens := t.gens, drawn := t.drawn, toks := t.toks } :=
    I.call (ch := []) (Un.laid k hp hn) (I.hok.laid k hp ⟨hlen, out.toList, c, vals_of_strs hs, at_⟩) (by rw [g]; exact I.bare) (fun _ z => nomatch z)
  have e : t = { s with heap := t.heap, gens := t.gens, drawn := t.drawn, toks := t.toks } := by
    obtain ⟨a1, a2, a3, a4, a5⟩ := t
    obtain rfl : a5 = s.os := o
    rfl
  rw [e]
  exact ⟨.ref p, _, J, rfl, q ys p pm srt hn⟩
def rLenX (P : Program) (w : World) : List V → Hp → VK → Prop := fun vs H Q => ∃ (a : Addr) (S : List Str), vs = [.ref a] ∧ H a = some (TSetO P w a S) ∧ Q (.int (S.length : Nat)) H
theorem k_lenX : CallR X (.builtin "len") (rLenX X.prog X.w) := by
  intro pn s σ H vs us Q I r h
  obtain ⟨a, S, rfl, ha, q⟩ := h
  rw [Vals.ref1 r]
  obtain ⟨ob, rows, ep, tb, R⟩ := tset_get I ha
  have sz := R.size
  have fw := R.few
  refine call_len_set R.at_ R.ex R.dat R.fits (by unfold scanBound at fw; omega) ⟨.int (S.length : Nat), H, I.tok _, ⟨_, by rw [sz]⟩, q⟩
end
section
variable {K : PySem.W.Frag} {P : Program} {w : World} {H : Hp} {Q : VK} {l : Addr} {xs S : List Str}
theorem r_setXL (h : H l = some (.lst (xs.map V.str))) (hl : xs.length ≤ 4000) (q : ∀ p H2, H p = none → Same H H2 → H2 p = some (TSetO P w p (gather xs.reverse)) → Q (.ref p) H2) : rSetX K P w [.ref l] H Q := ⟨l, xs, rfl, .inl (SqL.of h), hl, fun p hp => q p _ hp (Same.new hp) upd_same⟩
theorem r_setXT (h : H l = some (.tup (xs.map V.str))) (hl : xs.length ≤ 4000) (q : ∀ p H2, H p = none → Same H H2 → H2 p = some (TSetO P w p (gather xs.reverse)) → Q (.ref p) H2) : rSetX K P w [.ref l] H Q := ⟨l, xs, rfl, .inr (SqT.of h), hl, fun p hp => q p _ hp (Same.new hp) upd_same⟩
theorem r_sortX {a : Addr} (h : H a = some (TSetO P w a S)) (hl : S.length < 64) (q : ∀ ys p H2, ys.Perm S → sortedS ys = true → H p = none → Same H H2 → H2 p = some (.lst (ys.map V.str)) → Q (.ref p) H2) : rSortX P w [.ref a] H Q := ⟨a, S, rfl, h, hl, fun ys p pm st hp => q ys p _ pm st hp (Same.new hp) upd_same⟩
end
/-! ### ascending texts -/
def ltS (x y : Str) : Prop := x.cps.toList < y.cps.toList
instance (x y : Str) : Decidable (ltS x y) := inferInstanceAs (Decidable (x.cps.toList < y.cps.toList))
theorem ltS_irr (x : Str) : ¬ ltS x x := fun h => absurd h (by simp [ltS])
theorem ltS_tr {x y z : Str} (a : ltS x y) (b : ltS y z) : ltS x z := List.lt_trans a b
theorem ltS_tot {x y : Str} (a : ¬ ltS x y) (b : ¬ ltS y x) : x = y := TL.ext_tl (List.le_antisymm (List.not_lt.mp b) (List.not_lt.mp a))
/-- each one less than the next one -/
def ascB : List Str → Bool
  | [] => true
  | [_] => true
  | x :: y :: r => decide (ltS x y) && ascB (y :: r)
theorem asc_pair : ∀ {l : List Str}, ascB l = true ↔ l.Pairwise ltS
  | [] => by simp [ascB]
  | [x] => by simp [ascB]
  | x :: y :: r => by
    rw [ascB, Bool.and_eq_true, decide_eq_true_eq, asc_pair (l := y :: r)]
    constructor
    · rintro ⟨h1, h2⟩
      refine List.pairwise_cons.mpr ⟨fun z hz => ?_, h2⟩
      rcases List.mem_cons.mp hz with rfl | hz
      · exact h1
      · exact ltS_tr h1 ((List.pairwise_cons.mp h2).1 z hz)
    · intro h
      obtain ⟨h1, h2⟩ := List.pairwise_cons.mp h
      exact ⟨h1 y List.mem_cons_self, h2⟩
theorem sorted_pair : ∀ {l : List Str}, sortedS l = true → l.Pairwise fun x y => ¬ ltS y x
  | [], _ => .nil
  | [x], _ => List.pairwise_singleton _ x
  | x :: y :: r, h => by
    have h : (!ltCps y.cps.toList x.cps.toList && risingS y r) = true := h
    rw [Bool.and_eq_true, Bool.not_eq_true', ltCps_eq, decide_eq_false_iff_not] at h
    have t := sorted_pair (l := y :: r) h.2
    refine List.pairwise_cons.mpr ⟨fun z hz => ?_, t⟩
    rcases List.mem_cons.mp hz with rfl | hz
    · exact h.1
    · intro c
      have n := (List.pairwise_cons.mp t).1 z hz
      by_cases yz : ltS y z
      · exact h.1 (ltS_tr yz c)
      · have e : y = z := ltS_tot yz n
        rw [← e] at c
        exact h.1 c
theorem nodup_gather : ∀ (l : List Str), (gather l).Nodup
  | [] => .nil
  | x :: l => by
    rw [gather]
    unfold addT
    split
    · exact nodup_gather l
    · rename_i h
      exact List.nodup_cons.mpr ⟨h, nodup_gather l⟩
theorem sorted_nodup {l : List Str} (h : sortedS l = true) (n : l.Nodup) : l.Pairwise ltS := by
  have p := sorted_pair h
  have q : l.Pairwise fun x y => ¬ ltS y x ∧ x ≠ y := List.Pairwise.and p n
  exact q.imp fun {x y} ⟨a, b⟩ => Classical.byContradiction fun c => b (ltS_tot c a)
/-- sorted(set(xs)) == xs where xs ascends -/
theorem asc_sorted {xs ys : List Str} (pm : ys.Perm (gather xs.reverse)) (st : sortedS ys = true) : decide (xs = ys) = ascB xs := by
  have ny : ys.Nodup := pm.nodup_iff.mpr (nodup_gather _)
  have ay := sorted_nodup st ny
  by_cases h : ascB xs = true
  · rw [h, decide_eq_true_eq]
    have ax := asc_pair.mp h
    have nx : xs.Nodup := List.Pairwise.imp (S := fun x y => x ≠ y) (fun {x y} (l : ltS x y) (e : x = y) => ltS_irr x (by rw [← e] at l; exact l)) ax
    have p2 : xs.Perm ys := (List.perm_ext_iff_of_nodup nx ny).mpr fun z => by rw [pm.mem_iff, gather_mem, List.mem_reverse]
    exact List.Perm.eq_of_pairwise (le := ltS) (fun x y _ _ a b => absurd (ltS_tr a b) (ltS_irr x)) ax ay p2
  · rw [Bool.not_eq_true] at h
    rw [h, decide_eq_false_iff_not]
    intro e
    rw [← e] at ay
    rw [asc_pair.mpr ay] at h
    cases h
theorem strs_data {K : PySem.W.Frag} {H : Hp} : ∀ (xs : List Str), DdAll K H (xs.map V.str) (xs.map PyData.str)
  | [] => .nil
  | x :: xs => .cons (.str x) (strs_data xs)
theorem strs_plain (xs : List Str) : PyData.plainAll (xs.map PyData.str) = true := by
  induction xs with
  | nil => rfl
  | cons x xs ih =>
    rw [List.map_cons, PyData.plainAll, ih]
    rfl
theorem strs_depth (xs : List Str) : PyData.depthAll (xs.map PyData.str) = 0 := by
  induction xs with
  | nil => rfl
  | cons x xs ih =>
    rw [List.map_cons, PyData.depthAll, ih]
    rfl
theorem strs_eqv : ∀ (xs ys : List Str), PyData.eqvAll (xs.map PyData.str) (ys.map PyData.str) = decide (xs = ys)
  | [], [] => rfl
  | [], y :: ys => by simp [PyData.eqvAll]
  | x :: xs, [] => by simp [PyData.eqvAll]
  | x :: xs, y :: ys => by
    rw [List.map_cons, List.map_cons, PyData.eqvAll, strs_eqv xs ys, PyData.eqv]
    by_cases h : x = y
    · subst h
      simp
    · have b : (x == y) = false := beq_eq_false_iff_ne.mpr h
      simp [h, b]
/-! ### written tables: a dict from texts to tuples of texts -/
def RowAt (K : PySem.W.Frag) (P : Params) (e : DictEntry) (r : Str × List Str) : Prop := (∃ t, e.key = .str r.1 t ∧ e.hash = PyData.keyHash P r.1) ∧ ∃ (b : Addr), e.val = .ref b ∧ ∃ (o : Obj) (its : Array Value) (n : Nat), K.lookup b = some o ∧ o.cls = .type "tuple" ∧ o.data = .seq its n ∧ its.size ≤ sizeLine ∧ StrsAre its.toList r.2
inductive RowsAt (K : PySem.W.Frag) (P : Params) : List DictEntry → List (Str × List Str) → Prop
  | nil : RowsAt K P [] []
  | cons {e : DictEntry} {es : List DictEntry} {r : Str × List Str} {rs : List (Str × List Str)} : RowAt K P e r → RowsAt K P es rs → RowsAt K P (e :: es) (r :: rs)
def TabK (K : PySem.W.Frag) (P : Params) (D : Addr) (rows : List (Str × List Str)) : Prop := ∃ es n, K.lookup D = some ⟨.type "dict", none, .dict es n, #[]⟩ ∧ (D == sysModules) = false ∧ RowsAt K P es.toList rows
theorem rows_lit {K : PySem.W.Frag} {P : Params} : ∀ {es : List DictEntry} {rows : List (Str × List Str)}, RowsAt K P es rows → PySem.W.KeysLit P es
  | _, _, .nil => trivial
  | _, _, .cons h t => ⟨⟨_, h.1⟩, rows_lit t⟩
theorem vals_strs : ∀ {us : List Value} {xs : List Str}, StrsAre us xs → Vals (xs.map V.str) us
  | _, _, .nil => .nil
  | _, _, .cons x t h => .cons ⟨t, rfl⟩ (vals_strs h)
theorem rows_find {K : PySem.W.Frag} {P : Params} {x : Str} : ∀ {es : List DictEntry} {rows : List (Str × List Str)}, RowsAt K P es rows →
    (∃ f e b, rows.lookup x = some f ∧ es.find? (fun d => Value.isStrOf x d.key) = some e ∧ e.val = .ref b ∧ ∀ H, SqT K H b (f.map V.str)) ∨ (rows.lookup x = none ∧ es.find? (fun d => Value.isStrOf x d.key) = none)
  | _, _, .nil => .inr ⟨rfl, rfl⟩
  | _, _, .cons (e := e) (r := r) (es := es) (rs := rs) h t => by
    obtain ⟨⟨tk, k1, _⟩, b, k2, o, its, n, l1, l2, l3, l4, l5⟩ := h
    obtain ⟨y, f⟩ := r
    have ky : Value.isStrOf x e.key = decide (x = y) := by
      rw [k1]
      show (y == x) = _
      by_cases z : x = y
      · rw [decide_eq_true z, z]; exact beq_self_eq_true y
      · rw [decide_eq_false z]; exact beq_eq_false_iff_ne.mpr fun q => z q.symm
    by_cases z : x = y
    · subst z
      refine .inl ⟨f, e, b, by simp [List.lookup], by rw [List.find?_cons, ky]; simp, k2, fun H => .inr ⟨o, its, n, l1, l2, l3, l4, vals_strs l5⟩⟩
    · have n1 : ((y, f) :: rs).lookup x = rs.lookup x := by
        have : (x == y) = false := beq_eq_false_iff_ne.mpr z
        simp [List.lookup, this]
      have n2 : (e :: es).find? (fun d => Value.isStrOf x d.key) = es.find? (fun d => Value.isStrOf x d.key) := by
        rw [List.find?_cons, ky, decide_eq_false z]
      rw [n1, n2]
      exact rows_find t
theorem tab_find {K : PySem.W.Frag} {P : Params} {D : Addr} {rows : List (Str × List Str)} {es : Array DictEntry} (R : RowsAt K P es.toList rows) (x : Str) : (∃ f b, rows.lookup x = some f ∧ findBy Value.isStrOf es x = some (.ref b) ∧ ∀ H, SqT K H b (f.map V.str)) ∨ (rows.lookup x = none ∧ findBy Value.isStrOf es x = none) := by
  obtain ⟨l⟩ := es
  unfold findBy
  rw [List.find?_toArray]
  rcases rows_find (x := x) R with ⟨f, e, b, h1, h2, h3, h4⟩ | ⟨h1, h2⟩
  · exact .inl ⟨f, b, h1, by rw [h2, ← h3]; rfl, h4⟩
  · exact .inr ⟨h1, by rw [h2]; rfl⟩
def rTabNot (K : PySem.W.Frag) (P : Params) : R2 := fun x y H Q => ∃ D rows z, x = .str z ∧ y = .ref D ∧ TabK K P D rows ∧ Q (.bl (rows.lookup z).isNone) H
def rTabIx (K : PySem.W.Frag) (P : Params) : R2 := fun x y H Q => ∃ D rows z f, x = .ref D ∧ y = .str z ∧ TabK K P D rows ∧ rows.lookup z = some f ∧ ∀ b, (∀ H', SqT K H' b (f.map V.str)) → Q (.ref b) H
section
variable {X : Cx} {K : PySem.W.Frag} {P : Params}
theorem k_tabNot (e : X.K = K := by rfl) (e2 : X.w.params = P := by rfl) : OpR X (compareOp .NotIn) (rTabNot K P) := by
  subst e e2
  intro pn s σ H x y v u Q I rx ry h
  obtain ⟨D, rows, z, rfl, rfl, ⟨es, n, hl, lo, R⟩, q⟩ := h
  obtain ⟨t, rfl⟩ := (show ∃ t, v = Value.str z t from rx)
  obtain rfl : u = Value.ref D := ry
  have hm := PySem.W.mapOf_K (prog := X.prog) (w := X.w) I.kIn hl (rows_lit R)
  refine wpAny_notIn_of (strKind_is X.prog X.w z t) lo hm ?_
  rcases tab_find (D := D) R z with ⟨f, b, h1, h2, _⟩ | ⟨h1, h2⟩
  · rw [h1] at q
    rw [h2]
    exact ⟨.bl false, H, I.tok _, rfl, q⟩
  · rw [h1] at q
    rw [h2]
    exact ⟨.bl true, H, I.tok _, rfl, q⟩
theorem k_tabIx (e : X.K = K := by rfl) (e2 : X.w.params = P := by rfl) : IxR X (rTabIx K P) := by
  subst e e2
  intro value slice pn s σ H x y v u Q I rx ry h hs
  obtain ⟨D, rows, z, f, rfl, rfl, ⟨es, n, hl, lo, R⟩, hf, q⟩ := h
  obtain ⟨t, rfl⟩ := (show ∃ t, u = Value.str z t from ry)
  obtain rfl : v = Value.ref D := rx
  have hm := PySem.W.mapOf_K (prog := X.prog) (w := X.w) I.kIn hl (rows_lit R)
  rcases tab_find (D := D) R z with ⟨f', b, h1, h2, h3⟩ | ⟨h1, h2⟩
  · rw [hf] at h1
    cases h1
    exact tail_any hm.typeIs slot_dict_getitem.lookup (wpAny_getItem_of (strKind_is X.prog X.w z t) hm h2 ⟨.ref b, H, I.tok _, rfl, q b h3⟩) hs
  · rw [hf] at h1
    cases h1
end
/-! ### zip of two tuples -/
theorem walk_zipT {K : PySem.W.Frag} {a b : Addr} {xs ys : List V} {n : Nat} (hn : n = min xs.length ys.length) : Walk (RZ.ItzT K a b) n (fun H => SqT K H a xs ∧ SqT K H b ys) (YPair (fun i => xs[i]?) (fun i => ys[i]?)) := by
  subst hn
  constructor
  · intro i H hi q
    exact ⟨xs, ys, xs[i]'(by omega), ys[i]'(by omega), q.1, q.2, List.getElem?_eq_getElem _, List.getElem?_eq_getElem _⟩
  · exact fun H q => ⟨xs, ys, q.1, q.2, by omega⟩
  · rintro i H v H' _ q ⟨T, x, z, h1, h2, h3, h4, h5⟩
    exact ⟨T, x, z, h1, h2, h3, h4 xs q.1, h5 ys q.2⟩
theorem k_zipA {X : Cx} {K : PySem.W.Frag} {e1 e2 : Expr} {ta : TA} {p pos tpos : Pos} {elts : List Expr} {kk : Nat} (hg : Gl X "zip") (hm : X.mg "zip" = none) (ha : PA X [e1, e2] ta) (e : X.K = K := by rfl)
    (hs : starEach [e1, e2] X.env = (false, eval e1 X.env) :: starEach [e2] X.env := by rfl) (hpl : (backTo pos (starEach [e2] X.env)).any (·.1) = false := by rfl) : PI X (.Tuple elts kk tpos) (.Call (.Name "zip" p) [e1, e2] [] pos) (RZ.iZipA K ta) := by
  subst e
  exact RZ.pi_zipA hg hm ha hs hpl
end Tk

set_option Elab.async false
set_option linter.all false
set_option maxRecDepth 100000
set_option maxHeartbeats 4000000
/-! data whose text is short and plain -/
namespace Tk
open PySem PySem.Spec PyProof.Rows L2
def shownS (x : Str) : Bool := x.cps.toList.all shownB
mutual
/-- no dicts, texts of signs from space to tilde, numbers that are not great -/
def tame : PyData → Bool
  | .none => true
  | .bool _ => true
  | .int i => decide (i = -1) || (decide (0 ≤ i) && decide (i < 10000000000000000))
  | .str x => shownS x
  | .list xs => tameAll xs
  | .tuple xs => tameAll xs
  | .dict _ => false
def tameAll : List PyData → Bool
  | [] => true
  | x :: xs => tame x && tameAll xs
end
mutual
/-- at least the length of its text -/
def wt : PyData → Nat
  | .none => 4
  | .bool _ => 5
  | .int _ => 17
  | .str x => 2 * x.length + 2
  | .list xs => wtAll xs + 2
  | .tuple xs => wtAll xs + 3
  | .dict _ => 2
def wtAll : List PyData → Nat
  | [] => 0
  | x :: xs => (wt x + 2) + wtAll xs
end
theorem shownS_cat {x y : Str} : shownS (x ++ y) = (shownS x && shownS y) := by
  unfold shownS
  rw [show (x ++ y).cps.toList = x.cps.toList ++ y.cps.toList from TL.tl_append x y, List.all_append]
theorem chars_ok : ((List.range 127).filter fun c => decide (32 ≤ c)).all (fun c => [34, 39].all fun q => ((Builtin.Str.reprChar q c).all shownB && decide ((Builtin.Str.reprChar q c).length ≤ 2))) = true := by decide +kernel
theorem char_ok {q c : Nat} (hq : q = 34 ∨ q = 39) (hc : shownB c = true) : (∀ x ∈ Builtin.Str.reprChar q c, shownB x = true) ∧ (Builtin.Str.reprChar q c).length ≤ 2 := by
  unfold shownB at hc
  rw [Bool.and_eq_true, decide_eq_true_eq, decide_eq_true_eq] at hc
  have m : c ∈ (List.range 127).filter fun c => decide (32 ≤ c) := List.mem_filter.mpr ⟨List.mem_range.mpr (by omega), decide_eq_true hc.1⟩
  have h := List.all_eq_true.mp chars_ok c m
  have h2 := List.all_eq_true.mp h q (by rcases hq with rfl | rfl <;> simp)
  rw [Bool.and_eq_true, decide_eq_true_eq] at h2
  exact ⟨fun x hx => List.all_eq_true.mp h2.1 x hx, h2.2⟩
theorem quote_ok (x : Str) : reprQuote x = 34 ∨ reprQuote x = 39 := by
  unfold reprQuote
  split
  · exact .inl rfl
  · exact .inr rfl
theorem fold_ok {q : Nat} (hq : q = 34 ∨ q = 39) : ∀ (l : List Nat) (acc : Array Nat), l.all shownB = true → acc.toList.all shownB = true →
    ((l.foldl (fun out c => out ++ (Builtin.Str.reprChar q c).toArray) acc).toList.all shownB = true ∧ (l.foldl (fun out c => out ++ (Builtin.Str.reprChar q c).toArray) acc).size ≤ acc.size + 2 * l.length)
  | [], acc, _, h => ⟨h, by simp⟩
  | c :: l, acc, hl, h => by
    rw [List.all_cons, Bool.and_eq_true] at hl
    obtain ⟨k1, k2⟩ := char_ok hq hl.1
    have ih := fold_ok hq l (acc ++ (Builtin.Str.reprChar q c).toArray) hl.2 (by rw [Array.toList_append, List.all_append, h]; exact List.all_eq_true.mpr (by simpa using k1))
    refine ⟨ih.1, Nat.le_trans ih.2 ?_⟩
    simp only [Array.size_append, List.size_toArray, List.length_cons]
    have k3 : (Builtin.Str.reprChar q c).length ≤ 2 := k2
    omega
theorem repr_ok {x : Str} (h : shownS x = true) : shownS (reprText x) = true ∧ (reprText x).length ≤ 2 * x.length + 2 := by
  have q1 : shownB (reprQuote x) = true := by rcases quote_ok x with e | e <;> rw [e] <;> rfl
  have f := fold_ok (quote_ok x) x.cps.toList #[reprQuote x] h (by simp [q1])
  unfold reprText shownS
  rw [← Array.foldl_toList]
  refine ⟨?_, ?_⟩
  · show (Array.push _ _).toList.all shownB = true
    rw [Array.toList_push, List.all_append, f.1]
    simp [q1]
  · show (Array.push _ _).size ≤ _
    rw [Array.size_push]
    have e : x.cps.toList.length = x.length := Array.length_toList
    have f2 := f.2
    rw [e] at f2
    have e1 : (#[reprQuote x] : Array Nat).size = 1 := rfl
    omega
theorem from_ok : ∀ (ts : List Str) (k : Nat) (acc : Str), shownS acc = true → (∀ t ∈ ts, shownS t = true) → shownS (textFrom k acc ts) = true ∧ (textFrom k acc ts).length ≤ acc.length + piled ts
  | [], k, acc, h, _ => ⟨h, Nat.le_add_right _ _⟩
  | t :: ts, k, acc, h, ht => by
    have h1 : shownS (acc ++ (if k > 0 then ", " else "" : String) ++ t) = true := by
      rw [shownS_cat, shownS_cat, h, ht t List.mem_cons_self]
      split <;> rfl
    have l1 : (acc ++ (if k > 0 then ", " else "" : String) ++ t).length ≤ acc.length + 2 + t.length := by
      rw [strLen_append, strLen_append]
      split
      · exact Nat.le_refl _
      · show acc.length + 0 + t.length ≤ _
        omega
    have ih := from_ok ts (k + 1) _ h1 fun y hy => ht y (List.mem_cons_of_mem _ hy)
    refine ⟨ih.1, Nat.le_trans ih.2 ?_⟩
    rw [piled_cons]
    omega
theorem join_ok : ∀ (ts : List Str), (∀ t ∈ ts, shownS t = true) → shownS (Str.join ", " ts) = true ∧ (Str.join ", " ts).length ≤ piled ts
  | [], _ => ⟨rfl, Nat.le_refl _⟩
  | [x], h => ⟨h x List.mem_cons_self, by show x.length ≤ _; rw [piled_cons]; omega⟩
  | x :: y :: r, h => by
    have ih := join_ok (y :: r) fun t ht => h t (List.mem_cons_of_mem _ ht)
    refine ⟨?_, ?_⟩
    · show shownS (x ++ ", " ++ Str.join ", " (y :: r)) = true
      rw [shownS_cat, shownS_cat, h x List.mem_cons_self, ih.1]
      rfl
    · show (x ++ ", " ++ Str.join ", " (y :: r)).length ≤ _
      rw [strLen_append, strLen_append, piled_cons]
      have e : ((", " : String) : Str).length = 2 := rfl
      have := ih.2
      omega
theorem int_ok {i : Int} (h : (decide (i = -1) || (decide (0 ≤ i) && decide (i < 10000000000000000))) = true) : shownS (toString i : String) = true ∧ (Str.ofString (toString i)).length ≤ 17 ∧ i.natAbs.log2 < 1920 := by
  rw [Bool.or_eq_true, decide_eq_true_eq, Bool.and_eq_true, decide_eq_true_eq, decide_eq_true_eq] at h
  rcases h with rfl | ⟨h0, h1⟩
  · exact ⟨by decide +kernel, by decide +kernel, by decide⟩
  · obtain ⟨n, rfl⟩ := Int.eq_ofNat_of_zero_le h0
    have e : (Str.ofString (toString ((n : Nat) : Int))).cps.toList = TL.numL n := TL.tl_num n
    refine ⟨?_, ?_, Nat.lt_of_lt_of_le (PySem.Flt.log2_lt_of (k := 60) (by decide) (by show ((n : Nat) : Int).natAbs < 2 ^ 60; omega)) (by decide)⟩
    · unfold shownS
      rw [e]
      refine List.all_eq_true.mpr fun c hc => ?_
      have := TL.numL_digits n c hc
      unfold shownB
      rw [Bool.and_eq_true, decide_eq_true_eq, decide_eq_true_eq]
      omega
    · have l := TL.numL_len (n := n) (k := 16) (by decide) (by omega)
      rw [← e, Array.length_toList] at l
      exact Nat.le_trans l (by decide)
theorem piled_wt : ∀ {ds : List PyData}, (∀ d ∈ ds, d.shown.length ≤ wt d) → piled (PyData.shownAll ds) ≤ wtAll ds
  | [], _ => Nat.le_refl _
  | d :: ds, h => by
    have ih := piled_wt (ds := ds) fun x hx => h x (List.mem_cons_of_mem _ hx)
    have := h d List.mem_cons_self
    rw [PyData.shownAll, piled_cons, wtAll]
    omega
theorem list_ok {ts : List Str} (h : ∀ t ∈ ts, shownS t = true) : shownS (listText ts) = true ∧ (listText ts).length ≤ piled ts + 2 := by
  have f := from_ok ts 0 "[" rfl h
  refine ⟨?_, ?_⟩
  · show shownS (textFrom 0 "[" ts ++ "]") = true
    rw [shownS_cat, f.1]
    rfl
  · show (textFrom 0 "[" ts ++ "]").length ≤ _
    rw [strLen_append]
    have e1 : (("[" : String) : Str).length = 1 := rfl
    have e2 : (("]" : String) : Str).length = 1 := rfl
    have := f.2
    omega
theorem tuple_ok {ts : List Str} (h : ∀ t ∈ ts, shownS t = true) : shownS (tupleText ts) = true ∧ (tupleText ts).length ≤ piled ts + 3 := by
  have f := join_ok ts h
  unfold tupleText
  have e1 : (("(" : String) : Str).length = 1 := rfl
  refine ⟨?_, ?_⟩
  · rw [shownS_cat, shownS_cat, f.1]
    split <;> rfl
  · rw [strLen_append, strLen_append]
    have := f.2
    have e2 : ((if ts.length == 1 then ",)" else ")" : String) : Str).length ≤ 2 := by split <;> decide
    omega
mutual
theorem shown_ok : ∀ (d : PyData), tame d = true → shownS d.shown = true ∧ d.shown.length ≤ wt d ∧ d.showable = true ∧ d.hasDict = false ∧ d.plain = true
  | .none, _ => ⟨by decide +kernel, by decide, rfl, rfl, rfl⟩
  | .bool b, _ => by cases b <;> exact ⟨by decide +kernel, by decide, rfl, rfl, rfl⟩
  | .int i, h => by
    obtain ⟨h1, h2, h3⟩ := int_ok h
    exact ⟨h1, h2, decide_eq_true h3, rfl, rfl⟩
  | .str x, h => by
    obtain ⟨h1, h2⟩ := repr_ok h
    exact ⟨h1, h2, rfl, rfl, rfl⟩
  | .list xs, h => by
    obtain ⟨h1, h2, h3, h4, h5⟩ := shown_all xs h
    obtain ⟨k1, k2⟩ := list_ok h1
    exact ⟨k1, by show (listText (PyData.shownAll xs)).length ≤ wtAll xs + 2; omega, h3, h4, h5⟩
  | .tuple xs, h => by
    obtain ⟨h1, h2, h3, h4, h5⟩ := shown_all xs h
    obtain ⟨k1, k2⟩ := tuple_ok h1
    exact ⟨k1, by show (tupleText (PyData.shownAll xs)).length ≤ wtAll xs + 3; omega, h3, h4, h5⟩
  | .dict _, h => nomatch h
theorem shown_all : ∀ (ds : List PyData), tameAll ds = true → (∀ t ∈ PyData.shownAll ds, shownS t = true) ∧ piled (PyData.shownAll ds) ≤ wtAll ds ∧ PyData.showableAll ds = true ∧ PyData.hasDictAll ds = false ∧ PyData.plainAll ds = true
  | [], _ => ⟨(fun t h => by cases h), Nat.le_refl _, rfl, rfl, rfl⟩
  | d :: ds, h => by
    have h : (tame d && tameAll ds) = true := h
    rw [Bool.and_eq_true] at h
    obtain ⟨a1, a2, a3, a4, a5⟩ := shown_ok d h.1
    obtain ⟨b1, b2, b3, b4, b5⟩ := shown_all ds h.2
    refine ⟨fun t ht => ?_, ?_, ?_, ?_, ?_⟩
    · rcases List.mem_cons.mp ht with rfl | ht
      · exact a1
      · exact b1 t ht
    · rw [PyData.shownAll, piled_cons, wtAll]
      omega
    · rw [PyData.showableAll, a3, b3]; rfl
    · rw [PyData.hasDictAll, a4, b4]; rfl
    · rw [PyData.plainAll, a5, b5]; rfl
end
theorem len_wt : ∀ (ds : List PyData), 2 * ds.length ≤ wtAll ds
  | [] => Nat.le_refl _
  | d :: ds => by
    have := len_wt ds
    rw [List.length_cons, wtAll]
    omega
mutual
theorem okD_wt : ∀ (d : PyData), wt d ≤ 100000 → okD d
  | .none, _ => trivial
  | .bool _, _ => trivial
  | .int _, _ => trivial
  | .str x, h => by
    have h : 2 * x.length + 2 ≤ 100000 := h
    show x.length ≤ 100000
    omega
  | .list xs, h => by
    have h : wtAll xs + 2 ≤ 100000 := h
    have := len_wt xs
    exact ⟨by omega, okAll_wt xs (by omega)⟩
  | .tuple xs, h => by
    have h : wtAll xs + 3 ≤ 100000 := h
    have := len_wt xs
    exact ⟨by omega, okAll_wt xs (by omega)⟩
  | .dict _, _ => trivial
theorem okAll_wt : ∀ (ds : List PyData), wtAll ds ≤ 100000 → okAll ds
  | [], _ => trivial
  | d :: ds, h => by
    rw [wtAll] at h
    exact ⟨okD_wt d (by omega), okAll_wt ds (by omega)⟩
end
/-- short and plain -/
structure Good (d : PyData) : Prop where
  tame : tame d = true
  wt : wt d ≤ 20000
  deep : d.depth ≤ 50
theorem Good.ok {d : PyData} (g : Good d) : okD d := okD_wt d (Nat.le_trans g.wt (by decide))
theorem Good.shows {d : PyData} (g : Good d) : Shows d := by
  obtain ⟨h1, h2, h3, h4, h5⟩ := shown_ok d g.tame
  exact ⟨.inl h4, h3, Nat.le_trans h2 (Nat.le_trans g.wt (by decide)), Nat.le_trans g.deep (by decide)⟩
theorem Good.plain {d : PyData} (g : Good d) : d.plain = true := (shown_ok d g.tame).2.2.2.2
/-- its text, within a list -/
theorem Good.told {d : PyData} (g : Good d) : Shows (.list [.str d.shown, .bool true]) := by
  obtain ⟨h1, h2, _⟩ := shown_ok d g.tame
  have t : Tk.tame (.list [.str d.shown, .bool true]) = true := by
    show (shownS d.shown && (true && true)) = true
    rw [h1]
    rfl
  obtain ⟨_, k2, k3, k4, _⟩ := shown_ok _ t
  have w : Tk.wt (.list [.str d.shown, .bool true]) = ((2 * d.shown.length + 2) + 2 + ((5 + 2) + 0)) + 2 := rfl
  have := g.wt
  exact ⟨.inl k4, k3, by omega, by show max 0 (max 0 0) + 1 ≤ 60; decide⟩
theorem tameAll_iff : ∀ {ds : List PyData}, tameAll ds = true ↔ ∀ d ∈ ds, tame d = true
  | [] => by simp [tameAll]
  | d :: ds => by
    rw [tameAll, Bool.and_eq_true, tameAll_iff (ds := ds)]
    simp
theorem wtAll_le {n : Nat} : ∀ {ds : List PyData}, (∀ d ∈ ds, wt d ≤ n) → wtAll ds ≤ ds.length * (n + 2)
  | [], _ => by simp [wtAll]
  | d :: ds, h => by
    have ih := wtAll_le (ds := ds) fun x hx => h x (List.mem_cons_of_mem _ hx)
    have := h d List.mem_cons_self
    rw [wtAll, List.length_cons, Nat.succ_mul]
    omega
theorem depthAll_le {n : Nat} : ∀ {ds : List PyData}, (∀ d ∈ ds, d.depth ≤ n) → PyData.depthAll ds ≤ n
  | [], _ => Nat.zero_le _
  | d :: ds, h => by
    have ih := depthAll_le (ds := ds) fun x hx => h x (List.mem_cons_of_mem _ hx)
    have := h d List.mem_cons_self
    rw [PyData.depthAll]
    omega
/-- an item: short -/
structure Itm (d : PyData) : Prop where
  tame : tame d = true
  wt : wt d ≤ 120
  deep : d.depth ≤ 3
theorem good_tuple {ds : List PyData} (h : ∀ d ∈ ds, Itm d) (hl : ds.length ≤ 60) : Good (.tuple ds) := by
  have a := wtAll_le fun d hd => (h d hd).wt
  have b := depthAll_le fun d hd => (h d hd).deep
  have m := Nat.mul_le_mul_right (120 + 2) hl
  exact ⟨tameAll_iff.mpr fun d hd => (h d hd).tame, by show wtAll ds + 3 ≤ _; omega, by show PyData.depthAll ds + 1 ≤ _; omega⟩
theorem good_list {ds : List PyData} (h : ∀ d ∈ ds, Itm d) (hl : ds.length ≤ 60) : Good (.list ds) := by
  have a := wtAll_le fun d hd => (h d hd).wt
  have b := depthAll_le fun d hd => (h d hd).deep
  have m := Nat.mul_le_mul_right (120 + 2) hl
  exact ⟨tameAll_iff.mpr fun d hd => (h d hd).tame, by show wtAll ds + 2 ≤ _; omega, by show PyData.depthAll ds + 1 ≤ _; omega⟩
theorem Itm.good {d : PyData} (i : Itm d) : Good d := ⟨i.tame, Nat.le_trans i.wt (by decide), Nat.le_trans i.deep (by decide)⟩
/-- by counting -/
def itmB (d : PyData) : Bool := tame d && (decide (wt d ≤ 120) && decide (d.depth ≤ 3))
theorem itm_of {d : PyData} (h : itmB d = true) : Itm d := by
  unfold itmB at h
  rw [Bool.and_eq_true, Bool.and_eq_true, decide_eq_true_eq, decide_eq_true_eq] at h
  exact ⟨h.1, h.2.1, h.2.2⟩
theorem itm_all {ds : List PyData} (h : ds.all itmB = true) {d : PyData} (m : d ∈ ds) : Itm d := itm_of (List.all_eq_true.mp h d m)
end Tk

set_option Elab.async false
set_option linter.all false
set_option maxRecDepth 100000
set_option maxHeartbeats 4000000
/-! events as data -/
namespace Tk
open PySem PySem.Spec PyProof.Rows L2
def indexD : PyData → Bool
  | .int i => decide (0 ≤ i) && decide (i ≤ 1000000000000000)
  | _ => false
def txtD : PyData → Str
  | .str x => x
  | _ => Str.empty
def ascD : PyData → Bool
  | .tuple ds => ds.all wordD && ascB (ds.map txtD)
  | _ => false
def kindD (k : Str) (d : PyData) : Bool :=
  if k = "word" then wordD d else if k = "value" then valueD d else if k = "number" then numD d else if k = "index" then indexD d else noneD d || ascD d
def formsT : List (Str × List Str) := [("write", ["word", "word", "value"]), ("delete", ["word", "word"]), ("pass", ["word", "number"]), ("send", ["word", "word", "keys"]), ("take", ["word", "word", "index"]), ("save", ["word"]), ("crash", ["word"]),
  ("keep", ["word", "word"]), ("restore", ["word", "word"]), ("discard", ["word", "word"]), ("forget", ["word", "word"]), ("leave", ["word"]), ("come", ["word"]), ("mute", ["word", "word"]), ("shut", ["word", "word"]), ("open", ["word", "word"]), ("drop", ["word", "word"])]
def partsD : List Str → List PyData → Bool
  | [], [] => true
  | k :: ks, d :: ds => kindD k d && partsD ks ds
  | _, _ => false
def eventD : PyData → Bool
  | .tuple (.str x :: rest) => wordS x && (match formsT.lookup x with | some f => partsD f rest | none => false)
  | _ => false
def guardD : PyData → Bool
  | .tuple (.str x :: _) => x == "open" || x == "drop"
  | _ => false
/-- no tuple of more than sixty -/
def fewD : PyData → Prop
  | .tuple es => es.length ≤ 60
  | _ => True
def fewI : PyData → Prop
  | .tuple ds => ∀ x ∈ ds, fewD x
  | _ => True
theorem few_wt {d : PyData} (h : wt d ≤ 120) : fewD d := by
  cases d with
  | tuple es =>
    have h : wtAll es + 3 ≤ 120 := h
    have := len_wt es
    show es.length ≤ 60
    omega
  | _ => trivial
theorem few_items {ds : List PyData} (h : ∀ d ∈ ds, Itm d) : fewI (.tuple ds) := fun x hx => few_wt (h x hx).wt
theorem partsD_len : ∀ {f : List Str} {ds : List PyData}, partsD f ds = true → ds.length = f.length
  | [], [], _ => rfl
  | k :: ks, d :: ds, h => by
    rw [partsD, Bool.and_eq_true] at h
    rw [List.length_cons, List.length_cons, partsD_len h.2]
  | [], _ :: _, h => nomatch h
  | _ :: _, [], h => nomatch h
theorem eventD_no {d : PyData} (h : ∀ ds, d ≠ .tuple ds) : eventD d = false := by
  cases d with
  | tuple x => exact absurd rfl (h x)
  | _ => rfl
/-- of a value: is it a word -/
def wordV : V → Bool
  | .str x => wordS x
  | _ => false
theorem wordV_is {K : PySem.W.Frag} {H : Hp} {v : V} {d : PyData} (h : Dd K H v d) : wordV v = wordD d := by
  cases h <;> rfl
theorem words_strs {K : PySem.W.Frag} {H : Hp} : ∀ {xs : List V} {ds : List PyData}, DdAll K H xs ds → ds.all wordD = true → ∃ ys : List Str, xs = ys.map V.str ∧ ds = ys.map PyData.str
  | _, _, .nil, _ => ⟨[], rfl, rfl⟩
  | _, _, .cons (v := v) (d := d) h t, a => by
    rw [List.all_cons, Bool.and_eq_true] at a
    obtain ⟨ys, e1, e2⟩ := words_strs t a.2
    cases h with
    | str x => exact ⟨x :: ys, by rw [e1]; rfl, by rw [e2]; rfl⟩
    | _ => exact absurd a.1 (by simp [wordD])
theorem words_all {K : PySem.W.Frag} {H : Hp} : ∀ {xs : List V} {ds : List PyData}, DdAll K H xs ds → xs.map wordV = ds.map wordD
  | _, _, .nil => rfl
  | _, _, .cons h t => by rw [List.map_cons, List.map_cons, words_all t, wordV_is h]
theorem txt_strs (ys : List Str) : (ys.map PyData.str).map txtD = ys := by
  rw [List.map_map]
  exact (List.map_congr_left fun _ _ => rfl).trans (List.map_id _)
/-- a comprehension over a tuple that only makes new things -/
theorem lc_tupP {K : PySem.W.Frag} {T : Addr} {xs : List V} {s : Nat} {te : TE} {σ : L2.St} {H1 : Hp} {Qd : VK} (e : H1 T = some (.tup xs)) (hn : xs.length ≤ 100000) (f : V → V)
    (he : ∀ x ∈ xs, ∀ (H2 : Hp) (R : VK), Same H1 H2 → (∀ H3, Same H2 H3 → R (f x) H3) → te (σ.set s (some x)) H2 R) (hd : ∀ (D : Addr) (H' : Hp), H1 D = none → Same H1 H' → H' D = some (.lst (xs.map f)) → Qd (.ref D) H') :
    LcG (Itt K T) (gName s) tYes te [s] σ H1 Qd := by
  refine lc_pure walk_tup (fun H' s' => SqT.of (s' _ _ e)) hn (fun _ => true) f (fun x _ H2 R s2 q => q H2 (Same.refl H2)) (fun x hx _ => he x hx) (fun D H' h0 s' e' => hd D H' h0 s' ?_)
  rw [e', filt_true]
theorem r_zipA {K : PySem.W.Frag} {ta : TA} {σ : L2.St} {H : Hp} {R : It → Hp → Prop} (h : ta σ H fun vs H1 => ∃ a b xs ys, vs = [.ref a, .ref b] ∧ ((SqL K H1 a xs ∧ SqL K H1 b ys ∧ R (Itz K a b) H1) ∨ (SqT K H1 a xs ∧ SqT K H1 b ys ∧ R (RZ.ItzT K a b) H1))) : RZ.iZipA K ta σ H R := h
/-- a comprehension over zip of two tuples of one length -/
theorem lc_zip {K : PySem.W.Frag} {a b : Addr} {xs ys : List V} {s1 s2 : Nat} (hne : s1 ≠ s2) {te : TE} {σ : L2.St} {H1 : Hp} {Qd : VK} (rs : List V) (hl : xs.length = rs.length) (hl2 : ys.length = rs.length) (hn : rs.length ≤ 100000) (ha : ∀ H', Same H1 H' → SqT K H' a xs) (hb : ∀ H', Same H1 H' → SqT K H' b ys)
    (he : ∀ (i : Nat) (x y r : V), xs[i]? = some x → ys[i]? = some y → rs[i]? = some r → ∀ (H2 : Hp) (R : VK), Same H1 H2 → (∀ H3, Same H2 H3 → R r H3) → te ((σ.set s1 (some x)).set s2 (some y)) H2 R)
    (hd : ∀ (D : Addr) (H' : Hp), H1 D = none → Same H1 H' → H' D = some (.lst rs) → Qd (.ref D) H') :
    LcG (RZ.ItzT K a b) (gTup K 2 (gCons (gName s1) (gCons (gName s2) gNil))) tYes te [s1, s2] σ H1 Qd := by
  intro D hD
  refine lc_it (Qd := fun H' => Qd (.ref D) H') (walk_zipT (n := rs.length) (by omega)) (fun i H' => Same H1 H' ∧ H' D = some (.lst (rs.take i))) ⟨Same.new hD, upd_same⟩ (fun i H' _ p => ⟨ha H' p.1, hb H' p.1⟩) ?_ (fun H' p => hd D H' hD p.1 (by rw [p.2, List.take_length]))
  rintro i v H2 H2' hi ⟨p1, p2⟩ ⟨T, x, y, rfl, hT, rfl, hx, hy⟩
  have hr : rs[i]? = some rs[i] := List.getElem?_eq_getElem hi
  refine ⟨T, [x, y], rfl, SqT.of upd_same, rfl, x, [y], rfl, y, [], rfl, rfl, ?_, ?_⟩
  · show wipe (((wipe σ [s1, s2]).set s1 (some x)).set s2 (some y)) [s1, s2] = wipe σ [s1, s2]
    simp only [wipe]
    apply List.ext_getElem?
    intro j
    simp only [List.getElem?_set, List.length_set]
    by_cases h1 : s1 = j <;> by_cases h2 : s2 = j <;> simp [h1, h2]
  · have e1 : ((wipe σ [s1, s2]).set s1 (some x)).set s2 (some y) = (σ.set s1 (some x)).set s2 (some y) := by
      simp only [wipe]
      apply List.ext_getElem?
      intro j
      simp only [List.getElem?_set, List.length_set]
      by_cases h1 : s1 = j <;> by_cases h2 : s2 = j <;> simp [h1, h2]
    simp only [tYes, reduceIte]
    rw [e1]
    refine he i x y _ hx hy hr _ _ (p1.trans (Same.new hT)) fun H3 s3 => ?_
    have e4 := s3 _ _ (Same.new (o := .tup [x, y]) hT _ _ p2)
    refine ⟨_, e4, sz_lt (by rw [List.length_take]; omega), Same.mut ((p1.trans (Same.new hT)).trans s3) hD, ?_⟩
    rw [upd_same, List.take_add_one, hr]
    rfl
end Tk

set_option Elab.async false
set_option linter.all false
set_option maxRecDepth 100000
set_option maxHeartbeats 4000000
/-! t[::-1] of tuples; comprehensions over ranges; filters of data -/
namespace Tk
open PySem PySem.Spec PyProof.Rows L2
section
variable {P : Program} {w : World} {A : Around} {E : Value → Shared → Prop} {s : Shared}
theorem places_back (n : Nat) : Builtin.Slice.slicePlaces ((n : Int) - 1) (-1) (-1) = n := by
  unfold Builtin.Slice.slicePlaces
  have h1 : ¬ ((-1 : Int) > 0) := by decide
  simp only [h1, if_false]
  split
  · have e : ((n : Int) - 1 - -1 - 1) / (- -1) = (n : Int) - 1 := by
      rw [show (- -1 : Int) = 1 by decide, Int.ediv_one]
      omega
    omega
  · omega
theorem applied_back {sl : Addr} {vl vu vs : Value} {n : Nat} {Q : Int × Int × Nat → Shared → Prop} (hs : s.heap.IsSliceOf sl vl vu vs) (pl : IsPart vl none) (pu : IsPart vu none) (ps : IsPart vs (some (-1))) (h : Q ((n : Int) - 1, -1, n) s) :
    wpAny (model P w) A (Builtin.Slice.sliceApplied (.ref sl) (pure (n : Int))) Q E s := by
  obtain ⟨os, ho, hc, hd⟩ := id hs
  unfold Builtin.Slice.sliceApplied Builtin.Slice.sliceFields
  refine wpAny_bind (wpAny_bind (wpAny_field ho hd (x := vl) rfl (wpAny_bind (wpAny_field ho hd (x := vu) rfl (wpAny_bind (wpAny_field ho hd (x := vs) rfl (wpAny_pure ?_)))))))
  refine wpAny_bind (HT.slicePart_ ps ?_)
  show wpAny _ _ (if ((-1 : Int) == 0) = true then _ else _) _ _ s
  rw [if_neg (by decide)]
  refine wpAny_bind (HT.slicePart_ pl (wpAny_bind (HT.slicePart_ pu (wpAny_bind (wpAny_pure ?_)))))
  show wpAny _ _ (match Builtin.Slice.sliceAdjust none none (-1) (n : Int) with | (lo, hi) => pure (lo, (-1 : Int), Builtin.Slice.slicePlaces lo hi (-1))) _ _ s
  have e : Builtin.Slice.sliceAdjust none none (-1) (n : Int) = ((n : Int) - 1, -1) := by
    unfold Builtin.Slice.sliceAdjust
    rfl
  rw [e]
  show wpAny _ _ (pure ((n : Int) - 1, (-1 : Int), Builtin.Slice.slicePlaces ((n : Int) - 1) (-1) (-1))) _ _ s
  rw [places_back]
  exact wpAny_pure h
theorem filterMap_some {α β : Type} {f : α → Option β} {g : α → β} : ∀ {l : List α}, (∀ m ∈ l, f m = some (g m)) → l.filterMap f = l.map g
  | [], _ => rfl
  | a :: l, h => by
    rw [List.filterMap_cons, h a List.mem_cons_self, List.map_cons, filterMap_some fun m hm => h m (List.mem_cons_of_mem _ hm)]
theorem pick_back (l : List Value) : ((List.range l.length).filterMap fun (m : Nat) => l.toArray[(((l.length : Int) - 1) + (m : Int) * (-1)).toNat]?) = l.reverse := by
  apply List.ext_getElem?
  intro i
  have e : ∀ m, m ∈ List.range l.length → l.toArray[(((l.length : Int) - 1) + (m : Int) * (-1)).toNat]? = some (l.reverse.getD m .none) := fun m hm => by
    have lt := List.mem_range.mp hm
    have q : (((l.length : Int) - 1) + (m : Int) * (-1)).toNat = l.length - 1 - m := by omega
    rw [q, List.getElem?_toArray, List.getD_eq_getElem?_getD, List.getElem?_reverse lt]
    rw [List.getElem?_eq_getElem (by omega)]
    rfl
  have e2 : (List.range l.length).filterMap (fun (m : Nat) => l.toArray[(((l.length : Int) - 1) + (m : Int) * (-1)).toNat]?) = (List.range l.length).map fun m => l.reverse.getD m .none := filterMap_some e
  rw [e2, List.getElem?_map]
  by_cases h : i < l.length
  · rw [List.getElem?_range h]
    show some (l.reverse.getD i .none) = _
    rw [List.getD_eq_getElem?_getD, List.getElem?_eq_getElem (by simpa using h)]
    rfl
  · rw [List.getElem?_eq_none (by simpa using h), List.getElem?_eq_none (by simpa using h)]
    rfl
theorem getItem_back {t sl : Addr} {items : Array Value} {vl vu vs : Value} {Q : Value → Shared → Prop} (ht : IsTup s.heap t items) (hs : s.heap.IsSliceOf sl vl vu vs) (pl : IsPart vl none) (pu : IsPart vu none) (ps : IsPart vs (some (-1)))
    (h : Q (.ref s.heap.objs.size) { s with heap := s.heap.push { cls := .type "tuple", data := .seq items.toList.reverse.toArray } }) (hsz : items.size ≤ sizeLine) : wpAny (model P w) A (getItem (.ref t) (.ref sl)) Q E s := by
  have hz : sizeOk (.seq items.toList.reverse.toArray) := by
    show items.toList.reverse.toArray.size ≤ sizeLine
    simpa using hsz
  obtain ⟨os, ho, hc, hd⟩ := id hs
  have hT : s.TypeIs (.ref sl) "slice" := ⟨os, ho, hc⟩
  unfold getItem
  try with_reducible refine wpAny_holding ?_
  first | refine wpAny_bind (wpAny_pure ?_) | skip
  refine wpAny_bind (wpAny_sequenceKey ht.typeIs (by decide) ?_)
  refine wpAny_bind (wpAny_callSpecial?_slot (name := Str.ofString "__getitem__") ht.typeIs PyProof.Rows.slot_tuple_getitem (wpAny_call_entry PyProof.Rows.slot_tuple_getitem ht.typeIs entry_tuple_getitem ?_ (args_tuple_getitem _ _)))
  show wpAny _ _ (Builtin.Tuple.tupleItemsOf (.ref t) >>= _) _ _ s
  refine wpAny_bind (tupleItemsOf_ ht (wpAny_bind (wpAny_typeOf hT ?_)))
  rw [if_pos (by decide)]
  refine wpAny_bind (applied_back hs pl pu ps ?_)
  show wpAny _ _ (if (((items.size : Int) - 1 == 0) && (-1 : Int) == 1 && items.size == items.size) = true then _ else _) _ _ s
  rw [if_neg (by simp)]
  obtain ⟨l⟩ := items
  have e := pick_back l
  have e' : ((List.range (List.toArray l).size).filterMap fun (m : Nat) => (List.toArray l)[((((List.toArray l).size : Int) - 1) + (m : Int) * (-1)).toNat]?) = l.reverse := by
    rw [List.size_toArray]
    exact e
  rw [e']
  first
    | exact wpAny_bind (m := Builtin.Tuple.tupleExact _) (wpAny_newObj_type (wpAny_pure ⟨_, rfl, wpAny_pure h⟩) hz)
    | exact wpAny_bind (m := Builtin.Tuple.tupleExact _) (wpAny_newObj_type (wpAny_bind (wpAny_pure (wpAny_pure ⟨_, rfl, wpAny_pure h⟩))) hz)
    | exact wpAny_bind (wpAny_bind (m := Builtin.Tuple.tupleExact _) (wpAny_newObj_type (wpAny_pure (wpAny_pure ⟨_, rfl, wpAny_pure h⟩)) hz))
    | exact wpAny_bind (wpAny_bind (m := Builtin.Tuple.tupleExact _) (wpAny_newObj_type (wpAny_pure ⟨_, rfl, wpAny_pure h⟩) hz))
end
/-- t[::-1] -/
def tRevT (K : PySem.W.Frag) (te : TE) : TE := fun σ H Q => te σ H fun x H1 => ∃ a xs, x = .ref a ∧ SqT K H1 a xs ∧ ∀ p, H1 p = none → Q (.ref p) (upd H1 p (.tup xs.reverse))
theorem pe_revT {X : Cx} {e : Expr} {te : TE} {k : Nat} {p1 p2 p3 pos : Pos} (he : PE X e te) : PE X (.Subscript e (.Slice none none (some (.UnaryOp .USub (.Constant (.int 1) k p1) p2)) p3) pos) (tRevT X.K te) := by
  refine ⟨fun pn s σ H Q I h => ?_⟩
  refine Subscript_ (thn (he.run pn s σ H _ I h) fun v s1 ⟨x, H1, I1, r1, q1⟩ => ?_)
  obtain ⟨a, xs, rfl, hx, q⟩ := q1
  cases r1
  have hst : PO X (some (.UnaryOp .USub (.Constant (.int 1) k p1) p2)) (tPart (tUn (rU fun i => .int (-i)) (tC (.int 1)))) := po_some (pe_un un_neg pe_int)
  refine wpAny_Slice (thn (po_none.run pn s1 σ H1 (fun o H2 => o = none ∧ H2 = H1) I1 ⟨rfl, rfl⟩) fun vl s2 ⟨l, H2, I2, pl, el, e2⟩ => ?_)
  subst el
  subst e2
  refine thn (po_none.run pn s2 σ H2 (fun o H3 => o = none ∧ H3 = H2) I2 ⟨rfl, rfl⟩) fun vu s3 ⟨u, H3, I3, pu, eu, e3⟩ => ?_
  subst eu
  subst e3
  refine thn (hst.run pn s3 σ H3 (fun o H4 => o = some (-1) ∧ H4 = H3) I3 ⟨1, rfl, -1, rfl, rfl, rfl⟩) fun vs s4 ⟨o, H4, I4, ps, eo, e4⟩ => ?_
  subst eo
  subst e4
  have I5 : Inv X pn σ H4 { s4 with heap := s4.heap.push { cls := .type "slice", data := .fields #[vl, vu, vs] } } := I4.kept (t' := s4.toks) fun b ob q => Heap.get?_push_of_some _ q
  obtain ⟨its, r, ht, hz⟩ := I5.tuple hx
  have hlen := r.length
  show wpAny (model X.prog X.w) X.A (subscriptTail e (.Slice none none (some (.UnaryOp .USub (.Constant (.int 1) k p1) p2)) p3) (.ref a) (.ref s4.heap.objs.size)) (EP X pn σ Q) X.xe _
  refine tail_any (ops := [.ref a, .ref s4.heap.objs.size]) ht.typeIs (PyProof.Rows.slot_tuple_getitem.lookup) ?_ (by with_unfolding_all rfl)
  refine getItem_back ht (Heap.IsSliceOf.new _ vl vu vs) pl pu ps ?_ (by rw [List.size_toArray]; omega)
  refine ⟨.ref _, _, I5.laid (t' := s4.toks) (o := .tup xs.reverse) (fun b ob q => Heap.get?_push_of_some _ q) (Nat.le_refl _) ?_, rfl, q _ (I5.hok.fresh (Nat.le_refl _))⟩
  exact ⟨by rw [List.length_reverse]; exact hz, _, r.reverse, IsTup.new _ _⟩
theorem r_revT {K : PySem.W.Frag} {te : TE} {σ : L2.St} {H : Hp} {Q : VK} (h : te σ H fun x H1 => ∃ a xs, x = .ref a ∧ SqT K H1 a xs ∧ ∀ p, H1 p = none → Q (.ref p) (upd H1 p (.tup xs.reverse))) : tRevT K te σ H Q := h
/-! ### a comprehension over a range that only makes new things -/
def rngV (lo : Int) (n : Nat) : List V := (List.range n).map fun (i : Nat) => V.int (lo + (i : Int))
theorem walk_rng {lo : Int} {n : Nat} : Walk (Itr lo n) (rngV lo n).length (fun _ => True) (YAt (rngV lo n)) := by
  have e : (rngV lo n).length = n := by unfold rngV; simp
  rw [e]
  refine Walk.mono walk_range (fun _ h => h) fun i H x H' hi _ y => ⟨y.1, ?_⟩
  unfold rngV
  rw [List.getElem?_map, List.getElem?_range hi, y.2]
  rfl
theorem r_rng2 {ta : TA} {σ : L2.St} {H : Hp} {R : It → Hp → Prop} (h : ta σ H fun vs H1 => ∃ i j : Int, vs = [.int i, .int j] ∧ (-(2 ^ 62) ≤ i ∧ i < 2 ^ 62 ∧ -(2 ^ 62) ≤ j ∧ j < 2 ^ 62) ∧ R (Itr i (j - i).toNat) H1) : iRng2 ta σ H R := h
theorem r_ij {i j : Int} {P : Int → Int → Prop} (h1 : -(2 ^ 62) ≤ i ∧ i < 2 ^ 62 ∧ -(2 ^ 62) ≤ j ∧ j < 2 ^ 62) (q : P i j) : ∃ i' j', [V.int i, V.int j] = [V.int i', V.int j'] ∧ (-(2 ^ 62) ≤ i' ∧ i' < 2 ^ 62 ∧ -(2 ^ 62) ≤ j' ∧ j' < 2 ^ 62) ∧ P i' j' := ⟨i, j, rfl, h1, q⟩
/-! ### filters of data -/
theorem DdAll.filter {K : PySem.W.Frag} {H : Hp} {gv : V → Bool} {gd : PyData → Bool} (hg : ∀ v d, Dd K H v d → gv v = gd d) : ∀ {vs : List V} {ds : List PyData}, DdAll K H vs ds → DdAll K H (vs.filter gv) (ds.filter gd)
  | _, _, .nil => .nil
  | _, _, .cons (v := v) (d := d) h t => by
    rw [List.filter_cons, List.filter_cons, hg v d h]
    split
    · exact .cons h (DdAll.filter hg t)
    · exact DdAll.filter hg t
theorem plainAll_mem : ∀ {ds : List PyData}, PyData.plainAll ds = true ↔ ∀ d ∈ ds, d.plain = true
  | [] => by simp [PyData.plainAll]
  | d :: ds => by
    rw [PyData.plainAll, Bool.and_eq_true, plainAll_mem (ds := ds)]
    simp
theorem eqv_nilL (ds : List PyData) : PyData.eqv (.list ds) (.list []) = ds.isEmpty := by cases ds <;> rfl
theorem eqv_nilT (ds : List PyData) : PyData.eqv (.tuple ds) (.tuple []) = ds.isEmpty := by cases ds <;> rfl
/-- no place at which a text is not less than the next one -/
theorem asc_range : ∀ (ys : List Str), ((List.range (ys.length - 1)).filter fun i => !decide (ltS (ys.getD i Str.empty) (ys.getD (i + 1) Str.empty))).isEmpty = ascB ys
  | [] => rfl
  | [_] => rfl
  | x :: y :: r => by
    have ih := asc_range (y :: r)
    rw [ascB, ← ih]
    show ((List.range ((y :: r).length)).filter _).isEmpty = _
    rw [List.length_cons, List.range_succ_eq_map, List.filter_cons, List.filter_map]
    show List.isEmpty (if (!decide (ltS x y)) = true then _ else _) = _
    by_cases h : ltS x y
    · rw [decide_eq_true h]
      simp only [Bool.not_true, Bool.false_eq_true, if_false, Bool.true_and, List.isEmpty_map]
      congr 1
    · rw [decide_eq_false h]
      rfl
end Tk

set_option Elab.async false
set_option linter.all false
set_option maxRecDepth 100000
set_option maxHeartbeats 4000000
/-! data that stand while one list changes; cuts and sums of tuples as data -/
namespace Tk
open PySem PySem.Spec PyProof.Rows L2
mutual
/-- all lists in it are good -/
def lsD (g : List PyData → Bool) : PyData → Bool
  | .list xs => g xs && lsAll g xs
  | .tuple xs => lsAll g xs
  | .dict _ => false
  | .none => true
  | .bool _ => true
  | .int _ => true
  | .str _ => true
def lsAll (g : List PyData → Bool) : List PyData → Bool
  | [] => true
  | x :: xs => lsD g x && lsAll g xs
end
/-- only what stands at L changes -/
def But (L : Addr) (H H' : Hp) : Prop := ∀ b o, H b = some o → b ≠ L → H' b = some o
section
variable {K : PySem.W.Frag} {H H' : Hp} {L : Addr} {g : List PyData → Bool}
mutual
theorem Dd.chg (hb : But L H H') (hL : ∃ xs, H L = some (.lst xs)) (hg : ∀ xs ds, H L = some (.lst xs) → DdAll K H xs ds → g ds = false) : ∀ (d : PyData) (v : V), lsD g d = true → Dd K H v d → Dd K H' v d
  | .none, _, _, h => by cases h; exact .non
  | .bool b, _, _, h => by cases h; exact .bl b
  | .int i, _, _, h => by cases h; exact .int i
  | .str x, _, _, h => by cases h; exact .str x
  | .list ds, _, n, h => by
    have n : (g ds && lsAll g ds) = true := n
    rw [Bool.and_eq_true] at n
    cases h with
    | lst e a => exact .lst (hb _ _ e (fun z => by subst z; rw [hg _ _ e a] at n; exact nomatch n.1)) (DdAll.chg hb hL hg ds _ n.2 a)
  | .tuple ds, _, n, h => by
    cases h with
    | tup e a => exact .tup (hb _ _ e (fun z => by subst z; obtain ⟨xs, q⟩ := hL; rw [q] at e; cases e)) (DdAll.chg hb hL hg ds _ n a)
  | .dict _, _, n, _ => nomatch n
theorem DdAll.chg (hb : But L H H') (hL : ∃ xs, H L = some (.lst xs)) (hg : ∀ xs ds, H L = some (.lst xs) → DdAll K H xs ds → g ds = false) : ∀ (ds : List PyData) (vs : List V), lsAll g ds = true → DdAll K H vs ds → DdAll K H' vs ds
  | [], _, _, h => by cases h; exact .nil
  | d :: ds, _, n, h => by
    have n : (lsD g d && lsAll g ds) = true := n
    rw [Bool.and_eq_true] at n
    cases h with
    | cons h1 h2 => exact .cons (Dd.chg hb hL hg d _ n.1 h1) (DdAll.chg hb hL hg ds _ n.2 h2)
end
/-- no lists at all -/
def flatD (d : PyData) : Bool := lsD (fun _ => false) d
/-- no list of two ints -/
def npL : List PyData → Bool
  | [.int _, .int _] => false
  | _ => true
def npD (d : PyData) : Bool := lsD npL d
theorem Dd.but {v : V} {d : PyData} (h : Dd K H v d) (f : flatD d = true) (hb : But L H H') (hL : ∃ xs, H L = some (.lst xs)) : Dd K H' v d := Dd.chg hb hL (fun _ _ _ _ => rfl) d v f h
theorem Dd.drawn {p : Addr} {v : V} {d : PyData} (h : Dd K H v d) (f : npD d = true) (D : Drawn p H H') (hp : PoolAt H p) : Dd K H' v d := by
  obtain ⟨a, b, e, _⟩ := hp
  refine Dd.chg (fun b o h n => D.kept b o h n) ⟨_, e⟩ (fun xs ds e2 al => ?_) d v f h
  rw [e] at e2
  cases e2
  cases al with
  | cons h1 al =>
    cases al with
    | cons h2 al =>
      cases al
      cases h1
      cases h2
      rfl
mutual
theorem np_flat : ∀ d : PyData, flatD d = true → npD d = true
  | .none, _ => rfl
  | .bool _, _ => rfl
  | .int _, _ => rfl
  | .str _, _ => rfl
  | .list xs, h => nomatch (show false = true from h)
  | .tuple xs, h => np_flatAll xs h
  | .dict _, h => nomatch h
theorem np_flatAll : ∀ ds : List PyData, lsAll (fun _ => false) ds = true → lsAll npL ds = true
  | [], _ => rfl
  | d :: ds, h => by
    have h : (flatD d && lsAll (fun _ => false) ds) = true := h
    rw [Bool.and_eq_true] at h
    show (npD d && lsAll npL ds) = true
    rw [np_flat d h.1, np_flatAll ds h.2]
    rfl
end
theorem lsAll_iff : ∀ {ds : List PyData}, lsAll g ds = true ↔ ∀ d ∈ ds, lsD g d = true
  | [] => by simp [lsAll]
  | d :: ds => by
    rw [lsAll, Bool.and_eq_true, lsAll_iff (ds := ds)]
    simp
theorem DdAll.drop {vs : List V} {ds : List PyData} (h : DdAll K H vs ds) : ∀ n, DdAll K H (vs.drop n) (ds.drop n) := by
  intro n
  induction n generalizing vs ds with
  | zero => exact h
  | succ n ih =>
    cases h with
    | nil => exact .nil
    | cons _ t => exact ih t
theorem DdAll.take {vs : List V} {ds : List PyData} (h : DdAll K H vs ds) : ∀ n, DdAll K H (vs.take n) (ds.take n) := by
  intro n
  induction n generalizing vs ds with
  | zero => exact .nil
  | succ n ih =>
    cases h with
    | nil => exact .nil
    | cons h0 t => exact .cons h0 (ih t)
theorem DdAll.rev {vs : List V} {ds : List PyData} (h : DdAll K H vs ds) : DdAll K H vs.reverse ds.reverse := by
  induction vs generalizing ds with
  | nil => cases h; exact .nil
  | cons v vs ih =>
    cases h with
    | cons h0 t =>
      rw [List.reverse_cons, List.reverse_cons]
      exact (ih t).append (.cons h0 .nil)
def cutD (ds : List PyData) (lo hi : Option Int) : List PyData := (ds.drop (HT.sIx ds.length 0 lo)).take (HT.sIx ds.length ds.length hi - HT.sIx ds.length 0 lo)
theorem cutD_mem {ds : List PyData} {lo hi : Option Int} {d : PyData} (h : d ∈ cutD ds lo hi) : d ∈ ds := List.mem_of_mem_drop (List.mem_of_mem_take h)
theorem cutD_len (ds : List PyData) (lo hi : Option Int) : (cutD ds lo hi).length ≤ ds.length := by
  unfold cutD
  rw [List.length_take, List.length_drop]
  omega
theorem g_slD {v : V} {ds : List PyData} {lo hi : Option Int} {Q : VK} (h : Dd K H v (.tuple ds)) (q : ∀ v' H2, Same H H2 → Dd K H2 v' (.tuple (cutD ds lo hi)) → Q v' H2) : GSlice K v lo hi H Q := by
  cases h with
  | tup e al =>
    rename_i a xs
    have ll := al.length
    refine .inr (.inr ⟨a, xs, rfl, SqT.of e, fun w => ?_, fun w p hp => ?_⟩)
    · refine q _ H (Same.refl H) ?_
      have z : cutD ds lo hi = ds := by
        unfold cutD
        rw [← ll, w.1, w.2]
        simp [ll]
      rw [z]
      exact .tup e al
    · refine q _ _ (Same.new hp) (.tup upd_same (DdAll.same (Same.new hp) _ _ ?_))
      unfold cutV cutD
      rw [ll]
      exact (al.drop _).take _
theorem g_catD {v w : V} {ds es : List PyData} {Q : VK} (h1 : Dd K H v (.tuple ds)) (h2 : Dd K H w (.tuple es)) (hl : ds.length + es.length ≤ 100000) (q : ∀ v' H2, Same H H2 → Dd K H2 v' (.tuple (ds ++ es)) → Q v' H2) : GAdd K v w H Q := by
  have h1' := h1
  have h2' := h2
  cases h1 with
  | tup e1 a1 =>
    cases h2 with
    | tup e2 a2 =>
      have l1 := a1.length
      have l2 := a2.length
      refine .inr (.inr (.inr ⟨_, _, _, _, rfl, rfl, SqT.of e1, SqT.of e2, sz_of (by rw [l1, l2]; exact hl), fun z => ?_, fun z1 z2 => ?_, fun _ _ p hp => ?_⟩))
      · refine q _ H (Same.refl H) ?_
        subst z
        cases a1
        exact h2'
      · refine q _ H (Same.refl H) ?_
        subst z2
        cases a2
        rw [List.append_nil]
        exact h1'
      · exact q _ _ (Same.new hp) (.tup upd_same (DdAll.same (Same.new hp) _ _ (a1.append a2)))
theorem g_catN {v w : V} {ds es : List PyData} {Q : VK} (h1 : Dd K H v (.list ds)) (h2 : Dd K H w (.list es)) (hl : ds.length + es.length ≤ 100000) (q : ∀ p xs H2, H p = none → Same H H2 → H2 p = some (.lst xs) → DdAll K H2 xs (ds ++ es) → Q (.ref p) H2) : GAdd K v w H Q := by
  cases h1 with
  | lst e1 a1 =>
    cases h2 with
    | lst e2 a2 =>
      exact .inr (.inr (.inl ⟨_, _, _, _, rfl, rfl, e1, e2, sz_of (by rw [a1.length, a2.length]; exact hl), fun p hp => q p _ _ hp (Same.new hp) upd_same (DdAll.same (Same.new hp) _ _ (a1.append a2))⟩))
theorem DdAll.at_ {vs : List V} {ds : List PyData} (h : DdAll K H vs ds) {r : Int} (h0 : 0 ≤ r) (h1 : r < (ds.length : Nat)) : ∃ v d, atI vs r = some v ∧ d ∈ ds ∧ Dd K H v d := by
  obtain ⟨n, rfl⟩ := Int.eq_ofNat_of_zero_le h0
  have hn : n < vs.length := by rw [h.length]; omega
  have hm : n < ds.length := by omega
  have e : vs[n]? = some vs[n] := List.getElem?_eq_getElem hn
  refine ⟨vs[n], ds[n], atI_nat e, List.getElem_mem hm, ?_⟩
  have go : ∀ {vs : List V} {ds : List PyData} (n : Nat) (a : n < vs.length) (b : n < ds.length), DdAll K H vs ds → Dd K H vs[n] ds[n] := by
    intro vs ds n a b h
    induction n generalizing vs ds with
    | zero =>
      cases h with
      | nil => exact absurd a (Nat.not_lt_zero _)
      | cons h0 t => exact h0
    | succ n ih =>
      cases h with
      | nil => exact absurd a (Nat.not_lt_zero _)
      | cons h0 t => exact ih (by simpa using a) (by simpa using b) t
  exact go n hn hm h
/-- an item of a list of data at a drawn place, the list made ahead of the draw -/
theorem list_at {v : V} {ds : List PyData} {p : Addr} {Q : VK} (h : Dd K H v (.list ds)) (np : npD (.list ds) = true) (D : Drawn p H H') (hp : PoolAt H p) {r : Int} (h0 : 0 ≤ r) (h1 : r < (ds.length : Nat)) (q : ∀ v' d, d ∈ ds → Dd K H' v' d → Q v' H') : rIx K v (.int r) H' Q := by
  have h' := Dd.drawn h np D hp
  cases h' with
  | lst e al =>
    obtain ⟨v', d, a1, a2, a3⟩ := al.at_ h0 h1
    exact r_ixL e a1 (q v' d a2 a3)
end
end Tk

set_option Elab.async false
set_option linter.all false
set_option maxRecDepth 100000
set_option maxHeartbeats 4000000
/-! == of data with data in which tuples of the module stand -/
namespace Tk
open PySem PySem.Spec PyProof.Rows L2 SX
mutual
inductive Dk (K : PySem.W.Frag) (H : Hp) : V → PyData → Prop
  | of {v : V} {d : PyData} : Dd K H v d → Dk K H v d
  | tup {a : Addr} {xs : List V} {ds : List PyData} : SqT K H a xs → DkAll K H xs ds → Dk K H (.ref a) (.tuple ds)
inductive DkAll (K : PySem.W.Frag) (H : Hp) : List V → List PyData → Prop
  | nil : DkAll K H [] []
  | cons {v : V} {vs : List V} {d : PyData} {ds : List PyData} : Dk K H v d → DkAll K H vs ds → DkAll K H (v :: vs) (d :: ds)
end
section
variable {X : Cx} {pn : List (Addr × Obj)} {σ : L2.St} {H : Hp} {s : Shared}
mutual
theorem Dk.reads (I : Inv X pn σ H s) : ∀ (d : PyData) (v : V) (u : Value), Dk X.K H v d → RelV v u → ∃ as, Reads s.heap u d as
  | .tuple ds, v, u, h, r => by
    cases h with
    | of h => exact Dd.reads I _ v u h r
    | tup e al =>
      cases r
      obtain ⟨its, rv, ⟨o, ho, hc, n, hd⟩, _⟩ := I.tuple e
      obtain ⟨as, q⟩ := DkAll.reads I ds _ its al rv
      exact ⟨_, Reads.tuple ho hc hd q⟩
  | .none, v, u, h, r => by
    cases h with
    | of h => exact Dd.reads I _ v u h r
  | .bool _, v, u, h, r => by
    cases h with
    | of h => exact Dd.reads I _ v u h r
  | .int _, v, u, h, r => by
    cases h with
    | of h => exact Dd.reads I _ v u h r
  | .str _, v, u, h, r => by
    cases h with
    | of h => exact Dd.reads I _ v u h r
  | .list _, v, u, h, r => by
    cases h with
    | of h => exact Dd.reads I _ v u h r
  | .dict _, v, u, h, r => by
    cases h with
    | of h => exact Dd.reads I _ v u h r
theorem DkAll.reads (I : Inv X pn σ H s) : ∀ (ds : List PyData) (vs : List V) (us : List Value), DkAll X.K H vs ds → Vals vs us → ∃ as, ReadsAll s.heap us ds as
  | [], _, _, h, r => by
    cases h; cases r
    exact ⟨_, ReadsAll.nil⟩
  | d :: ds, _, _, h, r => by
    cases h with
    | cons h1 h2 =>
      cases r with
      | cons r1 r2 =>
        obtain ⟨as, q1⟩ := Dk.reads I d _ _ h1 r1
        obtain ⟨bs, q2⟩ := DkAll.reads I ds _ _ h2 r2
        exact ⟨_, ReadsAll.cons q1 q2⟩
end
end
def rEqC (K : PySem.W.Frag) : R2 := fun x y H Q => ∃ d e, Dk K H x d ∧ Dk K H y e ∧ d.plain = true ∧ e.plain = true ∧ d.depth ≤ 60 ∧ Q (.bl (PyData.eqv d e)) H
def rNeC (K : PySem.W.Frag) : R2 := fun x y H Q => ∃ d e, Dk K H x d ∧ Dk K H y e ∧ d.plain = true ∧ e.plain = true ∧ d.depth ≤ 60 ∧ Q (.bl (!PyData.eqv d e)) H
section
variable {X : Cx} {K : PySem.W.Frag}
theorem k_eqC (hu : X.A.units + 64 < cLine) (e : X.K = K := by rfl) : OpR X (compareOp .Eq) (rEqC K) := by
  subst e
  intro pn s σ H x y v u Q I rx ry h
  obtain ⟨d, e, hd, he, pd, pe, dp, q⟩ := h
  obtain ⟨as, r1⟩ := Dk.reads I d x v hd rx
  obtain ⟨bs, r2⟩ := Dk.reads I e y u he ry
  exact PySem.SeqAt.eq_plain r1 r2 pd pe (by have := Nat.min_le_left d.depth e.depth; omega) ⟨.bl _, H, I, rfl, q⟩
theorem k_neC (hu : X.A.units + 64 < cLine) (e : X.K = K := by rfl) : OpR X (compareOp .NotEq) (rNeC K) := by
  subst e
  intro pn s σ H x y v u Q I rx ry h
  obtain ⟨d, e, hd, he, pd, pe, dp, q⟩ := h
  obtain ⟨as, r1⟩ := Dk.reads I d x v hd rx
  obtain ⟨bs, r2⟩ := Dk.reads I e y u he ry
  exact PySem.SeqAt.ne_plain r1 r2 pd pe (by have := Nat.min_le_left d.depth e.depth; omega) ⟨.bl _, H, I, rfl, q⟩
end
end Tk

set_option Elab.async false
set_option linter.all false
set_option maxRecDepth 100000
set_option maxHeartbeats 4000000
/-! {e for x in ..}, e a text: the set as a tracked thing -/
namespace Tk
open PySem PySem.Spec PyProof.Rows L2 Ts
section
variable {X : Cx}
/-- one more text in a set of texts, by set.add -/
theorem txt_add {pn : List (Addr × Obj)} {σ : L2.St} {H : Hp} {s : Shared} {E : Value → Shared → Prop} {B : Addr} {M : List Str} {z : Str} {tk : Tok} {R : Value → Shared → Prop} (I : Inv X pn σ H s) (hB : H B = some (TSetO X.prog X.w B M)) (few : M.length + 1 < scanBound)
    (k : ∀ s2, Inv X pn σ (upd H B (TSetO X.prog X.w B (addT M z))) s2 → R .none s2) : wpAny (model X.prog X.w) X.A (call (.builtin "set.add") [.ref B, .str z tk]) R E s := by
  have T := tset_get I hB
  have ty : s.TypeIs (.ref B) "set" := by
    obtain ⟨ob, _, _, _, r⟩ := T
    exact ⟨ob, r.at_, r.ex.1⟩
  refine wpAny_call_entry F.slot_set_add ty F.entry_set_add ?_ (F.args_set_add_2 _ _)
  unfold Builtin.«set.add» Builtin.Frozenset.oneOther Builtin.Frozenset.addrOf setAdd
  simp only [bind_assoc, List.isEmpty_nil]
  iterate 2 (refine wpAny_bind (wpAny_pure ?_); try dsimp only)
  refine wpAny_bind (wpAny_holding (wpAny_bind ((sk X.prog X.w).pyHash (k := z) (strKind_is _ _ _ _) ?_)))
  refine add_txt (s := { s with toks := s.toks + 1 }) T few fun g b sb T2 => ?_
  have old : ∃ u, g.get? B = some u := by
    obtain ⟨ob, _, _, _, r⟩ := T2
    exact ⟨ob, r.at_⟩
  exact wpAny_pure ⟨_, rfl, k _ (I.write (e := B) (t' := s.toks + 1) (by rw [hB]; trivial) (.inl rfl) (fun c u hc hu => (sb.2 c hc).trans hu) old (tset_ok T2))⟩
/-- the empty set that a comprehension begins with -/
abbrev set0 (w : World) : Obj := { cls := .type "set", dict := none, data := .set #[] 0 (.fresh 0 0 (!w.params.followText "set-order")) }
/-- what is asked of the walk, a turn at a time -/
def ScTurn (P : Program) (w : World) (g : TG) (tt : TT) (te : TE) (vs : List Nat) (σ : L2.St) (B : Addr) (J : It) (Fin : Hp → Prop) (W : Nat → Nat → Hp → Prop) : Prop := ∀ i m H, W i m H →
  (J.stop i H ∧ Fin H) ∨ (J.go i H ∧ ∃ Nx : Hp → Prop, (∀ H2, Nx H2 → ∃ m2, m2 < m ∧ W (i + 1) m2 H2) ∧ ∀ x H2, J.yld i H x H2 → g x (wipe σ vs) H2 fun σ3 H3 => wipe σ3 vs = wipe σ vs ∧ tt σ3 H3 fun b H4 =>
    if b = true then te σ3 H4 fun y H5 => ∃ (z : Str) (M : List Str), y = .str z ∧ H5 B = some (TSetO P w B M) ∧ M.length + 1 < scanBound ∧ Nx (upd H5 B (TSetO P w B (addT M z))) else Nx H4)
def tScT (P : Program) (w : World) (wi : TI) (g : TG) (tt : TT) (te : TE) (vs : List Nat) : TE := fun σ H Q => wi σ H fun J H1 => ∀ B, H1 B = none → ∃ W, (∃ m, W 0 m (upd H1 B (TSetO P w B []))) ∧ ScTurn P w g tt te vs σ B J (fun H2 => Q (.ref B) H2) W
theorem pe_scT {elt tg iter : Expr} {ifs : List Expr} {scope : Scope} {own : List (Str × Nat)} {pos : Pos} {wi : TI} {g : TG} {tt : TT} {te : TE} (hc : X.calm = true) (hN : X.N.Nodup) (hi : PI X tg iter wi) (ok : BlkOk X.N X.env.scope scope own)
    (hg : ∀ (s : Shared) (H : Hp) (C : Addr) (cl : List (Str × Addr)) (fp : List Addr), PG (X.blk s H scope (compEnvC scope cl C X.env) fp) tg g)
    (ht : ∀ (s : Shared) (H : Hp) (C : Addr) (cl : List (Str × Addr)) (fp : List Addr), PTs (X.blk s H scope (compEnvC scope cl C X.env) fp) ifs tt)
    (he : ∀ (t : Shared) (H : Hp) (L : Addr) (cl : List (Str × Addr)) (fp : List Addr), PE (X.blk t H scope (compEnvC scope cl L X.env) fp) elt te) (hs : ∀ x, foldedSetIterable iter X.env x = pure x := by intro _; rfl) :
    PE X (.SetComp elt [⟨tg, iter, ifs, 0⟩] scope pos) (tScT X.prog X.w wi g tt te (own.map (·.2))) := by
  refine ⟨fun pins s σ H Q I hq => ?_⟩
  rw [PpSet.eval_SetComp]
  have free_ok : ∀ y ∈ scope.names, y.2 = .free → ∃ c, X.env.cells.lookup y.1 = some c := fun y hy e => (ok.free y hy e).elim (fun k => I.ok.has _ (.inl k)) (fun k => I.ok.has _ (.inr k))
  refine wpAny_comprehension_free (use := none) rfl hs (closure_ok free_ok) ok.kind (fun y hy e => by rw [ok.uniq y hy, e]) (thn (hi.run pins s σ H _ I hq) fun xv s1 hx => thn hx fun itv s2 h2 => ?_)
  obtain ⟨it, fp, tn, J, H2, rfl, I2, T, st2, f2, q⟩ := h2
  refine PpSet.newSet_ok (newEnv_comp ?_)
  obtain ⟨B, eB⟩ : ∃ B, B = s2.heap.objs.size := ⟨_, rfl⟩
  have nB : H2 B = none := I2.hok.fresh (by rw [eB]; exact Nat.le_refl _)
  obtain ⟨W, ⟨m0, w0⟩, turn⟩ := q B nB
  -- the set is laid
  obtain ⟨s3, e3⟩ : ∃ s3 : Shared, s3 = { s2 with heap := s2.heap.push (set0 X.w) } := ⟨_, rfl⟩
  have p3 : s3.heap = s2.heap.push (set0 X.w) := by rw [e3]
  have I3 : Inv X pins σ (upd H2 B (TSetO X.prog X.w B [])) s3 := by
    rw [e3]
    refine I2.laid (t' := s2.toks) (fun b o e => Heap.get?_push_of_some _ e) (by rw [eB]; exact Nat.le_refl _) ?_
    rw [eB]
    exact tset_ok (tset_new (Heap.get?_push_size _ rfl))
  have low : ∀ b ∈ fp, b < s2.heap.objs.size := fun b hb => by
    obtain ⟨_, e, _⟩ := T.obj _ _ st2 b hb
    exact Heap.lt_size e
  have f3 : ∀ b ∈ fp, FpOk X pins (upd H2 B (TSetO X.prog X.w B [])) b ∧ b < s3.heap.objs.size := fun b hb => by
    have l := low b hb
    refine ⟨⟨?_, (f2 b hb).2⟩, by rw [p3, Heap.size_push]; exact Nat.lt_succ_of_lt l⟩
    rw [upd_ne (by rw [eB]; exact Nat.ne_of_lt l)]
    exact (f2 b hb).1
  have st3 : tn 0 s3.heap := T.keep _ _ _ st2 fun b _ o e => by
    rw [p3]; exact Heap.get?_push_of_some _ e
  -- the block's own frame
  have I4 := block_start (scope := scope) I3 ok hN f3
  obtain ⟨L, eL⟩ : ∃ L, L = s3.heap.objs.size := ⟨_, rfl⟩
  obtain ⟨cl, ecl⟩ : ∃ cl, cl = cellsFrom (s3.heap.objs.size + 1) scope.names (cloFrom X.env.cells scope.names []) := ⟨_, rfl⟩
  obtain ⟨H3, e5⟩ : ∃ H3, H3 = upd H2 B (TSetO X.prog X.w B []) := ⟨_, rfl⟩
  rw [← e5] at I3 f3 w0 I4
  have PG_ := hg s3 H3 L cl fp
  have PT_ := ht s3 H3 L cl fp
  have PE_ := he s3 H3 L cl fp
  have nfp : ∀ b ∈ fp, H3 b = none := fun b hb => (f3 b hb).1.1
  obtain ⟨ce, e6⟩ : ∃ ce, ce = compEnvC scope cl L X.env := ⟨_, rfl⟩
  obtain ⟨s4, e7⟩ : ∃ s4 : Shared, s4 = { s3 with heap := pushCells (s3.heap.push { cls := .type "dict", data := .dict #[] }) scope.names } := ⟨_, rfl⟩
  rw [← ecl, ← eL, ← e6, ← e7] at I4
  rw [← e6] at PG_ PT_ PE_
  have cL : ce.locals = L := by rw [e6]; rfl
  have st4 : tn 0 s4.heap := T.keep _ _ _ st3 fun b _ o e => by
    rw [e7]
    exact pushCells_keeps _ _ _ _ (Heap.get?_push_of_some _ e)
  have stands : ∀ {σ' : L2.St} {H' : Hp} {s' : Shared}, Inv (X.blk s3 H3 scope ce fp) [] σ' H' s' → (∀ b ∈ fp, H' b = none) → ∀ b ∈ fp, FpOk (X.blk s3 H3 scope ce fp) [] H' b := fun {_ H' _} J' hn b hb =>
    ⟨hn b hb, (J'.ok.exf b hb).1, J'.ok.exfs b hb, .inl hb, fun x c e => (J'.ok.exf b hb).2 x c e, fun p hp => by simp at hp⟩
  have wl : (wipe σ (own.map (·.2))).length = σ.length := wipe_length ..
  have loop : codeAny (model X.prog X.w) X.A (.compLoop (.SetComp elt [⟨tg, iter, ifs, 0⟩] scope pos) 0 (.ref it) (.ref B) ce) (compPost (model X.prog X.w) X.A X.xe none (EP X pins σ Q) (.ref B) L) s4 := by
    refine PpSet.compLoopS_any (fun n t => ∃ i G, Inv (X.blk s3 H3 scope ce fp) [] (wipe σ (own.map (·.2))) G t ∧ tn i t.heap ∧ (∀ b ∈ fp, G b = none) ∧ W i n G) ?_ m0 ⟨0, H3, I4, st4, nfp, w0⟩
    rintro n t5 ⟨i, G5, J5, st5, n5, w5⟩
    rcases turn i n G5 w5 with ⟨stop, fin⟩ | ⟨go, Nx, dn, step⟩
    · refine thnF (T.done (X.blk s3 H3 scope ce fp) rfl rfl rfl hc i [] t5 _ G5 (fun _ _ => False) J5 (stands J5 n5) st5 stop) fun r t6 ⟨hr, J6⟩ => ?_
      subst hr
      have J7 : Inv X pins σ G5 t6 := I3.call' (ch := fp) J6.os J6.base J6.hok J6.bare fun b hb => by
        obtain ⟨⟨_, a1, _, a3, a4, a5⟩, _⟩ := f3 b hb
        exact ⟨a3, a1, a4, a5⟩
      have nL : G5 L = none := by
        have z := J6.free
        rw [show (X.blk s3 H3 scope ce fp).env.locals = L from cL] at z
        exact z
      obtain ⟨mm, hn, _⟩ := J6.loc
      have hn : t6.heap.Ns L mm := by rw [← cL]; exact hn
      obtain ⟨b0, b1, b2, b3, b4, b5⟩ := I3.fpOk (show s3.heap.objs.size ≤ L by rw [eL]; exact Nat.le_refl _) nL
      exact ⟨mm, hn, fun h2 sb => ⟨.ref B, G5, J7.turned (t' := t6.toks) (fun b o hb e => (sb.2 b hb).trans e) b0 b1 b3 b4 b5, rfl, fin⟩⟩
    · refine thnF (T.item (X.blk s3 H3 scope ce fp) rfl rfl rfl hc i [] t5 _ G5 (fun _ _ => False) J5 (stands J5 n5) st5 go) fun r t6 ⟨u, hr, h6⟩ => ?_
      subst hr
      refine thnF h6 fun _ t7 ⟨x, G7, J7, r7, y7, st7, n7⟩ => ?_
      refine thnF (PG_.run _ t7 _ G7 x u _ (J7.pinned (stands J7 n7) (T.obj _ _ st7)) r7 (step x G7 y7)) fun _ t8 ⟨σ8, G8, J8, hw8, q8⟩ => ?_
      refine thnF (PT_.run _ t8 σ8 G8 _ J8 q8) fun b t9 ⟨G9, J9, q9⟩ => ?_
      have next : ∀ {t : Shared} {G : Hp}, Inv (X.blk s3 H3 scope ce fp) ([] ++ pinsAt fp t7.heap) σ8 G t → Nx G → ∃ m, m < n ∧ ∃ i G, Inv (X.blk s3 H3 scope ce fp) [] (wipe σ (own.map (·.2))) G t ∧ tn i t.heap ∧ (∀ b ∈ fp, G b = none) ∧ W i m G := by
        intro t G J' nx
        obtain ⟨m2, hm, w2⟩ := dn G nx
        have held : ∀ b ∈ fp, ∀ o, t7.heap.get? b = some o → t.heap.get? b = some o ∧ G b = none := fun b hb o e => by
          have z := J'.pin (b, o) (List.mem_append_right _ (List.mem_append_right _ (mem_pinsAt hb e)))
          exact ⟨z.1, z.2.1⟩
        refine ⟨m2, hm, i + 1, G, J'.unpinned.weak (by rw [← hw8, wipe_length]) (fun j v e => ?_), T.keep _ _ _ st7 fun b hb o e => (held b hb o e).1, fun b hb => ?_, w2⟩
        · rw [← hw8] at e
          exact (wipe_some e).1
        · obtain ⟨o, e, _⟩ := T.obj _ t7.heap st7 b hb
          exact (held b hb o e).2
      cases b with
      | false => exact next J9 q9
      | true =>
        refine thnF (PE_.run _ t9 σ8 G9 _ J9 q9) fun v t10 ⟨y, G10, J10, r10, z, M, ey, hB, few, nx⟩ => ?_
        subst ey
        obtain ⟨tk, rfl⟩ := (show ∃ tk, v = Value.str z tk from r10)
        exact txt_add (X := X.blk s3 H3 scope ce fp) J10 hB few fun t11 J11 => next J11 nx
  have start := PpSet.codeAny_compStart_set loop (T.self X.A 0 _ _ _ st4 loop)
  rw [e6, ecl, eL, e7, eB] at start
  rw [e3] at start
  exact start
end
end Tk
namespace Tk
open PySem PySem.Spec PyProof.Rows L2 Ts
/-- what a set comprehension asks, once it is known what it walks -/
def ScG (P : Program) (w : World) (J : It) (g : TG) (tt : TT) (te : TE) (vs : List Nat) (σ : L2.St) (H1 : Hp) (Q : VK) : Prop := ∀ B, H1 B = none → ∃ W, (∃ m, W 0 m (upd H1 B (TSetO P w B []))) ∧ ScTurn P w g tt te vs σ B J (fun H2 => Q (.ref B) H2) W
theorem r_scT {P : Program} {w : World} {wi : TI} {g : TG} {tt : TT} {te : TE} {vs : List Nat} {σ : L2.St} {H : Hp} {Q : VK} (h : wi σ H fun J H1 => ScG P w J g tt te vs σ H1 Q) : tScT P w wi g tt te vs σ H Q := h
theorem gather_nodup : ∀ (xs : List Str), (gather xs).length = xs.length ↔ xs.Nodup
  | [] => by simp [gather]
  | x :: xs => by
    have ih := gather_nodup xs
    have le := gather_len xs
    rw [gather, List.nodup_cons, List.length_cons, ← ih]
    unfold addT
    by_cases h : x ∈ gather xs
    · rw [if_pos h]
      rw [gather_mem] at h
      constructor
      · intro z
        omega
      · intro z
        exact absurd h z.1
    · rw [if_neg h, List.length_cons]
      rw [gather_mem] at h
      constructor
      · intro z
        exact ⟨h, by omega⟩
      · intro z
        omega
/-- a set comprehension that only makes new things: the texts told item by item -/
theorem sc_pure {P : Program} {w : World} {J : It} {G : Hp → Prop} {items : List V} {s : Nat} {te : TE} {σ : L2.St} {H1 : Hp} {Q : VK} (wk : Walk J items.length G (YAt items)) (hG : ∀ H', Same H1 H' → G H') (hn : items.length ≤ 4000) (f : List Str) (hl : f.length = items.length)
    (he : ∀ (i : Nat) (x : V) (z : Str), items[i]? = some x → f[i]? = some z → ∀ (H2 : Hp) (R : VK), Same H1 H2 → (∀ H3, Same H2 H3 → R (.str z) H3) → te (σ.set s (some x)) H2 R)
    (hd : ∀ (B : Addr) (H' : Hp), H1 B = none → Same H1 H' → H' B = some (TSetO P w B (gather f.reverse)) → Q (.ref B) H') :
    ScG P w J (gName s) tYes te [s] σ H1 Q := by
  intro B nB
  refine ⟨fun i m H' => m = items.length - i ∧ i ≤ items.length ∧ Same H1 H' ∧ H' B = some (TSetO P w B (gather (f.take i).reverse)), ⟨_, rfl, Nat.zero_le _, Same.new nB, upd_same⟩, ?_⟩
  rintro i m H2 ⟨rfl, hi, p1, p2⟩
  rcases Nat.lt_or_ge i items.length with hlt | hge
  · refine .inr ⟨wk.goes i H2 hlt (hG H2 p1), fun H' => i + 1 ≤ items.length ∧ Same H1 H' ∧ H' B = some (TSetO P w B (gather (f.take (i + 1)).reverse)), fun H' p => ⟨items.length - (i + 1), by omega, rfl, p.1, p.2⟩, fun x H3 y => ?_⟩
    obtain ⟨rfl, hx⟩ := wk.yields i H2 x H3 hlt (hG H2 p1) y
    have hz : f[i]? = some (f[i]'(by omega)) := List.getElem?_eq_getElem (by omega)
    refine ⟨wipe_set σ s _, ?_⟩
    rw [wipe_slot]
    simp only [tYes, reduceIte]
    refine he i x _ hx hz _ _ p1 fun H4 s4 => ⟨_, _, rfl, s4 _ _ p2, ?_, hlt, Same.mut (p1.trans s4) nB, ?_⟩
    · have := gather_len (f.take i).reverse
      rw [List.length_reverse, List.length_take] at this
      unfold scanBound
      omega
    · rw [upd_same, List.take_add_one, hz, List.reverse_append]
      rfl
  · have : i = items.length := by omega
    subst this
    rw [List.take_of_length_le (by omega)] at p2
    exact .inl ⟨wk.stops H2 (hG H2 p1), hd B H2 nB p1 p2⟩
end Tk

set_option Elab.async false
set_option linter.all false
set_option maxRecDepth 100000
set_option maxHeartbeats 4000000
/-! own classes that hold a dict of texts: fields, methods, makings, locks; lists or tuples walked alike -/
namespace Tk
open PySem PySem.Spec PyProof.Rows L2
/-! ### data that have no lists stand while something that is no tuple changes -/
section
variable {K : PySem.W.Frag} {H H' : Hp} {L : Addr}
mutual
theorem Dd.stay (hb : But L H H') (nL : ∀ xs, H L ≠ some (.tup xs)) : ∀ (d : PyData) (v : V), flatD d = true → Dd K H v d → Dd K H' v d
  | .none, _, _, h => by cases h; exact .non
  | .bool b, _, _, h => by cases h; exact .bl b
  | .int i, _, _, h => by cases h; exact .int i
  | .str x, _, _, h => by cases h; exact .str x
  | .list ds, _, n, _ => nomatch (show false = true from n)
  | .dict _, _, n, _ => nomatch (show false = true from n)
  | .tuple ds, _, n, h => by
    cases h with
    | tup e a => exact .tup (hb _ _ e fun z => by subst z; exact nL _ e) (DdAll.stay hb nL ds _ n a)
theorem DdAll.stay (hb : But L H H') (nL : ∀ xs, H L ≠ some (.tup xs)) : ∀ (ds : List PyData) (vs : List V), lsAll (fun _ => false) ds = true → DdAll K H vs ds → DdAll K H' vs ds
  | [], _, _, h => by cases h; exact .nil
  | d :: ds, _, n, h => by
    have n : (flatD d && lsAll (fun _ => false) ds) = true := n
    rw [Bool.and_eq_true] at n
    cases h with
    | cons h1 h2 => exact .cons (Dd.stay hb nL d _ n.1 h1) (DdAll.stay hb nL ds _ n.2 h2)
end
end
/-! ### isinstance(x, (list, tuple)) -/
section
variable {X : Cx} {K : PySem.W.Frag} {H : Hp} {Q : VK} {v : V} {d : PyData} {tp : Addr}
theorem k_isiT (e : X.K = K := by rfl) : CallR X (.builtin "isinstance") (rIsiT K) := by subst e; exact call_isiT
theorem r_isiLT (h : Dd K H v d) (e : H tp = some (.tup [.ty "list", .ty "tuple"])) (q : Q (.bl (isOf d "list" || isOf d "tuple")) H) : rIsiT K [v, .ref tp] H Q := by
  refine ⟨v, tp, _, _, [.type "list", .type "tuple"], _, rfl, e, .cons (.ty _) (.cons (.ty _) .nil), h.ty, ?_, q⟩
  have a := isOf_kit (K := K) d (T := "list") (by decide)
  have b := isOf_kit (K := K) d (T := "tuple") (by decide)
  unfold PySem.W.kitAny
  rw [a]
  cases isOf d "list" with
  | true => rfl
  | false =>
    show PySem.W.kitAny K (.type (tyN d)) [.type "tuple"] = _
    unfold PySem.W.kitAny
    rw [b]
    cases isOf d "tuple" <;> rfl
end
/-! ### for x in xs, xs a list or a tuple -/
def iSeq (K : PySem.W.Frag) (tl : TE) : TI := fun σ H R => iList K tl σ H R ∨ iTup K tl σ H R
theorem k_seq {X : Cx} {K : PySem.W.Frag} {tg l : Expr} {tl : TE} (hl : PE X l tl) (e : X.K = K := by rfl) : PI X tg l (iSeq K tl) := by
  subst e
  refine ⟨fun pins s σ H R I h => ?_⟩
  rcases h with h | h
  · exact (pi_list hl).run pins s σ H R I h
  · exact (pi_tup hl).run pins s σ H R I h
/-! ### fields, by the letter K -/
section
variable {X : Cx} {K : PySem.W.Frag} {o e value : Expr} {f : Str} {pos pos' : Pos} {ta tv : TE} {σ : L2.St} {H : Hp} {Q : VK} {D : Ends}
theorem k_fld (he : PE X e ta) (eK : X.K = K := by rfl) (hb : attributeBase e f X.env (eval e X.env) = eval e X.env := by rfl) : PE X (.Attribute e f pos) (tFld K ta f) := by subst eK; exact pe_fld he hb
theorem k_setF (ha : PE X o ta) (hv : PE X value tv) (eK : X.K = K := by rfl) (hs : swapsWith value (some (.Attribute o f pos')) pos.line X.env = pure false := by rfl) : PS X (.Assign [.Attribute o f pos'] value pos) (sFld K ta tv f) := by subst eK; exact ps_fld ha hv hs
theorem r_fld (h : ta σ H fun x H1 => ∃ a C dx fs v, x = .ref a ∧ H1 a = some (.ins C dx fs) ∧ Cls K C ∧ NoAttr K C f ∧ fs.lookup f = some v ∧ Q v H1) : tFld K ta f σ H Q := h
theorem r_setF (h : tv σ H fun y H1 => ta σ H1 fun x H2 => ∃ a C dx fs, x = .ref a ∧ H2 a = some (.ins C dx fs) ∧ Cls K C ∧ NoAttr K C f ∧ fs.length < 1000 ∧ D.nx σ (upd H2 a (.ins C dx (putF f y fs)))) : sFld K ta tv f D σ H := h
theorem r_dget {td ty : TE} (h : td σ H fun x H1 => ty σ H1 fun y H2 => ∃ a v, x = .ref a ∧ DGet H2 a y (some v) ∧ Q v H2) : tDGet td ty σ H Q := h
theorem r_din {td ty : TE} (h : ty σ H fun y H1 => td σ H1 fun x H2 => ∃ a o, x = .ref a ∧ DGet H2 a y o ∧ Q (.bl o.isSome) H2) : tDIn ty td σ H Q := h
theorem r_dget2 {td ty tx : TE} (h : td σ H fun x H1 => ∃ a, x = .ref a ∧ IsD H1 a ∧ ty σ H1 fun y H2 => tx σ H2 fun z H3 => ∃ o, DGet H3 a y o ∧ Q (o.getD z) H3) : tDGet2 td ty tx σ H Q := h
theorem r_dput {td ty : TE} (h : tv σ H fun v H1 => td σ H1 fun x H2 => ty σ H2 fun y H3 => ∃ a H4, x = .ref a ∧ DPut H3 a y v H4 ∧ D.nx σ H4) : sDPut td ty tv D σ H := h
theorem DGet.rd {a : Addr} {kvs : List (Key × V)} {k : Key} (e : Rd H a (.dK kvs)) : DGet H a (kV k) (valV kvs k) := .inl ⟨kvs, k, e, rfl, rfl⟩
end
/-! ### methods and makings of own classes, told once -/
structure CalM (P : Program) (w : World) (K : PySem.W.Frag) (mg : Str → Option Value) (base : Heap) (CX : CXT) (C : Addr) (k : Nat) (m : Str) (ps : List Str) (sp : Sp) : Prop where
  cls : Cls K C
  ex : ∃ (f : Addr) (fd : FuncData), Meth K C m f ∧ Binds K fd ps [] ∧ FnOk P w K mg base CX k f fd ps sp
theorem CalM.mono {P : Program} {w : World} {K : PySem.W.Frag} {mg : Str → Option Value} {base : Heap} {CX : CXT} {C : Addr} {j k : Nat} {m : Str} {ps : List Str} {sp : Sp} (c : CalM P w K mg base CX C j m ps sp) (h : j ≤ k) : CalM P w K mg base CX C k m ps sp := by
  obtain ⟨a, f, fd, b1, b2, F⟩ := c
  exact ⟨a, f, fd, b1, b2, F.mono h⟩
/-- C(..) -/
structure CalC (P : Program) (w : World) (K : PySem.W.Frag) (mg : Str → Option Value) (base : Heap) (CX : CXT) (x : Str) (C : Addr) (k : Nat) (ps : List Str) (sp : Sp) : Prop where
  at_ : mg x = some (.ref C)
  ex : ∃ (f : Addr) (fd : FuncData), Mk K C f ∧ Binds K fd ps [] ∧ FnOk P w K mg base CX k f fd ps sp
theorem CalC.mono {P : Program} {w : World} {K : PySem.W.Frag} {mg : Str → Option Value} {base : Heap} {CX : CXT} {x : Str} {C : Addr} {j k : Nat} {ps : List Str} {sp : Sp} (c : CalC P w K mg base CX x C j ps sp) (h : j ≤ k) : CalC P w K mg base CX x C k ps sp := by
  obtain ⟨a, f, fd, b1, b2, F⟩ := c
  exact ⟨a, f, fd, b1, b2, F.mono h⟩
section
variable {X : Cx} {CX : CXT} {C : Addr} {k : Nat} {m x : Str} {ps : List Str} {sp : Sp} {E : XK} {o e : Expr} {es : List Expr} {p pos apos : Pos} {ta : TE} {t : TA} {σ : L2.St} {H : Hp} {Q : VK}
theorem pe_calm {pl : Sem Bool} (M : CalM X.prog X.w X.K X.mg X.base CX C k m ps sp) (hr : Room k X.A) (hx : Passes CX X E) (he : PE X o ta) (ha : PA X (e :: es) t)
    (hst : starEach (e :: es) X.env = (false, eval e X.env) :: starEach es X.env := by rfl) (hpl : (backTo pos (starEach es X.env)).any (·.1) = false := by rfl)
    (ht : eval (.Call (.Attribute o m apos) (e :: es) [] pos) X.env = (do
      let ov ← eval o X.env; standAt apos.atName
      let (f, first) ← holding [ov] (getMethod ov m pl); callWith pos f first (backTo pos (starEach (e :: es) X.env)) (backToKw pos (keywordEach [] X.env))) := by rfl) : PE X (.Call (.Attribute o m apos) (e :: es) [] pos) (tMeth C m sp [] E ta t) := by
  obtain ⟨f, fd, mt, bd, F⟩ := M.ex
  exact pe_meth (pl := pl) he M.cls mt F hr bd .nil hx ha hst hpl ht
theorem pe_calm0 {pl : Sem Bool} (M : CalM X.prog X.w X.K X.mg X.base CX C k m ps sp) (hr : Room k X.A) (hx : Passes CX X E) (he : PE X o ta)
    (ht : eval (.Call (.Attribute o m apos) [] [] pos) X.env = (do
      let ov ← eval o X.env; standAt apos.atName
      let (f, first) ← holding [ov] (getMethod ov m pl); callWith pos f first (backTo pos (starEach [] X.env)) (backToKw pos (keywordEach [] X.env))) := by rfl) : PE X (.Call (.Attribute o m apos) [] [] pos) (tMeth C m sp [] E ta tNil) := by
  obtain ⟨f, fd, mt, bd, F⟩ := M.ex
  exact pe_meth0 (pl := pl) he M.cls mt F hr bd .nil hx ht
theorem pe_calC (M : CalC X.prog X.w X.K X.mg X.base CX x C k ps sp) (hr : Room (k + 1) X.A) (hx : Passes CX X E) (ha : PA X (e :: es) t) (hg : Gl X x := by rfl) (hdb : (x == ("__debug__" : Str)) = false := by decide)
    (he : starEach (e :: es) X.env = (false, eval e X.env) :: starEach es X.env := by rfl) (hpl : (backTo pos (starEach es X.env)).any (·.1) = false := by rfl) : PE X (.Call (.Name x p) (e :: es) [] pos) (tMake C sp [] E t) := by
  obtain ⟨f, fd, mk, bd, F⟩ := M.ex
  exact pe_make mk F hr hg M.at_ bd .nil hx ha hdb he hpl
theorem r_meth (h : ta σ H fun x H1 => ∃ a dx fs, x = .ref a ∧ H1 a = some (.ins C dx fs) ∧ fs.lookup m = none ∧ t σ H1 fun vs H2 => sp (x :: (vs ++ [])) H2 Q E) : tMeth C m sp [] E ta t σ H Q := h
theorem r_make (h : t σ H fun vs H1 => ∀ x dx, H1 x = none → H1 dx = none → dx ≠ x → sp (.ref x :: (vs ++ [])) (upd (upd H1 dx (.own x)) x (.ins C dx [])) (fun v H2 => v = .non ∧ Q (.ref x) H2) E) : tMake C sp [] E t σ H Q := h
end
/-! ### locks -/
section
variable {σ : L2.St} {H : Hp} {Q : VK} {D : Ends} {d : Addr} {kvs : List (Key × V)}
theorem r_lockE {t : TE} (e : H d = some (.dK kvs)) (h : ∀ od, t σ (upd H d (.frz od (.dK kvs))) fun v H' => H' d = some (.frz od (.dK kvs)) ∧ Q v (upd H' d (.dK kvs))) : tLockE t σ H Q := ⟨d, _, e, True.intro, h⟩
theorem r_lock {t : TS} (e : H d = some (.dK kvs)) (h : ∀ od, t ⟨fun σ' H' => H' d = some (.frz od (.dK kvs)) ∧ D.nx σ' (upd H' d (.dK kvs)), fun v H' => H' d = some (.frz od (.dK kvs)) ∧ D.rt v (upd H' d (.dK kvs)), fun σ' H' => H' d = some (.frz od (.dK kvs)) ∧ D.bk σ' (upd H' d (.dK kvs)), fun σ' H' => H' d = some (.frz od (.dK kvs)) ∧ D.ct σ' (upd H' d (.dK kvs))⟩ σ (upd H d (.frz od (.dK kvs)))) : tLock t D σ H := ⟨d, _, e, True.intro, h⟩
end
/-! ### == of two dicts that hold the same things -/
section
variable {X : Cx}
theorem eq_self {A : Around} {s : Shared} {v : V} {u u' : Value} (r : RelV v u) (r' : RelV v u') (f : flatB v = true ∨ ∃ a, v = .ref a) : SeqAt.EqAt A s u u' true := by
  rcases f with f | ⟨a, rfl⟩
  · exact eqAt_same r r' f
  · cases (show u = Value.ref a from r)
    cases (show u' = Value.ref a from r')
    exact SeqAt.EqAt.same _
end
/-! ### lists and tuples alike -/
section
variable {K : PySem.W.Frag} {σ : L2.St} {H : Hp} {Q : VK} {a : Addr} {xs : List V}
def SeqO (H : Hp) (a : Addr) (xs : List V) : Prop := H a = some (.lst xs) ∨ H a = some (.tup xs)
theorem SeqO.same {H H' : Hp} {a : Addr} {xs : List V} (h : SeqO H a xs) (s : Same H H') : SeqO H' a xs := h.imp (s _ _) (s _ _)
theorem r_iSeqV {i : Nat} {R : It → Hp → Prop} (hv : σ[i]? = some (some (.ref a))) (h : SeqO H a xs) (q : ∀ J G, Walk J xs.length G (YAt xs) → (∀ H', Same H H' → G H') → R J H) : iSeq K (tVar i) σ H R := by
  rcases h with h | h
  · exact .inl ⟨_, hv, a, rfl, ⟨xs, SqL.of h⟩, q _ _ walk_list fun H' s => SqL.of (s _ _ h)⟩
  · exact .inr ⟨_, hv, a, rfl, ⟨xs, SqT.of h⟩, q _ _ walk_tup fun H' s => SqT.of (s _ _ h)⟩
theorem r_lenSeq (h : SeqO H a xs) (q : Q (.int (xs.length : Nat)) H) : rLen K [.ref a] H Q := by
  rcases h with h | h
  · exact r_lenQ (SqL.of h) q
  · exact r_lenT h q
theorem lc_walkI {J : It} {G : Hp → Prop} {s : Nat} {te : TE} (wk : Walk J xs.length G (YAt xs)) (hG : ∀ H', Same H H' → G H') (rs : List V) (hl : rs.length = xs.length) (hn : xs.length ≤ 100000)
    (he : ∀ (i : Nat) (x r : V), xs[i]? = some x → rs[i]? = some r → ∀ (H2 : Hp) (R : VK), Same H H2 → (∀ H3, Same H2 H3 → R r H3) → te (σ.set s (some x)) H2 R)
    (hd : ∀ (B : Addr) (H' : Hp), H B = none → Same H H' → H' B = some (.lst rs) → Q (.ref B) H') : LcG J (gName s) tYes te [s] σ H Q := by
  intro B nB
  refine lc_it (Qd := fun H' => Q (.ref B) H') wk (fun i H' => Same H H' ∧ H' B = some (.lst (rs.take i))) ⟨Same.new nB, upd_same⟩ (fun i H' _ p => hG H' p.1) ?_ (fun H' p => hd B H' nB p.1 (by rw [p.2, ← hl, List.take_length]))
  rintro i x H2 H2' hi ⟨p1, p2⟩ ⟨rfl, hx⟩
  have hr : rs[i]? = some (rs[i]'(by omega)) := List.getElem?_eq_getElem (by omega)
  refine ⟨wipe_set σ s _, ?_⟩
  rw [wipe_slot]
  simp only [tYes, reduceIte]
  refine he i x _ hx hr H2' _ p1 fun H3 s3 => ⟨_, s3 _ _ p2, sz_lt (by rw [List.length_take]; omega), Same.mut (p1.trans s3) nB, ?_⟩
  rw [upd_same, List.take_succ, hr]
  rfl
end
theorem seq_or {K : PySem.W.Frag} {H : Hp} {v : V} {d : PyData} (h : Dd K H v d) : (∃ a xs ds, v = .ref a ∧ SeqO H a xs ∧ DdAll K H xs ds ∧ (d = .list ds ∨ d = .tuple ds) ∧ (isOf d "list" || isOf d "tuple") = true) ∨ ((isOf d "list" || isOf d "tuple") = false ∧ ∀ ds, d ≠ .list ds ∧ d ≠ .tuple ds) := by
  have nl : isN "NoneType" "list" = false ∧ isN "bool" "list" = false ∧ isN "int" "list" = false ∧ isN "str" "list" = false ∧ isN "list" "list" = true ∧ isN "tuple" "list" = false ∧ isN "dict" "list" = false := by decide +kernel
  obtain ⟨a1, a2, a3, a4, a5, a6, a7⟩ := nl
  obtain ⟨b1, b2, b3, b4, b5, b6, b7⟩ := isN_tuple
  cases h with
  | lst e al => exact .inl ⟨_, _, _, rfl, .inl e, al, .inl rfl, by show (isN "list" "list" || isN "list" "tuple") = true; rw [a5]; rfl⟩
  | tup e al => exact .inl ⟨_, _, _, rfl, .inr e, al, .inr rfl, by show (isN "tuple" "list" || isN "tuple" "tuple") = true; rw [b6, Bool.or_true]⟩
  | non => exact .inr ⟨by show (isN "NoneType" "list" || isN "NoneType" "tuple") = false; rw [a1, b1]; rfl, fun ds => ⟨(fun z => nomatch z), (fun z => nomatch z)⟩⟩
  | bl b => exact .inr ⟨by show (isN "bool" "list" || isN "bool" "tuple") = false; rw [a2, b2]; rfl, fun ds => ⟨(fun z => nomatch z), (fun z => nomatch z)⟩⟩
  | int b => exact .inr ⟨by show (isN "int" "list" || isN "int" "tuple") = false; rw [a3, b3]; rfl, fun ds => ⟨(fun z => nomatch z), (fun z => nomatch z)⟩⟩
  | str b => exact .inr ⟨by show (isN "str" "list" || isN "str" "tuple") = false; rw [a4, b4]; rfl, fun ds => ⟨(fun z => nomatch z), (fun z => nomatch z)⟩⟩
  | dct e => exact .inr ⟨by show (isN "dict" "list" || isN "dict" "tuple") = false; rw [a7, b7]; rfl, fun ds => ⟨(fun z => nomatch z), (fun z => nomatch z)⟩⟩
/-! ### sorted(d), d a dict of texts -/
def rSortD : List V → Hp → VK → Prop := fun xs H Q => ∃ (a : Addr) (kvs : List (Key × V)) (ks : List Str), xs = [.ref a] ∧ Rd H a (.dK kvs) ∧ kvs.map (·.1) = ks.map Sum.inr ∧ ks.length < 64 ∧ ∀ ys p, ys.Perm ks → sortedS ys = true → H p = none → Q (.ref p) (upd H p (.lst (ys.map V.str)))
theorem k_sortD {X : Cx} (hc : X.calm = true) : CallR X (.builtin "sorted") rSortD := call_sortedD hc
end Tk

set_option Elab.async false
set_option linter.all false
set_option maxRecDepth 100000
set_option maxHeartbeats 4000000
/-! contents: entries by their keys, as dicts of the heap, as objects -/
namespace Tk
open PySem PySem.Spec PyProof.Rows L2
theorem at0 {α : Type} (x : α) (xs : List α) : atI (x :: xs) 0 = some x := (atI_nat (xs := x :: xs) (j := 0) (by simp) : atI (x :: xs) ((0 : Nat) : Int) = _)
theorem at1 {α : Type} (x y : α) (xs : List α) : atI (x :: y :: xs) 1 = some y := (atI_nat (xs := x :: y :: xs) (j := 1) (by simp) : atI (x :: y :: xs) ((1 : Nat) : Int) = _)
theorem at2 {α : Type} (x y z : α) (xs : List α) : atI (x :: y :: z :: xs) 2 = some z := (atI_nat (xs := x :: y :: z :: xs) (j := 2) (by simp) : atI (x :: y :: z :: xs) ((2 : Nat) : Int) = _)
theorem okAll_iff : ∀ {ds : List PyData}, okAll ds ↔ ∀ d ∈ ds, okD d
  | [] => by simp [okAll]
  | d :: ds => by
    rw [okAll, okAll_iff (ds := ds)]
    simp
/-! ### entries by their keys -/
def keyD : PyData → Str
  | .tuple (.str k :: _) => k
  | _ => Str.empty
def stampOf : PyData → PyData
  | .tuple (_ :: s :: _) => s
  | _ => .none
def findE (es : List PyData) (k : Str) : Option PyData := es.find? fun e => decide (keyD e = k)
def putE (es : List PyData) (e : PyData) : List PyData := if (findE es (keyD e)).isSome = true then es.map (fun x => if keyD x = keyD e then e else x) else es ++ [e]
theorem findE_cons (e : PyData) (es : List PyData) (k : Str) : findE (e :: es) k = if keyD e = k then some e else findE es k := by
  unfold findE
  rw [List.find?_cons]
  by_cases h : keyD e = k
  · rw [if_pos h, decide_eq_true h]
  · rw [if_neg h, decide_eq_false h]
theorem findE_some {es : List PyData} {k : Str} {e : PyData} (h : findE es k = some e) : e ∈ es ∧ keyD e = k := by
  unfold findE at h
  exact ⟨List.mem_of_find?_eq_some h, by simpa using List.find?_some h⟩
theorem findE_none {es : List PyData} {k : Str} (h : findE es k = none) : ∀ e ∈ es, keyD e ≠ k := by
  unfold findE at h
  rw [List.find?_eq_none] at h
  intro e he
  simpa using h e he
theorem findE_mem {es : List PyData} (nd : (es.map keyD).Nodup) : ∀ {e : PyData}, e ∈ es → findE es (keyD e) = some e := by
  induction es with
  | nil => intro e h; cases h
  | cons x r ih =>
    intro e h
    rw [List.map_cons, List.nodup_cons] at nd
    rw [findE_cons]
    rcases List.mem_cons.mp h with rfl | h
    · rw [if_pos rfl]
    · rw [if_neg fun z => nd.1 (List.mem_map.mpr ⟨e, h, z.symm⟩)]
      exact ih nd.2 h
/-- of entries: right ones, no key twice -/
structure GoodE (es : List PyData) : Prop where
  all : ∀ e ∈ es, entryD e = true
  nd : (es.map keyD).Nodup
theorem entry_is {e : PyData} (h : entryD e = true) : ∃ (k : Str) (n : Int) (o : Str) (v : PyData), e = .tuple [.str k, .tuple [.int n, .str o], v] ∧ wordS k = true ∧ 1 ≤ n ∧ n ≤ 1000000000000000 ∧ wordS o = true ∧ (noneD v = true ∨ valueD v = true) := by
  unfold entryD at h
  split at h
  · rename_i k s v
    rw [Bool.and_eq_true, Bool.and_eq_true, Bool.or_eq_true] at h
    obtain ⟨h1, h2, h3⟩ := h
    unfold stampD at h2
    split at h2
    · rename_i a b
      rw [Bool.and_eq_true] at h2
      cases k with
      | str k =>
        cases a with
        | int n =>
          cases b with
          | str o =>
            have q : (decide (1 ≤ n) && decide (n ≤ 1000000000000000)) = true := h2.1
            rw [Bool.and_eq_true, decide_eq_true_eq, decide_eq_true_eq] at q
            exact ⟨k, n, o, v, rfl, h1, q.1, q.2, h2.2, h3⟩
          | _ => cases h2.2
        | _ => cases h2.1
      | _ => cases h1
    · cases h2
  · cases h
/-- data that may be compared, and have no lists: depth at most m -/
def Fl (m : Nat) (d : PyData) : Prop := flatD d = true ∧ d.plain = true ∧ d.depth ≤ m
theorem entry_fl {e : PyData} (h : entryD e = true) : Fl 2 e := by
  obtain ⟨k, n, o, v, rfl, _, _, _, _, hv⟩ := entry_is h
  have fv : flatD v = true ∧ v.plain = true ∧ v.depth = 0 := by
    rcases hv with hv | hv
    · cases v <;> first | exact ⟨rfl, rfl, rfl⟩ | cases hv
    · cases v <;> first | exact ⟨rfl, rfl, rfl⟩ | cases hv
  refine ⟨?_, ?_, ?_⟩
  · show (true && ((true && (true && true)) && (flatD v && true))) = true
    rw [fv.1]; rfl
  · show (true && ((true && (true && true)) && (v.plain && true))) = true
    rw [fv.2.1]; rfl
  · show max 0 (max (max 0 (max 0 0) + 1) (max v.depth 0)) + 1 ≤ 2
    rw [fv.2.2]; decide
theorem GoodE.flat {es : List PyData} (g : GoodE es) : lsAll (fun _ => false) es = true := lsAll_iff.mpr fun e he => (entry_fl (g.all e he)).1
/-! ### a dict of entries -/
def RowsK (K : PySem.W.Frag) (H : Hp) (kvs : List (Key × V)) (es : List PyData) : Prop := kvs.map (·.1) = es.map (fun e => (Sum.inr (keyD e) : Key)) ∧ DdAll K H (kvs.map (·.2)) es
section
variable {K : PySem.W.Frag} {H H' : Hp} {kvs : List (Key × V)} {es : List PyData}
theorem RowsK.len (h : RowsK K H kvs es) : kvs.length = es.length := by
  have := congrArg List.length h.1
  simpa using this
theorem RowsK.same (h : RowsK K H kvs es) (s : Same H H') : RowsK K H' kvs es := ⟨h.1, DdAll.same s _ _ h.2⟩
theorem RowsK.stay {L : Addr} (h : RowsK K H kvs es) (g : GoodE es) (hb : But L H H') (nL : ∀ xs, H L ≠ some (.tup xs)) : RowsK K H' kvs es := ⟨h.1, DdAll.stay hb nL _ _ g.flat h.2⟩
theorem RowsK.nil : RowsK K H [] [] := ⟨rfl, .nil⟩
theorem RowsK.uncons {e : PyData} {kv : Key × V} (h : RowsK K H (kv :: kvs) (e :: es)) : kv.1 = .inr (keyD e) ∧ Dd K H kv.2 e ∧ RowsK K H kvs es := by
  obtain ⟨a, b⟩ := h
  cases b with
  | cons b1 b2 =>
    rw [List.map_cons, List.map_cons] at a
    injection a with a1 a2
    exact ⟨a1, b1, a2, b2⟩
theorem RowsK.cons {e : PyData} {v : V} (hd : Dd K H v e) (h : RowsK K H kvs es) : RowsK K H ((.inr (keyD e), v) :: kvs) (e :: es) := ⟨by rw [List.map_cons, List.map_cons, h.1], .cons hd h.2⟩
theorem RowsK.app {ls : List (Key × V)} {fs : List PyData} (h : RowsK K H kvs es) (g : RowsK K H ls fs) : RowsK K H (kvs ++ ls) (es ++ fs) := ⟨by rw [List.map_append, List.map_append, h.1, g.1], by rw [List.map_append]; exact h.2.append g.2⟩
/-- what stands at a key -/
theorem RowsK.val : ∀ {kvs : List (Key × V)} {es : List PyData}, RowsK K H kvs es → ∀ k : Str, (∃ e v, findE es k = some e ∧ valV kvs (.inr k : Key) = some v ∧ Dd K H v e) ∨ (findE es k = none ∧ valV kvs (.inr k : Key) = none)
  | [], [], _, k => .inr ⟨rfl, rfl⟩
  | [], _ :: _, h, _ => by have := h.len; simp at this
  | _ :: _, [], h, _ => by have := h.len; simp at this
  | kv :: kvs, e :: es, h, k => by
    obtain ⟨h1, h2, h3⟩ := h.uncons
    rw [findE_cons]
    by_cases c : keyD e = k
    · exact .inl ⟨e, kv.2, if_pos c, valV_pos (by rw [h1, c]), h2⟩
    · rw [if_neg c, valV_neg (by rw [h1]; intro z; injection z with z; exact c z)]
      exact RowsK.val h3 k
theorem dd_get : ∀ {vs : List V} {ds : List PyData} {i : Nat} {v : V}, DdAll K H vs ds → vs[i]? = some v → ∃ d, ds[i]? = some d ∧ Dd K H v d
  | _, _, i, _, .nil, h => by simp at h
  | v :: vs, d :: ds, 0, u, .cons h _, z => by
    simp at z
    subst z
    exact ⟨d, rfl, h⟩
  | v :: vs, d :: ds, i + 1, u, .cons _ t, z => by
    obtain ⟨x, a, b⟩ := dd_get t (i := i) (by simpa using z)
    exact ⟨x, by simpa using a, b⟩
/-- the row at an index -/
theorem RowsK.at_ (h : RowsK K H kvs es) {i : Nat} {k : Key} {v : V} (e : kvs[i]? = some (k, v)) : ∃ d, es[i]? = some d ∧ k = .inr (keyD d) ∧ Dd K H v d := by
  have hv : (kvs.map (·.2))[i]? = some v := by rw [List.getElem?_map, e]; rfl
  obtain ⟨d, e1, e2⟩ := dd_get h.2 hv
  refine ⟨d, e1, ?_, e2⟩
  have hk : (kvs.map (·.1))[i]? = some k := by rw [List.getElem?_map, e]; rfl
  rw [h.1, List.getElem?_map, e1] at hk
  exact (Option.some.inj hk).symm
theorem RowsK.mapP (f : PyData → Prop) [DecidablePred f] {v : V} {e : PyData} (hd : Dd K H v e) : ∀ {kvs : List (Key × V)} {es : List PyData}, RowsK K H kvs es → (∀ x ∈ es, f x ↔ keyD x = keyD e) → RowsK K H (kvs.map fun kv => if kv.1 = .inr (keyD e) then (kv.1, v) else kv) (es.map fun x => if keyD x = keyD e then e else x)
  | [], [], _, _ => .nil
  | [], _ :: _, h, _ => by have := h.len; simp at this
  | _ :: _, [], h, _ => by have := h.len; simp at this
  | kv :: kvs, x :: es, h, hf => by
    obtain ⟨h1, h2, h3⟩ := h.uncons
    have ih := RowsK.mapP f hd h3 fun y hy => hf y (List.mem_cons_of_mem _ hy)
    rw [List.map_cons, List.map_cons]
    by_cases c : keyD x = keyD e
    · rw [if_pos c, if_pos (by rw [h1, c])]
      have := RowsK.cons hd ih
      rw [show kv.1 = (.inr (keyD e) : Key) by rw [h1, c]]
      exact this
    · rw [if_neg c, if_neg (by rw [h1]; intro z; injection z with z; exact c z)]
      have := RowsK.cons h2 ih
      rw [← h1] at this
      exact this
theorem RowsK.put (h : RowsK K H kvs es) {v : V} {e : PyData} (hd : Dd K H v e) : RowsK K H (putK kvs (.inr (keyD e)) v) (putE es e) := by
  unfold putK putE
  have q := h.val (keyD e)
  rw [valV_any]
  rcases q with ⟨x, u, q1, q2, _⟩ | ⟨q1, q2⟩
  · rw [q2, q1, Option.isSome_some, Option.isSome_some, if_pos rfl, if_pos rfl]
    exact RowsK.mapP (fun x => keyD x = keyD e) hd h fun _ _ => Iff.rfl
  · rw [q2, q1, Option.isSome_none, Option.isSome_none, if_neg (by decide), if_neg (by decide)]
    exact h.app (.cons hd .nil)
end
theorem putE_new {es : List PyData} {e : PyData} (h : findE es (keyD e) = none) : putE es e = es ++ [e] := by
  unfold putE
  rw [h]
  rfl
/-! ### a raise of an own error, told -/
def raisedF (C : Addr) (v : V) (H : Hp) (E : XK) : Prop := ∀ d H', H d = none → Same H H' → H' d = some (.xd (valF v)) → E (.ref C) (some d) H'
theorem mk_raisedF {C : Addr} {v : V} {H H1 : Hp} {E : XK} {K : PySem.W.Frag} (k : raisedF C v H E) (s : Same H H1) : MkG K C v H1 E := r_mk fun d H2 n2 s2 e2 => k d H2 (by
  cases z : H d with
  | none => rfl
  | some o => rw [s _ _ z] at n2; cases n2) (s.trans s2) e2
/-! ### a content at a -/
def ContAt (K : PySem.W.Frag) (C : Addr) (H : Hp) (a : Addr) (es : List PyData) : Prop := ∃ dx d kvs, H a = some (.ins C dx [("_table", .ref d)]) ∧ H d = some (.dK kvs) ∧ RowsK K H kvs es ∧ GoodE es ∧ es.length ≤ 60
theorem ContAt.same {K : PySem.W.Frag} {C : Addr} {H H' : Hp} {a : Addr} {es : List PyData} (h : ContAt K C H a es) (s : Same H H') : ContAt K C H' a es := by
  obtain ⟨dx, d, kvs, h1, h2, h3, h4⟩ := h
  exact ⟨dx, d, kvs, s _ _ h1, s _ _ h2, h3.same s, h4⟩
/-- what the class must have -/
structure ContC (K : PySem.W.Frag) (C : Addr) : Prop where
  cls : Cls K C
  no : NoAttr K C "_table"
theorem tab_at (d : Addr) : ([("_table", V.ref d)] : List (Str × V)).lookup ("_table" : Str) = some (.ref d) := by
  rw [List.lookup_cons, beq_self_eq_true]
theorem tab_no (d : Addr) {m : Str} (h : m ≠ "_table") : ([("_table", V.ref d)] : List (Str × V)).lookup m = none := by
  rw [List.lookup_cons]
  have : (m == ("_table" : Str)) = false := by rw [beq_eq_false_iff_ne]; exact h
  rw [this]
  rfl
/-! ### a dict comprehension over entries -/
def DcG (J : It) (g : TG) (tt : TT) (tk tv : TE) (vs : List Nat) (σ : L2.St) (H1 : Hp) (Q : VK) : Prop := ∀ D, H1 D = none → ∃ W : Nat → Nat → Hp → Prop, (∃ m, W 0 m (upd H1 D (.dK []))) ∧ ∀ i m H, W i m H →
  (J.stop i H ∧ Q (.ref D) H) ∨ (J.go i H ∧ ∃ Nx : Hp → Prop, (∀ H', Nx H' → ∃ m', m' < m ∧ W (i + 1) m' H') ∧ ∀ x H', J.yld i H x H' → g x (wipe σ vs) H' fun σ2 H2 => wipe σ2 vs = wipe σ vs ∧ tt σ2 H2 fun b H3 =>
    if b = true then tk σ2 H3 fun y H4 => tv σ2 H4 fun z H5 => ∃ kvs k, y = kV k ∧ H5 D = some (.dK kvs) ∧ kvs.length < sizeLine ∧ Nx (upd H5 D (.dK (putK kvs k z))) else Nx H3)
theorem r_dc {wi : TI} {g : TG} {tt : TT} {tk tv : TE} {vs : List Nat} {σ : L2.St} {H : Hp} {Q : VK} (h : wi σ H fun J H1 => DcG J g tt tk tv vs σ H1 Q) : tDc wi g tt tk tv vs σ H Q := h
def rowsOf : List PyData → List V → List (Key × V)
  | e :: es, x :: xs => (.inr (keyD e), x) :: rowsOf es xs
  | _, _ => []
theorem rowsOf_is {K : PySem.W.Frag} {H : Hp} : ∀ {es : List PyData} {xs : List V}, DdAll K H xs es → RowsK K H (rowsOf es xs) es
  | [], [], _ => .nil
  | [], _ :: _, h => by cases h
  | _ :: _, [], h => by cases h
  | e :: es, x :: xs, h => by
    cases h with
    | cons h1 h2 => exact .cons h1 (rowsOf_is h2)
theorem rowsOf_snoc : ∀ {es : List PyData} {xs : List V} {i : Nat} {e : PyData} {x : V}, es[i]? = some e → xs[i]? = some x → rowsOf (es.take (i + 1)) (xs.take (i + 1)) = rowsOf (es.take i) (xs.take i) ++ [(.inr (keyD e), x)]
  | [], _, i, _, _, h, _ => by simp at h
  | _ :: _, [], i, _, _, _, h => by simp at h
  | a :: es, y :: xs, 0, e, x, h1, h2 => by
    simp at h1 h2
    subst h1
    subst h2
    rfl
  | a :: es, y :: xs, i + 1, e, x, h1, h2 => by
    have := rowsOf_snoc (es := es) (xs := xs) (i := i) (e := e) (x := x) (by simpa using h1) (by simpa using h2)
    rw [List.take_succ_cons, List.take_succ_cons, List.take_succ_cons, List.take_succ_cons]
    show _ :: rowsOf _ _ = (_ :: rowsOf _ _) ++ _
    rw [this]
    rfl
theorem rowsOf_fresh {k : Str} : ∀ {es : List PyData} {xs : List V}, (∀ e ∈ es, keyD e ≠ k) → valV (rowsOf es xs) (.inr k : Key) = none
  | [], _, _ => rfl
  | _ :: _, [], _ => rfl
  | e :: es, x :: xs, h => by
    show valV ((.inr (keyD e), x) :: rowsOf es xs) _ = none
    rw [valV_neg (by intro z; injection z with z; exact h e List.mem_cons_self z)]
    exact rowsOf_fresh fun y hy => h y (List.mem_cons_of_mem _ hy)
theorem rowsOf_len : ∀ (es : List PyData) (xs : List V), (rowsOf es xs).length ≤ xs.length
  | [], _ => Nat.zero_le _
  | _ :: _, [] => Nat.le_refl _
  | _ :: es, _ :: xs => by
    have := rowsOf_len es xs
    show (rowsOf es xs).length + 1 ≤ _
    rw [List.length_cons]
    omega
theorem nodup_at {es : List PyData} (nd : (es.map keyD).Nodup) {i : Nat} {e : PyData} (h : es[i]? = some e) : ∀ x ∈ es.take i, keyD x ≠ keyD e := by
  intro x hx z
  obtain ⟨j, hj⟩ := List.mem_iff_getElem?.mp hx
  have hji : j < i := by
    have := (List.getElem?_eq_some_iff.mp hj).1
    rw [List.length_take] at this
    omega
  rw [List.getElem?_take_of_lt hji] at hj
  have a : (es.map keyD)[j]? = some (keyD e) := by rw [List.getElem?_map, hj, ← z]; rfl
  have b : (es.map keyD)[i]? = some (keyD e) := by rw [List.getElem?_map, h]; rfl
  have li := (List.getElem?_eq_some_iff.mp b).1
  have := (List.getElem?_inj (by omega) nd).mp (a.trans b.symm)
  omega
theorem dc_pure {K : PySem.W.Frag} {J : It} {G : Hp → Prop} {xs : List V} {es : List PyData} {s : Nat} {tk tv : TE} {σ : L2.St} {H1 : Hp} {Q : VK} (wk : Walk J xs.length G (YAt xs)) (hG : ∀ H', Same H1 H' → G H') (hn : xs.length ≤ 4000) (al : DdAll K H1 xs es) (nd : (es.map keyD).Nodup)
    (hk : ∀ (i : Nat) (x : V) (e : PyData), xs[i]? = some x → es[i]? = some e → ∀ (H2 : Hp) (R : VK), Same H1 H2 → (∀ H3, Same H2 H3 → R (.str (keyD e)) H3) → tk (σ.set s (some x)) H2 R)
    (hv : ∀ (i : Nat) (x : V), xs[i]? = some x → ∀ (H2 : Hp) (R : VK), Same H1 H2 → (∀ H3, Same H2 H3 → R x H3) → tv (σ.set s (some x)) H2 R)
    (hd : ∀ (D : Addr) (H' : Hp) (kvs : List (Key × V)), H1 D = none → Same H1 H' → H' D = some (.dK kvs) → RowsK K H' kvs es → Q (.ref D) H') : DcG J (gName s) tYes tk tv [s] σ H1 Q := by
  intro D nD
  have ll := al.length
  refine ⟨fun i m H' => m = xs.length - i ∧ i ≤ xs.length ∧ Same H1 H' ∧ H' D = some (.dK (rowsOf (es.take i) (xs.take i))), ⟨_, rfl, Nat.zero_le _, Same.new nD, upd_same⟩, ?_⟩
  rintro i m H2 ⟨rfl, hi, p1, p2⟩
  rcases Nat.lt_or_ge i xs.length with hlt | hge
  · refine .inr ⟨wk.goes i H2 hlt (hG H2 p1), fun H' => i + 1 ≤ xs.length ∧ Same H1 H' ∧ H' D = some (.dK (rowsOf (es.take (i + 1)) (xs.take (i + 1)))), fun H' p => ⟨xs.length - (i + 1), by omega, rfl, p.1, p.2⟩, fun x H3 y => ?_⟩
    obtain ⟨rfl, hx⟩ := wk.yields i H2 x H3 hlt (hG H2 p1) y
    have he : es[i]? = some (es[i]'(by omega)) := List.getElem?_eq_getElem (by omega)
    refine ⟨wipe_set σ s _, ?_⟩
    rw [wipe_slot]
    simp only [tYes, reduceIte]
    refine hk i x _ hx he _ _ p1 fun H4 s4 => hv i x hx _ _ (p1.trans s4) fun H5 s5 => ?_
    refine ⟨_, .inr (keyD es[i]), rfl, s5 _ _ (s4 _ _ p2), ?_, hlt, Same.mut ((p1.trans s4).trans s5) nD, ?_⟩
    · have := rowsOf_len (es.take i) (xs.take i)
      rw [List.length_take] at this
      exact sz_lt (by omega)
    · rw [upd_same, putK_new _ (rowsOf_fresh (nodup_at nd he)), rowsOf_snoc he hx]
  · have : i = xs.length := by omega
    subst this
    rw [List.take_length, List.take_of_length_le (by omega)] at p2
    exact .inl ⟨wk.stops H2 (hG H2 p1), hd D H2 _ nD p1 p2 (rowsOf_is (DdAll.same p1 _ _ al))⟩
/-! ### entries in the order of their keys -/
def SortE (es fs : List PyData) : Prop := fs.Perm es ∧ (fs.map keyD).Pairwise ltS
theorem SortE.uniq {es x y : List PyData} (a : SortE es x) (b : SortE es y) : x = y := by
  refine List.Perm.eq_of_pairwise (le := fun p q => ltS (keyD p) (keyD q)) (fun p q _ _ h g => absurd (ltS_tr h g) (ltS_irr _)) (List.pairwise_map.mp a.2) (List.pairwise_map.mp b.2) (a.1.trans b.1.symm)
theorem SortE.good {es x : List PyData} (a : SortE es x) (g : GoodE es) : GoodE x := ⟨fun e he => g.all e (a.1.mem_iff.mp he), (a.1.map keyD).nodup_iff.mpr g.nd⟩
/-- the entries of a row of keys -/
def pickE (es : List PyData) (ys : List Str) : List PyData := ys.map fun k => (findE es k).getD .none
theorem pick_self {es : List PyData} (nd : (es.map keyD).Nodup) : pickE es (es.map keyD) = es := by
  unfold pickE
  rw [List.map_map]
  refine (List.map_congr_left (g := id) fun e he => ?_).trans (List.map_id _)
  show (findE es (keyD e)).getD .none = e
  rw [findE_mem nd he]
  rfl
theorem pick_keys {es : List PyData} : ∀ {ys : List Str}, (∀ k ∈ ys, k ∈ es.map keyD) → (pickE es ys).map keyD = ys
  | [], _ => rfl
  | k :: ys, h => by
    have ih := pick_keys (ys := ys) fun x hx => h x (List.mem_cons_of_mem _ hx)
    show keyD ((findE es k).getD .none) :: (pickE es ys).map keyD = _
    rw [ih]
    obtain ⟨e, he, ek⟩ := List.mem_map.mp (h k List.mem_cons_self)
    cases hf : findE es k with
    | none => exact absurd ek (findE_none hf e he)
    | some x =>
      show keyD x :: ys = _
      rw [(findE_some hf).2]
theorem pick_sort {es : List PyData} (g : GoodE es) {ys : List Str} (pm : ys.Perm (es.map keyD)) (st : ys.Pairwise ltS) : SortE es (pickE es ys) := by
  refine ⟨?_, ?_⟩
  · have := pm.map fun k => (findE es k).getD .none
    exact this.trans (List.Perm.of_eq (pick_self g.nd))
  · rw [pick_keys fun k hk => pm.mem_iff.mp hk]
    exact st
/-- the values of a row of keys -/
theorem pick_vals {K : PySem.W.Frag} {H : Hp} {kvs : List (Key × V)} {es : List PyData} (r : RowsK K H kvs es) : ∀ {ys : List Str}, (∀ k ∈ ys, k ∈ es.map keyD) → ∃ rs : List V, rs.length = ys.length ∧ DdAll K H rs (pickE es ys) ∧ ∀ (i : Nat) (k : Str), ys[i]? = some k → ∃ v, rs[i]? = some v ∧ valV kvs (.inr k : Key) = some v
  | [], _ => ⟨[], rfl, .nil, fun i k h => by simp at h⟩
  | k :: ys, h => by
    obtain ⟨rs, h1, h2, h3⟩ := pick_vals r (ys := ys) fun x hx => h x (List.mem_cons_of_mem _ hx)
    obtain ⟨e, he, ek⟩ := List.mem_map.mp (h k List.mem_cons_self)
    rcases r.val k with ⟨x, v, q1, q2, q3⟩ | ⟨q1, _⟩
    · refine ⟨v :: rs, by rw [List.length_cons, List.length_cons, h1], .cons (by show Dd K H v ((findE es k).getD .none); rw [q1]; exact q3) h2, fun i k' hi => ?_⟩
      cases i with
      | zero =>
        simp at hi
        subst hi
        exact ⟨v, rfl, q2⟩
      | succ i => exact (h3 i k' (by simpa using hi)).imp fun u hu => ⟨by simpa using hu.1, hu.2⟩
    · exact absurd ek (findE_none q1 e he)
/-- k in a content -/
def inD (es : List PyData) : PyData → Bool
  | .str k => (findE es k).isSome
  | _ => false
end Tk

set_option Elab.async false
set_option linter.all false
set_option maxRecDepth 100000
set_option maxHeartbeats 4000000
-- TOKS t1 t2 t3
namespace K05
open PySem PySem.Spec PyProof.Rows L2 Tk
local macro_rules | `(tactic| walk_at "rd1") => `(tactic| first
  | with_reducible refine r_seq ?_
  | ((with_reducible refine r_var (v := ?vv) ?hrv ?_); (case hrv => rfl))
  | with_reducible refine r_c ?_
  | with_reducible refine r_op ?_
  | ((with_reducible refine r_ixL (xs := ?xx) (v := ?vv) ?hh ?he ?_); (case hh => first | assumption | exact upd_same); (case he => rfl))
  | with_reducible refine r_asg ?_
  | with_reducible refine r_sub ?_
  | ((with_reducible refine r_gTup (xs := ?xx) ?hh ?he ?_); (case hh => assumption); (case he => rfl))
  | with_reducible refine r_gCons ?_
  | with_reducible refine r_gNil ?_
  | ((with_reducible refine r_setL (xs := ?xx) (j := ?vv) ?hh ?he ?_); (case hh => first | assumption | exact upd_same); (case he => rfl))
  | with_reducible refine r_pow15 ?_
  | with_reducible refine r_pow18 ?_
  | with_reducible refine r_repr ?_
  | with_reducible refine iteT ?_
  | with_reducible refine iteF ?_
  | with_reducible refine r_cons ?_
  | with_reducible refine r_nil ?_
  | with_reducible refine r_call ?_
  | with_reducible refine r_cb ?_
  | with_reducible refine r_ret ?_
  | with_reducible refine r_gName ?_
  | with_reducible refine r_next ?_
  | with_reducible refine r_ifS ?_
  | with_reducible refine r_un ?_
  | with_reducible refine r_U ?_
  | with_reducible refine r_max2 ?_
  | with_reducible refine r_min2 ?_
  | with_reducible refine r_sl ?_
  | with_reducible refine r_noPart ?_
  | with_reducible refine r_part ?_
  | with_reducible refine r_inti ?_
  | with_reducible refine r_lc ?_
  | with_reducible refine r_for ?_
  | with_reducible refine r_rng1 ?_
  | with_reducible refine r_iList ?_
  | with_reducible refine r_iTup ?_
  | with_reducible refine r_iStr ?_
  | with_reducible refine r_strx ?_
  | ((with_reducible refine r_j ?hh ?hi ?_); (case hh => omega); (case hi => omega))
  | with_reducible refine r_m1 ?_
  | with_reducible refine r_test ?_
  | with_reducible refine r_B ?_
  | with_reducible refine r_not ?_
  | with_reducible refine r_and ?_
  | with_reducible refine r_or ?_
  | with_reducible refine r_andV ?_
  | with_reducible refine r_orV ?_
  | with_reducible refine r_notV ?_
  | with_reducible refine r_if ?_
  | with_reducible refine r_chain ?_
  | with_reducible refine r_lst ?_
  | with_reducible refine r_tup ?_
  | with_reducible refine r_k ?_
  | ((with_reducible refine r_isiS (d := ?dd) ?hh ?_); (case hh => assumption))
  | ((with_reducible refine r_isiT (d := ?dd) ?hh ?_); (case hh => assumption))
  | ((with_reducible refine r_isiI (d := ?dd) ?hh ?_); (case hh => assumption))
  | ((with_reducible refine r_isiB (d := ?dd) ?hh ?_); (case hh => assumption))
  | ((with_reducible refine r_lenS ?hh ?_); (case hh => assumption))
  | ((with_reducible refine r_lenT (xs := ?dd) ?hh ?_); (case hh => assumption))
  | ((with_reducible refine r_ixT (xs := ?xx) (v := ?vv) ?hh ?he ?_); (case hh => assumption); (case he => rfl))
  | with_reducible refine r_isN ?_
  | with_reducible refine r_I0 ?_
  | with_reducible refine g_addI ?_
  | ((with_reducible refine r_mod ?hh ?_); (case hh => first | decide | omega))
  | ((with_reducible refine r_div ?hh ?hi ?_); (case hh => first | decide | omega); (case hi => first | decide | omega))
  | ((with_reducible refine g_mulB ?hh ?hi ?_); (case hh => omega); (case hi => omega))
  | with_reducible refine g_ltI ?_
  | with_reducible refine g_leI ?_
  | with_reducible refine g_gtI ?_
  | with_reducible refine g_geI ?_
  | with_reducible refine g_eqI ?_
  | with_reducible refine g_neI ?_
  | with_reducible refine g_eqS ?_
  | with_reducible refine g_neS ?_
  | with_reducible refine g_leS ?_
  | with_reducible refine g_ltS ?_)
local macro_rules | `(tactic| walk_at "rd") => `(tactic| repeat (walk_at "rd1"))
local macro_rules | `(tactic| walk_at "ed") => `(tactic| repeat first
  | exact ed_int
  | exact ed_str
  | exact ed_bl
  | exact ed_non
  | exact ed_nil
  | exact ed_dct
  | exact ed_neg
  | with_reducible apply ed_cons
  | with_reducible apply ed_tup
  | with_reducible apply ed_lst
  | exact Nat.le_of_ble_eq_true rfl)
local macro_rules | `(tactic| walk_at "tx1") => `(tactic| first
  | walk_at "rd1"
  | with_reducible refine r_callS ?_
  | with_reducible refine r_zipA ?_
  | with_reducible refine r_par ?_
  | with_reducible refine r_pair ?_
  | with_reducible refine r_pow6 ?_
  | with_reducible refine r_m0 ?_
  | with_reducible refine r_bm ?_
  | with_reducible refine r_isS ?_
  | with_reducible refine r_told ?_
  | with_reducible refine r_js ?_
  | with_reducible refine r_jsNil ?_
  | with_reducible refine r_repl ?_
  | ((with_reducible refine r_gLst (xs := ?xx) ?hh ?he ?_); (case hh => assumption); (case he => rfl))
  | ((with_reducible refine r_lenL (xs := ?xx) ?hh ?_); (case hh => assumption)))
local macro_rules | `(tactic| walk_at "tx") => `(tactic| repeat (walk_at "tx1"))
def top (i : Nat) : Stmt := PySem.Challenge.pw_tombkeeper_k05_contents_told.main.body.getD i (.Pass ⟨0, 0, 0, 0⟩)
structure Txt (mg : Str → Option Value) (t1 t2 t3 : Tok) : Prop where
  z_len : mg "len" = none
  z_all : mg "all" = none
  z_isinstance : mg "isinstance" = none
  z_str : mg "str" = none
  z_tuple : mg "tuple" = none
  z_int : mg "int" = none
  z_bool : mg "bool" = none
  z_list : mg "list" = none
  z_set : mg "set" = none
  z_dict : mg "dict" = none
  z_sorted : mg "sorted" = none
  z_repr : mg "repr" = none
  z_range : mg "range" = none
  z_max : mg "max" = none
  z_min : mg "min" = none
  g_LONGEST_WORD : mg "LONGEST_WORD" = some (.int 8 t1)
  g_LONGEST_VALUE : mg "LONGEST_VALUE" = some (.int 40 t2)
  g_GREATEST_NUMBER : mg "GREATEST_NUMBER" = some (.int 1000000000000000 t3)
section
variable {t1 t2 t3 : Tok} {P : Program} {w : World} {K : PySem.W.Frag} {mg : Str → Option Value} {base : Heap}
abbrev s_L_take : Stmt := top 22
abbrev n_L_take : List Str := ["_law_pool_here", "_law_many", "_law_found"]
abbrev p_L_take : List Str := ["_law_pool_here", "_law_many"]
theorem sc_L_take : FnScope n_L_take p_L_take (defScope s_L_take) := ⟨rfl, rfl, rfl, by decide +kernel, rfl, by decide +kernel, by decide +kernel⟩
theorem ok_L_take (T : Txt mg t1 t2 t3) {f : Addr} {fd : FuncData} (F : Fun K "_law_take" "_law_take" s_L_take f fd) : FnOk P w K mg base CX0 1 f fd p_L_take spTake := by
  refine F.ok sc_L_take (fun vs H Q E h => spTake_len h) (fun cdv A outer s H vs Q E hr h => ?_)
  obtain ⟨p, m, rfl, ⟨a, b, hp, ha, hb, hb2⟩, hm, hm2, k⟩ := h
  have hu := hr.units
  have dr : ∀ {o : HO}, PoolAt (upd H p o) p → Drawn p H (upd H p o) := fun h => ⟨fun c u e n => by rw [upd_ne n]; exact e, h⟩
  refine ⟨_, (pss_cons (ps_if (pt_cmpR o_gt (pe_ix k_ix (pv 0) pe_int (fun _ _ => rfl)) pe_int (nomark _)) (pss_cons (ps_set (i := 2) sc_L_take.nd rfl (by first | exact Or.inl rfl | exact Or.inr rfl) (pe_op op_mod (pe_ix k_ix (pv 0) pe_int (fun _ _ => rfl)) (pv 1)))
      (pss_cons (ps_asg (pe_op o_fdiv (pe_ix k_ix (pv 0) pe_int (fun _ _ => rfl)) (pv 1)) (pg_sub (pv 0) pe_int set_list))
      (pss_one (ps_ret (pv 2))))) pss_nil)
      (pss_cons (ps_asg (pe_op op_mod (pe_op k_add (pe_op o_mul (pe_ix k_ix (pv 0) pe_int (fun _ _ => rfl)) pe_int) pe_int) pe_int) (pg_sub (pv 0) pe_int set_list))
      (pss_one (ps_ret (pe_op op_mod (pe_op o_fdiv (pe_op op_mod (pe_op o_mul (pe_ix k_ix (pv 0) pe_int (fun _ _ => rfl)) (pe_ix k_ix (pv 0) pe_int (fun _ _ => rfl))) pe_int) pe_int) (pv 1)))))), ?_⟩
  walk_at "rd"
  refine r_dec (fun c => ?_) (fun c => ?_)
  · walk_at "rd"
    exact k _ _ (Int.emod_nonneg _ (by omega)) (Int.emod_lt_of_pos _ hm) (dr (pool_mk1 (Int.ediv_nonneg ha (Int.le_of_lt hm)) hb hb2))
  · walk_at "rd"
    exact k _ _ (Int.emod_nonneg _ (by omega)) (Int.emod_lt_of_pos _ hm) (dr (pool_mk ha (Int.emod_nonneg _ (by decide)) (Int.emod_lt_of_pos _ (by decide))))
abbrev s_L_pool : Stmt := top 21
abbrev n_L_pool : List Str := ["_law_script", "_law_k", "_law_cell", "_law_seed"]
abbrev p_L_pool : List Str := ["_law_script", "_law_k"]
theorem sc_L_pool : FnScope n_L_pool p_L_pool (defScope s_L_pool) := ⟨rfl, rfl, rfl, by decide +kernel, rfl, by decide +kernel, by decide +kernel⟩
theorem ok_L_pool (T : Txt mg t1 t2 t3) {f : Addr} {fd : FuncData} (F : Fun K "_law_pool" "_law_pool" s_L_pool f fd) : FnOk P w K mg base CX0 1 f fd p_L_pool (spPool K) := by
  refine F.ok sc_L_pool (fun vs H Q E h => spPool_len h) (fun cdv A outer s H vs Q E hr h => ?_)
  obtain ⟨sc, ns, i, rfl, hS, hl, h0, h1, k⟩ := h
  have hu := hr.units
  refine ⟨_, (pss_cons (ps_set (i := 2) sc_L_pool.nd rfl (by first | exact Or.inl rfl | exact Or.inr rfl) pe_int)
      (pss_cons (ps_if (pt_cmpR o_lt (pv 1) (pe_callB k_len (by rfl) T.z_len (by decide +kernel) (pa_cons (pv 0) pa_nil)) (nomark _)) (pss_one (ps_set (i := 2) sc_L_pool.nd rfl (by first | exact Or.inl rfl | exact Or.inr rfl) (pe_ix k_ix (pv 0) (pv 1) (fun _ _ => rfl)))) pss_nil)
      (pss_cons (ps_set (i := 3) sc_L_pool.nd rfl (by first | exact Or.inl rfl | exact Or.inr rfl) (pe_op op_mod (pe_op o_mul (pe_op k_add (pe_op k_add (pe_op op_mod (pv 2) pe_int) (pe_op o_mul (pe_op o_mul pe_int (pv 1)) (pv 1))) pe_int) pe_int) pe_int))
      (pss_cons (ps_if (pt_cmpR o_lt (pv 2) (pe_op op_pow pe_int pe_int) (nomark _)) (pss_one (ps_set (i := 2) sc_L_pool.nd rfl (by first | exact Or.inl rfl | exact Or.inr rfl) pe_int)) pss_nil)
      (pss_one (ps_ret (pe_lst (pa_cons (pv 2) (pa_cons (pe_op k_add (pe_op op_mod (pe_op o_mul (pv 3) (pv 3)) pe_int) pe_int) pa_nil))))))))), ?_⟩
  have fin : ∀ c : Int, (tSeq (tAsg (tOp (rI (fun x j => 0 < j) fun i j => V.int (i % j)) (tOp GMul (tOp (GAdd K) (tOp (GAdd K) (tOp (rI (fun x j => 0 < j) fun i j => V.int (i % j)) (tVar 2) (tC (V.int 2147483629))) (tOp GMul (tOp GMul (tC (V.int 7919)) (tVar 1)) (tVar 1))) (tC (V.int 13))) (tC (V.int 48271))) (tC (V.int 2147483647))) (gName 3)) (tSeq (tIfS (tTest (tOp GLt (tVar 2) (tOp (rI CPow fun i j => V.int (i ^ j.toNat)) (tC (V.int 10)) (tC (V.int 18))))) (tAsg (tC (V.int 0)) (gName 2)) tNext) (tRet (tLst (tCons (tVar 2) (tCons (tOp (GAdd K) (tOp (rI (fun x j => 0 < j) fun i j => V.int (i % j)) (tOp GMul (tVar 3) (tVar 3)) (tC (V.int 2147483587))) (tC (V.int 1))) tNil)))))) { nx := fun x H' => Q V.non H', rt := Q } [some (.ref sc), some (.int i), some (.int c), none] H := by
    intro c
    have e1 := Int.emod_nonneg c (show (2147483629 : Int) ≠ 0 by decide)
    have e2 := Int.emod_lt_of_pos c (show (0 : Int) < 2147483629 by decide)
    have e3 : 0 ≤ 7919 * i * i := Int.mul_nonneg (Int.mul_nonneg (by decide) h0) h0
    have e4 : 7919 * i * i ≤ 7919 * i * 64 := Int.mul_le_mul_of_nonneg_left (by omega) (Int.mul_nonneg (by decide) h0)
    walk_at "rd"
    generalize hx : (c % 2147483629 + 7919 * i * i + 13) * 48271 % 2147483647 = x
    have x1 : 0 ≤ x := by rw [← hx]; exact Int.emod_nonneg _ (by decide)
    have x2 : x < 2147483647 := by rw [← hx]; exact Int.emod_lt_of_pos _ (by decide)
    have y1 := Int.emod_nonneg (x * x) (show (2147483587 : Int) ≠ 0 by decide)
    have y2 := Int.emod_lt_of_pos (x * x) (show (0 : Int) < 2147483587 by decide)
    refine r_dec (fun c1 => ?_) (fun c1 => ?_)
    · walk_at "rd"
      exact ⟨by show 2 ≤ sizeLine; decide, fun p hp => k p _ hp (Same.new hp) (pool_mk (by decide) (by omega) (by omega))⟩
    · walk_at "rd"
      exact ⟨by show 2 ≤ sizeLine; decide, fun p hp => k p _ hp (Same.new hp) (pool_mk (by omega) (by omega) (by omega))⟩
  walk_at "rd"
  refine r_lenQ hS ?_
  walk_at "rd"
  refine r_dec (fun c1 => ?_) (fun c1 => ?_)
  · rw [List.length_map] at c1
    walk_at "rd"
    obtain ⟨j, rfl⟩ := Int.eq_ofNat_of_zero_le h0
    have hj : j < ns.length := by omega
    refine r_ixQ (v := .int ns[j]) hS (atI_nat (by simp [hj])) ?_
    exact fin _
  · exact fin _
abbrev s_is_word : Stmt := top 10
abbrev n_is_word : List Str := ["thing", "sign"]
abbrev p_is_word : List Str := ["thing"]
theorem sc_is_word : FnScope n_is_word p_is_word (defScope s_is_word) := ⟨rfl, rfl, rfl, by decide +kernel, rfl, by decide +kernel, by decide +kernel⟩
theorem ok_is_word (T : Txt mg t1 t2 t3) {f : Addr} {fd : FuncData} (F : Fun K "is_word" "is_word" s_is_word f fd) : FnOk P w K mg base CX0 1 f fd p_is_word (spD K wordD) := by
  refine F.ok sc_is_word (fun vs H Q E h => spD_len h) (fun cdv A outer s H vs Q E hr h => ?_)
  obtain ⟨v, d, rfl, hd, ho, k⟩ := h
  refine ⟨_, (pss_cons (ps_if (PW.pt (pw_or (pt_not (pt_val (pe_callB k_isi (by rfl) T.z_isinstance (by decide +kernel) (pa_cons (pv 0) (pa_cons (pe_bltn (v := .ty "str") rfl T.z_str (by decide +kernel) rfl) pa_nil))))) (pw_or1 (pt_not (pt_chain o_le o_le pe_int (pe_callB k_len (by rfl) T.z_len (by decide +kernel) (pa_cons (pv 0) pa_nil)) (pe_glob (v := V.int (8)) rfl T.g_LONGEST_WORD ⟨_, rfl⟩)))))) (pss_one (ps_ret pe_bl)) pss_nil)
      (pss_one (ps_ret (pe_callB (k_all rfl) (by rfl) T.z_all (by decide +kernel) (pa_cons (pe_lc (own := [("sign", 1)]) rfl sc_is_word.nd (pi_str (pv 0)) (blkOk_by (own := [("sign", 1)]) (N := n_is_word) (sc := defScope s_is_word) (by decide +kernel)) (fun _ _ _ _ _ => (pg_name (i := 1) sc_is_word.nd rfl (by first | exact Or.inl rfl | exact Or.inr rfl))) (fun _ _ _ _ _ => pts_nil) (fun _ _ _ _ _ => (pe_chain o_le o_le pe_str (pv 1) pe_str))) pa_nil))))), ?_⟩
  walk_at "rd"
  rcases str_or d with ⟨x, rfl⟩ | hn
  · cases hd
    rw [isStr]
    refine iteF ?_
    have hx : x.length ≤ 100000 := ho
    walk_at "rd"
    refine r_dec (fun c1 => ?_) (fun c1 => ?_)
    · walk_at "rd"
      refine r_decN (fun c2 => ?_) (fun c2 => ?_)
      · walk_at "rd"
        have q := k H (Same.refl H)
        have e : wordD (.str x) = false := by simp [wordD, wordS, c2]
        rw [e] at q
        exact q
      · walk_at "rd"
        refine r_lcStr hx (fun _ => true) (fun v => .bl (lowB (codeV v))) (fun c _ H2 R s2 q => q H2 (Same.refl H2)) (fun c _ _ H2 R s2 q => ?_) (fun Dl H2 hD s2 e => ?_)
        · exact r_between rfl cps_a cps_z (q H2 (Same.refl H2))
        · refine r_all (bs := x.cps.toList.map lowB) (by rw [e, filt_true, List.map_map]; rfl) ?_
          have q := k H2 s2
          have e1 : wordD (.str x) = x.cps.toList.all lowB := by simp [wordD, wordS, c1, c2]
          rw [e1] at q
          rw [all_signs]
          exact q
    · walk_at "rd"
      have q := k H (Same.refl H)
      have e : wordD (.str x) = false := by simp [wordD, wordS, c1]
      rw [e] at q
      exact q
  · rw [isNotStr hn]
    refine iteT ?_
    walk_at "rd"
    have q := k H (Same.refl H)
    rw [wordD_no hn] at q
    exact q
abbrev s_is_value : Stmt := top 11
abbrev n_is_value : List Str := ["thing", "sign"]
abbrev p_is_value : List Str := ["thing"]
theorem sc_is_value : FnScope n_is_value p_is_value (defScope s_is_value) := ⟨rfl, rfl, rfl, by decide +kernel, rfl, by decide +kernel, by decide +kernel⟩
theorem ok_is_value (T : Txt mg t1 t2 t3) {f : Addr} {fd : FuncData} (F : Fun K "is_value" "is_value" s_is_value f fd) : FnOk P w K mg base CX0 1 f fd p_is_value (spD K valueD) := by
  refine F.ok sc_is_value (fun vs H Q E h => spD_len h) (fun cdv A outer s H vs Q E hr h => ?_)
  obtain ⟨v, d, rfl, hd, ho, k⟩ := h
  refine ⟨_, (pss_cons (ps_if (PW.pt (pw_or (pt_not (pt_val (pe_callB k_isi (by rfl) T.z_isinstance (by decide +kernel) (pa_cons (pv 0) (pa_cons (pe_bltn (v := .ty "str") rfl T.z_str (by decide +kernel) rfl) pa_nil))))) (pw_or1 (pt_cmpR o_gt (pe_callB k_len (by rfl) T.z_len (by decide +kernel) (pa_cons (pv 0) pa_nil)) (pe_glob (v := V.int (40)) rfl T.g_LONGEST_VALUE ⟨_, rfl⟩) (nomark _))))) (pss_one (ps_ret pe_bl)) pss_nil)
      (pss_one (ps_ret (pe_callB (k_all rfl) (by rfl) T.z_all (by decide +kernel) (pa_cons (pe_lc (own := [("sign", 1)]) rfl sc_is_value.nd (pi_str (pv 0)) (blkOk_by (own := [("sign", 1)]) (N := n_is_value) (sc := defScope s_is_value) (by decide +kernel)) (fun _ _ _ _ _ => (pg_name (i := 1) sc_is_value.nd rfl (by first | exact Or.inl rfl | exact Or.inr rfl))) (fun _ _ _ _ _ => pts_nil) (fun _ _ _ _ _ => (pe_chain o_le o_le pe_str (pv 1) pe_str))) pa_nil))))), ?_⟩
  walk_at "rd"
  rcases str_or d with ⟨x, rfl⟩ | hn
  · cases hd
    rw [isStr]
    refine iteF ?_
    have hx : x.length ≤ 100000 := ho
    walk_at "rd"
    refine r_dec (fun c1 => ?_) (fun c1 => ?_)
    · walk_at "rd"
      have q := k H (Same.refl H)
      have e : valueD (.str x) = false := by simp [valueD, valueS, c1]
      rw [e] at q
      exact q
    · walk_at "rd"
      refine r_lcStr hx (fun _ => true) (fun v => .bl (shownB (codeV v))) (fun c _ H2 R s2 q => q H2 (Same.refl H2)) (fun c _ _ H2 R s2 q => ?_) (fun Dl H2 hD s2 e => ?_)
      · exact r_between rfl cps_sp cps_til (q H2 (Same.refl H2))
      · refine r_all (bs := x.cps.toList.map shownB) (by rw [e, filt_true, List.map_map]; rfl) ?_
        have q := k H2 s2
        have e1 : valueD (.str x) = x.cps.toList.all shownB := by simp [valueD, valueS, c1]
        rw [e1] at q
        rw [all_signs]
        exact q
  · rw [isNotStr hn]
    refine iteT ?_
    walk_at "rd"
    have q := k H (Same.refl H)
    rw [valueD_no hn] at q
    exact q
abbrev s_is_number : Stmt := top 12
abbrev n_is_number : List Str := ["thing"]
abbrev p_is_number : List Str := ["thing"]
theorem sc_is_number : FnScope n_is_number p_is_number (defScope s_is_number) := ⟨rfl, rfl, rfl, by decide +kernel, rfl, by decide +kernel, by decide +kernel⟩
theorem ok_is_number (T : Txt mg t1 t2 t3) {f : Addr} {fd : FuncData} (F : Fun K "is_number" "is_number" s_is_number f fd) : FnOk P w K mg base CX0 1 f fd p_is_number (spD K numD) := by
  refine F.ok sc_is_number (fun vs H Q E h => spD_len h) (fun cdv A outer s H vs Q E hr h => ?_)
  obtain ⟨v, d, rfl, hd, ho, k⟩ := h
  refine ⟨_, (pss_cons (ps_if (PW.pt (pw_or (pt_not (pt_val (pe_callB k_isi (by rfl) T.z_isinstance (by decide +kernel) (pa_cons (pv 0) (pa_cons (pe_bltn (v := .ty "int") rfl T.z_int (by decide +kernel) rfl) pa_nil))))) (pw_or1 (pt_val (pe_callB k_isi (by rfl) T.z_isinstance (by decide +kernel) (pa_cons (pv 0) (pa_cons (pe_bltn (v := .ty "bool") rfl T.z_bool (by decide +kernel) rfl) pa_nil))))))) (pss_one (ps_ret pe_bl)) pss_nil)
      (pss_one (ps_ret (pe_chain o_le o_le pe_int (pv 0) (pe_glob (v := V.int (1000000000000000)) rfl T.g_GREATEST_NUMBER ⟨_, rfl⟩))))), ?_⟩
  have q := k H (Same.refl H)
  walk_at "rd"
  have hd2 := hd
  rcases isInt_or d with ⟨h1, h2, i, rfl⟩ | ⟨h1, h2, b, rfl⟩ | ⟨h1, h2⟩
  · rw [h1]
    cases hd
    refine iteF ?_
    walk_at "rd"
    rw [h2]
    refine iteF ?_
    walk_at "rd"
    refine r_dec (fun c1 => ?_) (fun c1 => ?_)
    · walk_at "rd"
      simpa [numD, c1] using q
    · simpa [numD, c1] using q
  · rw [h1]
    cases hd
    refine iteF ?_
    walk_at "rd"
    rw [h2]
    refine iteT ?_
    walk_at "rd"
    exact q
  · rw [h1]
    refine iteT ?_
    walk_at "rd"
    rw [h2] at q
    exact q
abbrev s_is_stamp : Stmt := top 13
abbrev n_is_stamp : List Str := ["thing"]
abbrev p_is_stamp : List Str := ["thing"]
theorem sc_is_stamp : FnScope n_is_stamp p_is_stamp (defScope s_is_stamp) := ⟨rfl, rfl, rfl, by decide +kernel, rfl, by decide +kernel, by decide +kernel⟩
theorem ok_is_stamp (T : Txt mg t1 t2 t3) {f : Addr} {fd : FuncData} (F : Fun K "is_stamp" "is_stamp" s_is_stamp f fd) (K_is_number : Cal P w K mg base CX0 1 "is_number" p_is_number (spD K numD)) (K_is_word : Cal P w K mg base CX0 1 "is_word" p_is_word (spD K wordD)) :
    FnOk P w K mg base CX0 2 f fd p_is_stamp (spD K stampD) := by
  refine F.ok sc_is_stamp (fun vs H Q E h => spD_len h) (fun cdv A outer s H vs Q E hr h => ?_)
  obtain ⟨v, d, rfl, hd, ho, k⟩ := h
  have hu := hr.units
  refine ⟨_, (pss_cons (ps_if (PW.pt (pw_or (pt_not (pt_val (pe_callB k_isi (by rfl) T.z_isinstance (by decide +kernel) (pa_cons (pv 0) (pa_cons (pe_bltn (v := .ty "tuple") rfl T.z_tuple (by decide +kernel) rfl) pa_nil))))) (pw_or1 (pt_cmpR (k_ne hu) (pe_callB k_len (by rfl) T.z_len (by decide +kernel) (pa_cons (pv 0) pa_nil)) pe_int (nomark _))))) (pss_one (ps_ret pe_bl)) pss_nil)
      (pss_one (ps_ret (pe_and (pe_cal K_is_number (hr.mono (by decide)) pass0 (pa_cons (pe_ix k_ix (pv 0) pe_int (fun _ _ => rfl)) pa_nil)) (pe_one (pe_cal K_is_word (hr.mono (by decide)) pass0 (pa_cons (pe_ix k_ix (pv 0) pe_int (fun _ _ => rfl)) pa_nil))))))), ?_⟩
  walk_at "rd"
  have q := k H (Same.refl H)
  rcases tup_or hd with ⟨a, xs, ds, rfl, rfl, ha, hds, e⟩ | ⟨e, hn⟩
  · rw [e]
    refine iteF ?_
    walk_at "rd"
    refine r_decN (fun c1 => ?_) (fun c1 => ?_)
    · walk_at "rd"
      rw [stampD_len (fun z => c1 (by rw [hds.length, z]; rfl))] at q
      exact q
    · obtain ⟨v0, v1, d0, d1, rfl, rfl, h0, h1⟩ := all_two hds (by omega)
      obtain ⟨_, o0, o1, _⟩ := ho
      walk_at "rd"
      refine r_spD h0 o0 fun H2 s2 => ?_
      walk_at "rd"
      have ha2 := s2 _ _ ha
      refine r_bool (fun c2 => ?_) (fun c2 => ?_)
      · walk_at "rd"
        refine r_spD (h1.same' s2) o1 fun H3 s3 => ?_
        have q := k H3 (s2.trans s3)
        simpa [stampD, c2] using q
      · have q := k H2 s2
        simpa [stampD, c2] using q
  · rw [e]
    refine iteT ?_
    walk_at "rd"
    rw [stampD_no hn] at q
    exact q
abbrev s_is_entry : Stmt := top 14
abbrev n_is_entry : List Str := ["thing", "key", "stamp", "value"]
abbrev p_is_entry : List Str := ["thing"]
theorem sc_is_entry : FnScope n_is_entry p_is_entry (defScope s_is_entry) := ⟨rfl, rfl, rfl, by decide +kernel, rfl, by decide +kernel, by decide +kernel⟩
theorem ok_is_entry (T : Txt mg t1 t2 t3) {f : Addr} {fd : FuncData} (F : Fun K "is_entry" "is_entry" s_is_entry f fd) (K_is_word : Cal P w K mg base CX0 2 "is_word" p_is_word (spD K wordD)) (K_is_stamp : Cal P w K mg base CX0 2 "is_stamp" p_is_stamp (spD K stampD))
    (K_is_value : Cal P w K mg base CX0 2 "is_value" p_is_value (spD K valueD)) : FnOk P w K mg base CX0 3 f fd p_is_entry (spD K entryD) := by
  refine F.ok sc_is_entry (fun vs H Q E h => spD_len h) (fun cdv A outer s H vs Q E hr h => ?_)
  obtain ⟨v, d, rfl, hd, ho, k⟩ := h
  have hu := hr.units
  refine ⟨_, (pss_cons (ps_if (PW.pt (pw_or (pt_not (pt_val (pe_callB k_isi (by rfl) T.z_isinstance (by decide +kernel) (pa_cons (pv 0) (pa_cons (pe_bltn (v := .ty "tuple") rfl T.z_tuple (by decide +kernel) rfl) pa_nil))))) (pw_or1 (pt_cmpR (k_ne hu) (pe_callB k_len (by rfl) T.z_len (by decide +kernel) (pa_cons (pv 0) pa_nil)) pe_int (nomark _))))) (pss_one (ps_ret pe_bl)) pss_nil)
      (pss_cons (ps_asg (pv 0) (k_gtup (n := 3) rfl (pgs_cons (pg_name (i := 1) sc_is_entry.nd rfl (by first | exact Or.inl rfl | exact Or.inr rfl)) (pgs_cons (pg_name (i := 2) sc_is_entry.nd rfl (by first | exact Or.inl rfl | exact Or.inr rfl)) (pgs_cons (pg_name (i := 3) sc_is_entry.nd rfl (by first | exact Or.inl rfl | exact Or.inr rfl)) pgs_nil)))))
      (pss_one (ps_ret (pe_and (pe_cal K_is_word (hr.mono (by decide)) pass0 (pa_cons (pv 1) pa_nil)) (pe_and (pe_cal K_is_stamp (hr.mono (by decide)) pass0 (pa_cons (pv 2) pa_nil)) (pe_one (pe_or (pe_cmpR o_isN (pv 3) pe_non (nomark _)) (pe_one (pe_cal K_is_value (hr.mono (by decide)) pass0 (pa_cons (pv 3) pa_nil))))))))))), ?_⟩
  walk_at "rd"
  have q := k H (Same.refl H)
  rcases tup_or hd with ⟨a, xs, ds, rfl, rfl, ha, hds, e⟩ | ⟨e, hn⟩
  · rw [e]
    refine iteF ?_
    walk_at "rd"
    refine r_decN (fun c1 => ?_) (fun c1 => ?_)
    · walk_at "rd"
      rw [entryD_len (fun z => c1 (by rw [hds.length, z]; rfl))] at q
      exact q
    · obtain ⟨v0, v1, v2, d0, d1, d2, rfl, rfl, h0, h1, h2⟩ := all_three hds (by omega)
      obtain ⟨_, o0, o1, o2, _⟩ := ho
      walk_at "rd"
      refine r_spD h0 o0 fun H2 s2 => ?_
      walk_at "rd"
      refine r_bool (fun c2 => ?_) (fun c2 => ?_)
      · walk_at "rd"
        refine r_spD (h1.same' s2) o1 fun H3 s3 => ?_
        walk_at "rd"
        refine r_bool (fun c3 => ?_) (fun c3 => ?_)
        · walk_at "rd"
          rw [noneD_iff h2]
          refine r_bool (fun c4 => ?_) (fun c4 => ?_)
          · have q := k H3 (s2.trans s3)
            simpa [entryD, c2, c3, c4] using q
          · walk_at "rd"
            refine r_spD (h2.same' (s2.trans s3)) o2 fun H4 s4 => ?_
            have q := k H4 ((s2.trans s3).trans s4)
            simpa [entryD, c2, c3, c4] using q
        · have q := k H3 (s2.trans s3)
          simpa [entryD, c2, c3] using q
      · have q := k H2 s2
        simpa [entryD, c2] using q
  · rw [e]
    refine iteT ?_
    walk_at "rd"
    rw [entryD_no hn] at q
    exact q

end
end K05

set_option Elab.async false
set_option linter.all false
set_option maxRecDepth 100000
set_option maxHeartbeats 4000000
namespace K05
open PySem PySem.Spec PyProof.Rows L2 Tk Ts CwR
local macro_rules | `(tactic| walk_at "rd1") => `(tactic| first
  | with_reducible refine r_seq ?_
  | ((with_reducible refine r_var (v := ?vv) ?hrv ?_); (case hrv => rfl))
  | with_reducible refine r_c ?_
  | with_reducible refine r_op ?_
  | ((with_reducible refine r_ixL (xs := ?xx) (v := ?vv) ?hh ?he ?_); (case hh => first | assumption | exact upd_same); (case he => rfl))
  | with_reducible refine r_asg ?_
  | with_reducible refine r_sub ?_
  | ((with_reducible refine r_gTup (xs := ?xx) ?hh ?he ?_); (case hh => assumption); (case he => rfl))
  | with_reducible refine r_gCons ?_
  | with_reducible refine r_gNil ?_
  | ((with_reducible refine r_setL (xs := ?xx) (j := ?vv) ?hh ?he ?_); (case hh => first | assumption | exact upd_same); (case he => rfl))
  | with_reducible refine r_pow15 ?_
  | with_reducible refine r_pow18 ?_
  | with_reducible refine r_repr ?_
  | with_reducible refine iteT ?_
  | with_reducible refine iteF ?_
  | with_reducible refine r_cons ?_
  | with_reducible refine r_nil ?_
  | with_reducible refine r_call ?_
  | with_reducible refine r_cb ?_
  | with_reducible refine r_ret ?_
  | with_reducible refine r_gName ?_
  | with_reducible refine r_next ?_
  | with_reducible refine r_ifS ?_
  | with_reducible refine r_un ?_
  | with_reducible refine r_U ?_
  | with_reducible refine r_max2 ?_
  | with_reducible refine r_min2 ?_
  | with_reducible refine r_sl ?_
  | with_reducible refine r_noPart ?_
  | with_reducible refine r_part ?_
  | with_reducible refine r_inti ?_
  | with_reducible refine r_lc ?_
  | with_reducible refine r_for ?_
  | with_reducible refine r_rng1 ?_
  | with_reducible refine r_iList ?_
  | with_reducible refine r_iTup ?_
  | with_reducible refine r_iStr ?_
  | with_reducible refine r_strx ?_
  | ((with_reducible refine r_j ?hh ?hi ?_); (case hh => omega); (case hi => omega))
  | with_reducible refine r_m1 ?_
  | with_reducible refine r_test ?_
  | with_reducible refine r_B ?_
  | with_reducible refine r_not ?_
  | with_reducible refine r_and ?_
  | with_reducible refine r_or ?_
  | with_reducible refine r_andV ?_
  | with_reducible refine r_orV ?_
  | with_reducible refine r_notV ?_
  | with_reducible refine r_if ?_
  | with_reducible refine r_chain ?_
  | with_reducible refine r_lst ?_
  | with_reducible refine r_tup ?_
  | with_reducible refine r_k ?_
  | ((with_reducible refine r_isiS (d := ?dd) ?hh ?_); (case hh => assumption))
  | ((with_reducible refine r_isiT (d := ?dd) ?hh ?_); (case hh => assumption))
  | ((with_reducible refine r_isiI (d := ?dd) ?hh ?_); (case hh => assumption))
  | ((with_reducible refine r_isiB (d := ?dd) ?hh ?_); (case hh => assumption))
  | ((with_reducible refine r_lenS ?hh ?_); (case hh => assumption))
  | ((with_reducible refine r_lenT (xs := ?dd) ?hh ?_); (case hh => assumption))
  | ((with_reducible refine r_ixT (xs := ?xx) (v := ?vv) ?hh ?he ?_); (case hh => assumption); (case he => rfl))
  | with_reducible refine r_isN ?_
  | with_reducible refine r_I0 ?_
  | with_reducible refine g_addI ?_
  | ((with_reducible refine r_mod ?hh ?_); (case hh => first | decide | omega))
  | ((with_reducible refine r_div ?hh ?hi ?_); (case hh => first | decide | omega); (case hi => first | decide | omega))
  | ((with_reducible refine g_mulB ?hh ?hi ?_); (case hh => omega); (case hi => omega))
  | with_reducible refine g_ltI ?_
  | with_reducible refine g_leI ?_
  | with_reducible refine g_gtI ?_
  | with_reducible refine g_geI ?_
  | with_reducible refine g_eqI ?_
  | with_reducible refine g_neI ?_
  | with_reducible refine g_eqS ?_
  | with_reducible refine g_neS ?_
  | with_reducible refine g_leS ?_
  | with_reducible refine g_ltS ?_)
local macro_rules | `(tactic| walk_at "rd") => `(tactic| repeat (walk_at "rd1"))
local macro_rules | `(tactic| walk_at "ed") => `(tactic| repeat first
  | exact ed_int
  | exact ed_str
  | exact ed_bl
  | exact ed_non
  | exact ed_nil
  | exact ed_dct
  | exact ed_neg
  | with_reducible apply ed_cons
  | with_reducible apply ed_tup
  | with_reducible apply ed_lst
  | exact Nat.le_of_ble_eq_true rfl)
local macro_rules | `(tactic| walk_at "tx1") => `(tactic| first
  | walk_at "rd1"
  | with_reducible refine r_callS ?_
  | with_reducible refine r_zipA ?_
  | with_reducible refine r_par ?_
  | with_reducible refine r_pair ?_
  | with_reducible refine r_pow6 ?_
  | with_reducible refine r_m0 ?_
  | with_reducible refine r_bm ?_
  | with_reducible refine r_isS ?_
  | with_reducible refine r_told ?_
  | with_reducible refine r_js ?_
  | with_reducible refine r_jsNil ?_
  | with_reducible refine r_repl ?_
  | ((with_reducible refine r_gLst (xs := ?xx) ?hh ?he ?_); (case hh => assumption); (case he => rfl))
  | ((with_reducible refine r_lenL (xs := ?xx) ?hh ?_); (case hh => assumption)))
local macro_rules | `(tactic| walk_at "tx") => `(tactic| repeat (walk_at "tx1"))
section
variable {t1 t2 t3 : Tok} {P : Program} {w : World} {K : PySem.W.Frag} {mg : Str → Option Value} {base : Heap}
def areD : PyData → Bool
  | .list ds => ds.all entryD && decide ((ds.map keyD).Nodup)
  | .tuple ds => ds.all entryD && decide ((ds.map keyD).Nodup)
  | _ => false
def spAre (K : PySem.W.Frag) : Sp := fun vs H Q _ => ∃ (v : V) (d : PyData), vs = [v] ∧ Dd K H v d ∧ okD d ∧ (∀ ds, d = .list ds ∨ d = .tuple ds → ds.length ≤ 1000) ∧ ∀ H', Same H H' → Q (.bl (areD d)) H'
abbrev s_are_entries : Stmt := top 17
abbrev n_are_entries : List Str := ["thing", "entry"]
abbrev p_are_entries : List Str := ["thing"]
theorem sc_are_entries : FnScope n_are_entries p_are_entries (defScope s_are_entries) := ⟨rfl, rfl, rfl, by decide +kernel, rfl, by decide +kernel, by decide +kernel⟩
theorem ok_are_entries (T : Txt mg t1 t2 t3) {f : Addr} {fd : FuncData} (F : Fun K "_are_entries" "_are_entries" s_are_entries f fd) (K_is_entry : Cal P w K mg base CX0 3 "is_entry" p_is_entry (spD K entryD)) : FnOk P w K mg base CX0 4 f fd p_are_entries (spAre K) := by
  refine F.ok sc_are_entries (fun vs H Q E h => by obtain ⟨v, d, rfl, _⟩ := h; rfl) (fun cdv A outer s H vs Q E hr h => ?_)
  obtain ⟨v, d, rfl, hd, ho, hfew, k⟩ := h
  have hu := hr.units
  refine ⟨_, (pss_cons (ps_if (pt_not (pt_val (pe_callB k_isiT (by rfl) T.z_isinstance (by decide +kernel) (pa_cons (pv 0) (pa_cons (pe_tup (pa_cons (pe_bltn (v := .ty "list") rfl T.z_list (by decide +kernel) rfl) (pa_cons (pe_bltn (v := .ty "tuple") rfl T.z_tuple (by decide +kernel) rfl) pa_nil))) pa_nil))))) (pss_one (ps_ret pe_bl)) pss_nil)
      (pss_cons (ps_if (pt_not (pt_val (pe_callB (k_all rfl) (by rfl) T.z_all (by decide +kernel) (pa_cons (pe_lc (own := [("entry", 1)]) rfl sc_are_entries.nd (k_seq (pv 0)) (blkOk_by (own := [("entry", 1)]) (N := n_are_entries) (sc := defScope s_are_entries) (by decide +kernel)) (fun _ _ _ _ _ => (pg_name (i := 1) sc_are_entries.nd rfl (by first | exact Or.inl rfl | exact Or.inr rfl))) (fun _ _ _ _ _ => pts_nil) (fun _ _ _ _ _ => (pe_cal K_is_entry (hr.mono (by decide)) pass0 (pa_cons (pv 1) pa_nil)))) pa_nil)))) (pss_one (ps_ret pe_bl)) pss_nil)
      (pss_one (ps_ret (pe_cmpR (k_eq hu) (pe_callB k_lenX (by rfl) T.z_len (by decide +kernel) (pa_cons (pe_scT (own := [("entry", 1)]) rfl sc_are_entries.nd (k_seq (pv 0)) (blkOk_by (own := [("entry", 1)]) (N := n_are_entries) (sc := defScope s_are_entries) (by decide +kernel)) (fun _ _ _ _ _ => (pg_name (i := 1) sc_are_entries.nd rfl (by first | exact Or.inl rfl | exact Or.inr rfl))) (fun _ _ _ _ _ => pts_nil) (fun _ _ _ _ _ => (pe_ix k_ix (pv 1) pe_int (fun _ _ => rfl)))) pa_nil)) (pe_callB k_len (by rfl) T.z_len (by decide +kernel) (pa_cons (pv 0) pa_nil)) (nomark _)))))), ?_⟩
  walk_at "tx"
  refine a_tup (by simp) fun T0 H1 n1 s1 e1 => ?_
  walk_at "tx"
  refine r_isiLT (Dd.same s1 _ _ hd) e1 ?_
  rcases seq_or hd with ⟨a, xs, ds, rfl, hs, al, hsh, e⟩ | ⟨e, hn⟩
  · rw [e]
    refine r_k ?_
    refine iteF ?_
    have hare : areD d = (ds.all entryD && decide ((ds.map keyD).Nodup)) := by rcases hsh with rfl | rfl <;> rfl
    have hok : okAll ds ∧ ds.length ≤ 1000 := by
      have f := hfew ds hsh
      rcases hsh with rfl | rfl
      · exact ⟨ho.2, f⟩
      · exact ⟨ho.2, f⟩
    rw [hare] at k
    have ll := al.length
    walk_at "tx"
    refine r_iSeqV rfl (hs.same s1) fun J G wk hG => ?_
    refine lc_walkI wk hG ((ds.map entryD).map V.bl) (by simp [ll]) (by omega) (fun i x r hx hr H2 R s2 q => ?_) (fun L H2 nL s2 eL => ?_)
    · obtain ⟨d1, hd1, dd1⟩ := dd_get al hx
      walk_at "tx"
      refine r_spD (Dd.same (s1.trans s2) _ _ dd1) (okAll_iff.mp hok.1 d1 (List.mem_of_getElem? hd1)) fun H3 s3 => ?_
      rw [List.getElem?_map, List.getElem?_map, hd1] at hr
      cases hr
      exact q H3 s3
    walk_at "tx"
    refine r_all eL ?_
    rw [show (ds.map entryD).all id = ds.all entryD by rw [List.all_map]; rfl]
    walk_at "tx"
    refine r_boolN (fun c => ?_) (fun c => ?_)
    · walk_at "tx"
      rw [c, Bool.false_and] at k
      exact k H2 (s1.trans s2)
    rw [c, Bool.true_and] at k
    walk_at "tx"
    refine r_scT ?_
    refine r_iSeqV rfl (hs.same (s1.trans s2)) fun J2 G2 wk2 hG2 => ?_
    refine sc_pure wk2 hG2 (by omega) (ds.map keyD) (by simp [ll]) (fun i x z hx hz H3 R s3 q => ?_) (fun B H3 nB s3 eB => ?_)
    · obtain ⟨d1, hd1, dd1⟩ := dd_get al hx
      rw [List.getElem?_map, hd1] at hz
      cases hz
      obtain ⟨k1, n1, o1, v1, e1, _⟩ := entry_is (List.all_eq_true.mp c d1 (List.mem_of_getElem? hd1))
      subst e1
      have dd2 := Dd.same ((s1.trans s2).trans s3) _ _ dd1
      cases dd2 with
      | tup ea al2 =>
        cases al2 with
        | cons h0 _ =>
          cases h0
          walk_at "tx"
          refine r_ixT ea (at0 _ _) ?_
          exact q H3 (Same.refl H3)
    · walk_at "tx"
      refine ⟨B, _, rfl, eB, ?_⟩
      walk_at "tx"
      refine r_lenSeq (hs.same ((s1.trans s2).trans s3)) ?_
      refine g_eqI ?_
      have z : decide (((gather (ds.map keyD).reverse).length : Int) = (xs.length : Int)) = decide ((ds.map keyD).Nodup) := by
        congr 1
        apply propext
        rw [← (List.reverse_perm (ds.map keyD)).nodup_iff, ← gather_nodup, List.length_reverse, List.length_map, ll]
        omega
      show Q (V.bl (decide (((gather (ds.map keyD).reverse).length : Int) = (xs.length : Int)))) H3
      rw [z]
      exact k H3 ((s1.trans s2).trans s3)
  · rw [e]
    refine r_k ?_
    refine iteT ?_
    walk_at "tx"
    have z : areD d = false := by
      cases d with
      | list ds => exact absurd rfl (hn ds).1
      | tuple ds => exact absurd rfl (hn ds).2
      | _ => rfl
    rw [z] at k
    exact k H1 s1
def spInit (K : PySem.W.Frag) (C CB : Addr) : Sp := fun vs H Q E => ∃ (a dx : Addr) (v : V) (d : PyData), vs = [.ref a, v] ∧ H a = some (.ins C dx []) ∧ Dd K H v d ∧ okD d ∧ (∀ ds, d = .list ds ∨ d = .tuple ds → ds.length ≤ 60) ∧
  (areD d = true → ∀ es H', (d = .list es ∨ d = .tuple es) → (∀ b o, H b = some o → b ≠ a → H' b = some o) → ContAt K C H' a es → Q .non H') ∧ (areD d = false → raisedF CB v H E)
abbrev s_Content___init__ : Stmt := inClass (top 16) 0
abbrev n_Content___init__ : List Str := ["self", "entries", "entry"]
abbrev p_Content___init__ : List Str := ["self", "entries"]
theorem sc_Content___init__ : FnScope n_Content___init__ p_Content___init__ (defScope s_Content___init__) := ⟨rfl, rfl, rfl, by decide +kernel, rfl, by decide +kernel, by decide +kernel⟩
theorem ok_init {C CB : Addr} (CC : ContC K C) (R_BadEntries : ExcR P w K mg base "BadEntries" CB) (T : Txt mg t1 t2 t3) {f : Addr} {fd : FuncData} {dvs : List V} {kws : List (Str × V)} (F : FunD K "__init__" "Content.__init__" (defArgs s_Content___init__) (defBody s_Content___init__) (defScope s_Content___init__) dvs kws f fd) (K_are_entries : Cal P w K mg base CX0 4 "_are_entries" p_are_entries (spAre K)) : FnOk P w K mg base (L2.CX P w) 5 f fd p_Content___init__ (spInit K C CB) := by
  refine FunD.ok F sc_Content___init__ (fun vs H Q E h => by obtain ⟨a, dx, v, d, rfl, _⟩ := h; rfl) (fun cdv A outer s H vs Q E hr h => ?_)
  obtain ⟨a, dx, v, d, rfl, ea, hd, ho, hfew, k, kx⟩ := h
  have hu := hr.units
  refine ⟨_, (pss_cons (ps_if (pt_not (pt_val (pe_cal K_are_entries (hr.mono (by decide)) pass0 (pa_cons (pv 1) pa_nil)))) (pss_one (ps_raiseV R_BadEntries (takes_of rfl rfl rfl rfl) (hr.mono (by decide)) (pv 1))) pss_nil)
      (pss_one (k_setF (pv 0) (pe_dc (own := [("entry", 2)]) rfl sc_Content___init__.nd (k_seq (pv 1)) (blkOk_by (own := [("entry", 2)]) (N := n_Content___init__) (sc := defScope s_Content___init__) (by decide +kernel)) (fun _ _ _ _ _ => (pg_name (i := 2) sc_Content___init__.nd rfl (by first | exact Or.inl rfl | exact Or.inr rfl))) (fun _ _ _ _ _ => pts_nil) (fun _ _ _ _ _ => (pe_ix k_ix (pv 2) pe_int (fun _ _ => rfl))) (fun _ _ _ _ _ => (pv 2)))))), ?_⟩
  walk_at "tx"
  refine ⟨v, d, rfl, hd, ho, fun ds h => Nat.le_trans (hfew ds h) (by decide), fun H1 s1 => ?_⟩
  walk_at "tx"
  refine r_boolN (fun c => ?_) (fun c => ?_)
  · refine r_raise ?_
    walk_at "tx"
    exact mk_raisedF (kx c) s1
  walk_at "tx"
  rcases seq_or hd with ⟨p, xs, ds, rfl, hs, al, hsh, _⟩ | ⟨_, hn⟩
  · have hare : areD d = (ds.all entryD && decide ((ds.map keyD).Nodup)) := by rcases hsh with rfl | rfl <;> rfl
    have hgood : GoodE ds := by
      rw [hare, Bool.and_eq_true, decide_eq_true_eq] at c
      exact ⟨List.all_eq_true.mp c.1, c.2⟩
    have hfew2 := hfew ds hsh
    have ll := al.length
    dsimp only
    refine r_setF ?_
    refine r_dc ?_
    refine r_iSeqV rfl (hs.same s1) fun J G wk hG => ?_
    refine dc_pure wk hG (by omega) (DdAll.same s1 _ _ al) hgood.nd (fun i x e hx he H2 R s2 q => ?_) (fun i x hx H2 R s2 q => ?_) (fun D H2 kvs nD s2 eD rows => ?_)
    · obtain ⟨d1, hd1, dd1⟩ := dd_get al hx
      rw [he] at hd1
      cases hd1
      obtain ⟨k1, n1, o1, v1, e1, _⟩ := entry_is (hgood.all e (List.mem_of_getElem? he))
      subst e1
      have dd2 := Dd.same (s1.trans s2) _ _ dd1
      cases dd2 with
      | tup ea2 al2 =>
        cases al2 with
        | cons h0 _ =>
          cases h0
          walk_at "tx"
          refine r_ixT ea2 (at0 _ _) ?_
          exact q H2 (Same.refl H2)
    · walk_at "tx"
      exact q H2 (Same.refl H2)
    · walk_at "tx"
      have s02 := s1.trans s2
      refine ⟨a, C, dx, [], rfl, s02 _ _ ea, CC.cls, CC.no, by decide, ?_⟩
      have aD : a ≠ D := by
        rintro rfl
        rw [s1 _ _ ea] at nD
        cases nD
      have bt : But a H2 (upd H2 a (.ins C dx (putF "_table" (V.ref D) []))) := fun b o e n => by rw [upd_ne n]; exact e
      refine k c ds _ hsh (fun b o e n => bt b o (s02 _ _ e) n) ⟨dx, D, kvs, upd_same, bt _ _ eD (Ne.symm aD), rows.stay hgood bt (fun xs z => by rw [s02 _ _ ea] at z; cases z), hgood, by omega⟩
  · have z : areD d = false := by
      cases d with
      | list ds => exact absurd rfl (hn ds).1
      | tuple ds => exact absurd rfl (hn ds).2
      | _ => rfl
    rw [z] at c
    cases c
end
end K05

set_option Elab.async false
set_option linter.all false
set_option maxRecDepth 100000
set_option maxHeartbeats 4000000
/-! stamps compared; dicts of data compared; operators of own classes -/
namespace Tk
open PySem PySem.Spec PyProof.Rows L2
/-! ### tuples of a number and a text -/
def ltT (n : Int) (a : Str) (m : Int) (b : Str) : Bool := decide (n < m) || (decide (n = m) && decide (a.cps.toList < b.cps.toList))
/-- the stamp s is less than the stamp t -/
def stLt : PyData → PyData → Bool
  | .tuple [.int n, .str a], .tuple [.int m, .str b] => ltT n a m b
  | _, _ => false
def StAt (K : PySem.W.Frag) (H : Hp) (v : V) (n : Int) (a : Str) : Prop := ∃ p, v = .ref p ∧ SqT K H p [.int n, .str a]
def rSt (K : PySem.W.Frag) (f : Int → Str → Int → Str → Bool) : R2 := fun x y H Q => ∃ n a m b, StAt K H x n a ∧ StAt K H y m b ∧ Q (.bl (f n a m b)) H
section
variable {X : Cx} {K : PySem.W.Frag}
theorem two_at {xs : List V} {its : List Value} {n : Int} {a : Str} (h : Vals [.int n, .str a] its) : ∃ t u, its = [.int n t, .str a u] := by
  cases h with
  | cons h1 h2 =>
    cases h2 with
    | cons h3 h4 =>
      cases h4
      obtain ⟨t, rfl⟩ := h1
      obtain ⟨u, rfl⟩ := h3
      exact ⟨t, u, rfl⟩
theorem st_core {op : CmpOp} {A : Around} {s : Shared} {p q : Addr} {n m : Int} {a b : Str} {t t' u u' : Tok} {z : Bool} (ri : Bool) (rs : Bool)
    (R : ∀ (e r : Nat → Bool), (∀ j (h1 : j < (#[Value.int n t, .str a u] : Array Value).size) (h2 : j < (#[Value.int m t', .str b u'] : Array Value).size), SeqAt.EqAt A.in1 s (#[Value.int n t, .str a u])[j] (#[Value.int m t', .str b u'])[j] (e j)) →
      (∀ j (h1 : j < (#[Value.int n t, .str a u] : Array Value).size) (h2 : j < (#[Value.int m t', .str b u'] : Array Value).size), e j = false → Ob.RcOp op A.in1 s (#[Value.int n t, .str a u])[j] (#[Value.int m t', .str b u'])[j] (r j)) → Ob.RcOp op A s (.ref p) (.ref q) (Ob.lexAt e r z 0 2))
    (hi : Ob.RcOp op A.in1 s (.int n t) (.int m t') ri) (hs : Ob.RcOp op A.in1 s (.str a u) (.str b u') rs) : Ob.RcOp op A s (.ref p) (.ref q) (if n = m then (if a = b then z else rs) else ri) := by
  have h := R (fun j => if j = 0 then decide (n = m) else decide (a = b)) (fun j => if j = 0 then ri else rs) (fun j h1 h2 => ?_) (fun j h1 h2 _ => ?_)
  · have e : Ob.lexAt (fun j => if j = 0 then decide (n = m) else decide (a = b)) (fun j => if j = 0 then ri else rs) z 0 2 = (if n = m then (if a = b then z else rs) else ri) := by
      rw [Ob.lexAt_succ, Ob.lexAt_succ, Ob.lexAt_zero]
      by_cases c1 : n = m
      · by_cases c2 : a = b <;> simp [c1, c2]
      · simp [c1]
    rw [e] at h
    exact h
  · have : j = 0 ∨ j = 1 := by have : j < 2 := h1; omega
    rcases this with rfl | rfl
    · have z : (n == m) = decide (n = m) := Bool.beq_eq_decide_eq _ _
      show SeqAt.EqAt _ _ (.int n t) (.int m t') (decide (n = m))
      rw [← z]
      exact SeqAt.EqAt.int_int _ _ _ _
    · have z : (a == b) = decide (a = b) := Bool.beq_eq_decide_eq _ _
      show SeqAt.EqAt _ _ (.str a u) (.str b u') (decide (a = b))
      rw [← z]
      exact SeqAt.EqAt.str_str _ _ _ _
  · have : j = 0 ∨ j = 1 := by have : j < 2 := h1; omega
    rcases this with rfl | rfl
    · exact hi
    · exact hs
theorem cps_eq {a b : Str} : a = b ↔ a.cps.toList = b.cps.toList := ⟨fun h => by rw [h], fun h => TL.ext_tl h⟩
theorem lt_irr (l : List Nat) : ¬ l < l := List.lt_irrefl l
theorem k_geSt (hu : X.A.units < cLine) (e : X.K = K := by rfl) : OpR X (compareOp .GtE) (rSt K fun n a m b => !ltT n a m b) := by
  subst e
  intro pn s σ H x y v u Q I rx ry h
  obtain ⟨n, a, m, b, ⟨p, rfl, hp⟩, ⟨q, rfl, hq⟩, k⟩ := h
  cases rx
  cases ry
  obtain ⟨i1, r1, p1, _⟩ := I.tuple hp
  obtain ⟨i2, r2, p2, _⟩ := I.tuple hq
  obtain ⟨t, t2, rfl⟩ := two_at (xs := []) r1
  obtain ⟨u, u2, rfl⟩ := two_at (xs := []) r2
  have R := st_core (op := .GtE) (A := X.A) (s := s) (p := p) (q := q) (z := true) (decide (m ≤ n)) (!decide (a.cps.toList < b.cps.toList)) (fun e r he hr => Ob.RcOp.tuples_ge p1 p2 hu he hr) (Ob.RcOp.ge_int _ _ _ _) (fun _ _ _ _ h => PySem.P.ge_str h)
  have z : (if n = m then (if a = b then true else !decide (a.cps.toList < b.cps.toList)) else decide (m ≤ n)) = !ltT n a m b := by
    unfold ltT
    by_cases c1 : n = m
    · subst c1
      by_cases c2 : a = b
      · subst c2; simp [lt_irr]
      · simp [c2]
    · rw [if_neg c1, decide_eq_false c1, Bool.false_and, Bool.or_false]
      by_cases c2 : n < m
      · rw [decide_eq_true c2, decide_eq_false (by omega)]; rfl
      · rw [decide_eq_false c2, decide_eq_true (by omega)]; rfl
  rw [z] at R
  exact R X.prog X.w X.xe (EP X pn σ Q) ⟨.bl _, H, I, rfl, k⟩
theorem k_leSt (hu : X.A.units < cLine) (e : X.K = K := by rfl) : OpR X (compareOp .LtE) (rSt K fun n a m b => !ltT m b n a) := by
  subst e
  intro pn s σ H x y v u Q I rx ry h
  obtain ⟨n, a, m, b, ⟨p, rfl, hp⟩, ⟨q, rfl, hq⟩, k⟩ := h
  cases rx
  cases ry
  obtain ⟨i1, r1, p1, _⟩ := I.tuple hp
  obtain ⟨i2, r2, p2, _⟩ := I.tuple hq
  obtain ⟨t, t2, rfl⟩ := two_at (xs := []) r1
  obtain ⟨u, u2, rfl⟩ := two_at (xs := []) r2
  have R := st_core (op := .LtE) (A := X.A) (s := s) (p := p) (q := q) (z := true) (decide (n ≤ m)) (!decide (b.cps.toList < a.cps.toList)) (fun e r he hr => Ob.RcOp.tuples_le p1 p2 hu he hr) (Ob.RcOp.le_int _ _ _ _) (fun _ _ _ _ h => PySem.P.le_str h)
  have z : (if n = m then (if a = b then true else !decide (b.cps.toList < a.cps.toList)) else decide (n ≤ m)) = !ltT m b n a := by
    unfold ltT
    by_cases c1 : n = m
    · subst c1
      by_cases c2 : a = b
      · subst c2; simp [lt_irr]
      · simp [c2]
    · rw [if_neg c1, decide_eq_false (show ¬ m = n from fun z => c1 z.symm), Bool.false_and, Bool.or_false]
      by_cases c2 : m < n
      · rw [decide_eq_true c2, decide_eq_false (by omega)]; rfl
      · rw [decide_eq_false c2, decide_eq_true (by omega)]; rfl
  rw [z] at R
  exact R X.prog X.w X.xe (EP X pn σ Q) ⟨.bl _, H, I, rfl, k⟩
theorem k_ltSt (hu : X.A.units < cLine) (e : X.K = K := by rfl) : OpR X (compareOp .Lt) (rSt K ltT) := by
  subst e
  intro pn s σ H x y v u Q I rx ry h
  obtain ⟨n, a, m, b, ⟨p, rfl, hp⟩, ⟨q, rfl, hq⟩, k⟩ := h
  cases rx
  cases ry
  obtain ⟨i1, r1, p1, _⟩ := I.tuple hp
  obtain ⟨i2, r2, p2, _⟩ := I.tuple hq
  obtain ⟨t, t2, rfl⟩ := two_at (xs := []) r1
  obtain ⟨u, u2, rfl⟩ := two_at (xs := []) r2
  have R := st_core (op := .Lt) (A := X.A) (s := s) (p := p) (q := q) (z := false) (decide (n < m)) (decide (a.cps.toList < b.cps.toList)) (fun e r he hr => Ob.RcOp.tuples_lt p1 p2 hu he hr) (Ob.RcOp.lt_int _ _ _ _) (fun _ _ _ _ h => lt_str h)
  have z : (if n = m then (if a = b then false else decide (a.cps.toList < b.cps.toList)) else decide (n < m)) = ltT n a m b := by
    unfold ltT
    by_cases c1 : n = m
    · subst c1
      by_cases c2 : a = b
      · subst c2; simp [lt_irr]
      · simp [c2]
    · rw [if_neg c1, decide_eq_false c1, Bool.false_and, Bool.or_false]
  rw [z] at R
  exact R X.prog X.w X.xe (EP X pn σ Q) ⟨.bl _, H, I, rfl, k⟩
end
end Tk

set_option Elab.async false
set_option linter.all false
set_option maxRecDepth 100000
set_option maxHeartbeats 4000000
/-! a != b by an own __eq__; an own operator of anything; dicts of data compared -/
namespace Tk
open PySem PySem.Spec PyProof.Rows L2
section
variable {prog : Program} {w : World} {A : Around} {E : Value → Shared → Prop} {s : Shared} {K : PySem.W.Frag} {x y C f : Addr} {ox : Obj} {od : Option Obj}
/-- object.__ne__ asks the class's own __eq__ -/
theorem ne_entry (hu : A.units < cLine) (Z : K.In s.heap) (I : PySem.W.InstAt s.heap x ox C od) (he : PySem.W.findIn K (.ref C) "__eq__" = some (some (.ref f))) (hf : PySem.W.isFn K (.ref f) = true) {R : Fin → Shared → Prop}
    (k : wpAny (model prog w) A (call (.ref f) [.ref x, .ref y]) (fun v t => ∃ b, v = .bool b ∧ R (.done (.ret (.bool (!b)))) t) E s) : wpAny (model prog w) A (Builtin.«object.__ne__» ⟨[.ref x, .ref y], []⟩) R E s := by
  unfold Builtin.«object.__ne__»
  repeat (first
    | with_reducible refine wpAny_cRoomFor hu ?_
    | (refine wpAny_bind (m := callSpecialIfBound? (.ref x) (Str.ofString "__eq__") [.ref y]) (PySem.W.ifBound_K Z I he hf (wpAny_mono k (fun r t hr => by
          obtain ⟨b, rfl, q⟩ := hr
          repeat (first | exact q | exact wpAny_pure q | exact wpAny_truthy_bool q | (refine wpAny_bind (m := truthy (.bool _)) (wpAny_truthy_bool ?_)) | wp_step)) fun _ _ e => e)))
    | wp_step)
theorem ne_bound {M : Model} {args : List Value} {R : Option Value → Shared → Prop} (Z : K.In s.heap) (I : PySem.W.InstAt s.heap x ox C od) (hs : PySem.W.findIn K (.ref C) "__ne__" = some (some (.builtin "object.__ne__")))
    (k : wpAny M A (call (.builtin "object.__ne__") (.ref x :: args)) (fun v => R (some v)) E s) : wpAny M A (callSpecialIfBound? (.ref x) "__ne__" args) R E s := by
  simp only [bindSpecialIfBound?, callSpecialIfBound?]
  refine wpAny_holding (wpAny_bind (wpAny_bind (wpAny_bind (I.type.here ((PySem.W.looks_findIn Z hs).here (wpAny_bind (wpAny_askSetting (wpAny_ite ?_))))))))
  have last : wpAny M A (call (.builtin "object.__ne__") ([.ref x] ++ args) >>= fun v => pure (some v)) R E s := wpAny_bind (wpAny_mono k (fun v t h => wpAny_pure h) fun _ _ h => h)
  split
  · exact wpAny_bind (wpAny_of_eq (F.cmp_object.ne.bind _) (wpAny_pure (by exact last)))
  · exact wpAny_tryCatch (wpAny_bind (wpAny_of_eq (F.cmp_object.ne.bind _) (wpAny_pure (by exact last))))
theorem ne_rich {ty : Value} (hu : A.units + 1 < cLine) (Z : K.In s.heap) (I : PySem.W.InstAt s.heap x ox C od) (hm : PySem.W.mroIn K C (.type "object") = some true) (hb : PySem.W.Looks (model prog w) s.heap (typeOf (.ref y)) ty) (hn : PySem.W.notFirst K C ty = true)
    (hs : PySem.W.findIn K (.ref C) "__ne__" = some (some (.builtin "object.__ne__"))) (he : PySem.W.findIn K (.ref C) "__eq__" = some (some (.ref f))) (hf : PySem.W.isFn K (.ref f) = true) {R : Value → Shared → Prop}
    (k : wpAny (model prog w) A.in1 (call (.ref f) [.ref x, .ref y]) (fun v t => ∃ b, v = .bool b ∧ R (.bool (!b)) t) E s) : wpAny (model prog w) A (compareOp .NotEq (.ref x) (.ref y)) R E s := by
  have one : wpAny (model prog w) A (tryCompare (.ref x) "__ne__" (.ref y)) (fun r t => ∃ b, r = some (.bool b) ∧ R (.bool b) t) E s := by
    unfold tryCompare
    refine wpAny_bind (ne_bound Z I hs (wpAny_call (codeAny_call_builtin F.cmp_object.ne.plain F.cmpEntry_ne (PySem.W.check_slot F.cmpKind_ne F.cmpSplit_ne (I.type.andThen (PySem.W.looks_mroIn Z hm)) (F.cmpArgs_ne _ _)
      (ne_entry (A := A.in1) (by show A.units + 1 < cLine; exact hu) Z I he hf (wpAny_mono k (fun v t hv => ?_) fun _ _ e => e))))))
    obtain ⟨b, rfl, q⟩ := hv
    exact ⟨b, rfl, wpAny_pure ⟨!b, rfl, q⟩⟩
  show wpAny (model prog w) A (richCompare .NotEq (.ref x) (.ref y)) R E s
  unfold richCompare
  simp only [oneThing_ref, cmpInfo_NotEq]
  refine wpAny_holding (wpAny_bind (wpAny_cRoomFor (Nat.lt_of_succ_lt hu) (wpAny_bind (I.type.here (wpAny_bind (hb.here ?_))))))
  split
  · rename_i q
    have e : PySem.W.subIn K ty (.ref C) = some false := by
      rcases Bool.or_eq_true_iff.mp hn with z | z
      · rw [beq_iff_eq.mp z] at q
        simp at q
      · exact beq_iff_eq.mp z
    refine wpAny_bind ((PySem.W.looks_subIn Z e).here ?_)
    simp only [Bool.false_eq_true, if_false]
    refine wpAny_bind (wpAny_mono one (fun r t z => ?_) fun _ _ e => e)
    obtain ⟨b, rfl, q⟩ := z
    exact wpAny_pure q
  · refine wpAny_bind (wpAny_pure ?_)
    simp only [Bool.false_eq_true, if_false]
    refine wpAny_bind (wpAny_mono one (fun r t z => ?_) fun _ _ e => e)
    obtain ⟨b, rfl, q⟩ := z
    exact wpAny_pure q
end
section
variable {X : Cx} {CX : CXT} {n : Nat} {C g : Addr} {sp : Sp} {E : XK}
def rNeOwn (C : Addr) (sp : Sp) (E : XK) : R2 := fun x y H Q => ∃ (a b dx dy : Addr) (fs gs : List (Str × V)), x = .ref a ∧ y = .ref b ∧ H a = some (.ins C dx fs) ∧ H b = some (.ins C dy gs) ∧ sp [.ref a, .ref b] H (fun r H' => ∃ k, r = .bl k ∧ Q (.bl (!k)) H') E
theorem k_neOwn (o : Own X.K C "__eq__" g) (hs : PySem.W.findIn X.K (.ref C) "__ne__" = some (some (.builtin "object.__ne__"))) (hm : PySem.W.mroIn X.K C (.type "object") = some true) (F : FnR X.prog X.w X.K X.mg X.base CX n g sp) (hr : Room (n + 1) X.A) (hx : Passes CX X E) : OpR X (compareOp .NotEq) (rNeOwn C sp E) := by
  intro pn s σ H x y v u Q I rx ry h
  obtain ⟨a, b, dx, dy, fs, gs, rfl, rfl, ha, hb, q⟩ := h
  cases rx
  cases ry
  obtain ⟨od, J⟩ := ins_at I ha
  obtain ⟨oe, J2⟩ := ins_at I hb
  refine ne_rich (ty := .ref C) (by have := hr.units; omega) I.kIn J hm J2.type (by simp [PySem.W.notFirst]) hs o.at_ o.fn ?_
  refine wpAny_mono (wpAny_call (SlX.run_at (us := [.ref a, .ref b]) (ws := [.ref a, .ref b]) F (Room.in1 hr) I.env0.in1 hx I (.cons rfl (.cons rfl .nil)) q)) (fun w t z => ?_) fun _ _ z => z
  obtain ⟨r, H', I', rz, k, rfl, qk⟩ := z
  obtain rfl : w = Value.bool k := rz
  exact ⟨k, rfl, .bl (!k), H', I', rfl, qk⟩
end
/-! ### == of two dicts of entries, by their data -/
def tabAll (fs : List PyData) : List PyData → Bool
  | [] => true
  | e :: es => (match findE fs (keyD e) with | some f => PyData.eqv e f | none => false) && tabAll fs es
def eqTab (es fs : List PyData) : Bool := decide (es.length = fs.length) && tabAll fs es
theorem hits_data {X : Cx} {pn : List (Addr × Obj)} {σ : L2.St} {H : Hp} {s : Shared} {A : Around} (I : Inv X pn σ H s) (hu : A.units + 60 < cLine) {ls : List (Key × V)} {fs : List PyData} {vb : List (Key × Value)} (rb : KV ls vb) (rl : RowsK X.K H ls fs) (fl : ∀ f ∈ fs, f.plain = true) :
    ∀ {ks : List (Key × V)} {es : List PyData} {va : List (Key × Value)}, KV ks va → RowsK X.K H ks es → (∀ e ∈ es, e.plain = true ∧ e.depth ≤ 50) → PySem.W.KeqHits A s vb va (tabAll fs es)
  | [], [], _, ra, _, _ => by
    cases ra
    exact .nil
  | [], _ :: _, _, _, h, _ => by have := h.len; simp at this
  | _ :: _, [], _, _, h, _ => by have := h.len; simp at this
  | kv :: ks, e :: es, _, ra, h, fe => by
    obtain ⟨h1, h2, h3⟩ := h.uncons
    cases ra with
    | @cons _ q _ qs r1 r2 =>
      obtain ⟨e1, e2⟩ := r1
      obtain ⟨k, v⟩ := q
      have e1 : kv.1 = k := e1
      have ih := hits_data I hu rb rl fl r2 h3 fun x hx => fe x (List.mem_cons_of_mem _ hx)
      have vr := rb.val k
      rw [← e1, h1] at vr
      rw [← e1, h1]
      unfold tabAll
      rcases rl.val (keyD e) with ⟨f, u, q1, q2, q3⟩ | ⟨q1, q2⟩
      · rw [q1]
        rw [q2] at vr
        obtain ⟨y, hy, ry⟩ := vr.some_of
        obtain ⟨as1, rd1⟩ := Dd.reads I e kv.2 v h2 e2
        obtain ⟨as2, rd2⟩ := Dd.reads I f u y q3 ry
        have fe0 := fe e List.mem_cons_self
        exact .hit hy (PySem.SeqAt.eqAt_plain e f A s v y as1 as2 rd1 rd2 fe0.1 (fl f (findE_some q1).1) (by have := Nat.min_le_left e.depth f.depth; omega)) ih
      · rw [q1]
        rw [q2] at vr
        rw [Bool.false_and]
        exact .miss vr.none_of
def rEqT (K : PySem.W.Frag) : R2 := fun x y H Q => ∃ a b ks ls es fs, x = .ref a ∧ y = .ref b ∧ H a = some (.dK ks) ∧ H b = some (.dK ls) ∧ RowsK K H ks es ∧ RowsK K H ls fs ∧ (∀ e ∈ es, e.plain = true ∧ e.depth ≤ 50) ∧ (∀ f ∈ fs, f.plain = true) ∧ Q (.bl (eqTab es fs)) H
theorem k_eqT {X : Cx} {K : PySem.W.Frag} (hu : X.A.units + 64 < cLine) (e : X.K = K := by rfl) : OpR X (compareOp .Eq) (rEqT K) := by
  subst e
  intro pn s σ H x y v u Q I rx ry h
  obtain ⟨a, b, ks, ls, es, fs, rfl, rfl, ea, eb, r1, r2, f1, f2, q⟩ := h
  cases rx
  cases ry
  obtain ⟨_, ya, va, ra, da⟩ := (show ObjOk X.prog X.w H s.heap a (.dK ks) from I.hok a _ ea)
  obtain ⟨_, yb, vb, rb, db⟩ := (show ObjOk X.prog X.w H s.heap b (.dK ls) from I.hok b _ eb)
  refine PySem.W.keq_eq (knd := mixKind X.prog X.w) (r := tabAll fs es) ya yb da db (by omega) (fun _ => hits_data I (by show X.A.units + 1 + 60 < cLine; omega) rb r2 f2 ra r1 f1) (fin_bl I q ?_)
  unfold eqTab
  rw [← ra.length, ← rb.length, r1.len, r2.len, Bool.beq_eq_decide_eq]
end Tk

set_option Elab.async false
set_option linter.all false
set_option maxRecDepth 100000
set_option maxHeartbeats 4000000
/-! a - xs, a of an own class with __sub__, xs a list or a tuple -/
namespace Tk
open PySem PySem.Spec PyProof.Rows L2
theorem no_sub_list : fillsNumberSlot (.type "list") "sub" = pure false := by kernel_rfl
theorem no_sub_tuple : fillsNumberSlot (.type "tuple") "sub" = pure false := by kernel_rfl
theorem sub_rich {prog : Program} {w : World} {A : Around} {E : Value → Shared → Prop} {s : Shared} {K : PySem.W.Frag} {x y C f : Addr} {ox : Obj} {od : Option Obj} {n : String} {R : Value → Shared → Prop} (Z : K.In s.heap) (I : PySem.W.InstAt s.heap x ox C od) (hb : s.TypeIs (.ref y) n)
    (hn : fillsNumberSlot (.type n) "sub" = pure false) (hc : PySem.W.selfFirst K C = true) (hs : PySem.W.findIn K (.ref C) "__sub__" = some (some (.ref f))) (hf : PySem.W.isFn K (.ref f) = true)
    (k : wpAny (model prog w) A (call (.ref f) [.ref x, .ref y]) (PySem.W.CmpBack R) E s) : wpAny (model prog w) A (binaryOp .Sub (.ref x) (.ref y)) R E s := by
  obtain ⟨cd, hcd, hm⟩ := PySem.W.any_some hc
  obtain ⟨rest, hm⟩ : ∃ rest, cd.mro = .ref C :: rest := by
    cases q : cd.mro with
    | nil => rw [q] at hm; cases hm
    | cons a r =>
      rw [q, List.head?_cons] at hm
      cases beq_iff_eq.mp hm
      exact ⟨r, rfl⟩
  unfold binaryOp
  refine wpAny_holding (wpAny_bind ?_)
  unfold binaryOp1
  refine wpAny_bind (I.type.here (wpAny_bind (wpAny_typeOf hb (wpAny_bind ((PySem.W.fills_K (nm := "sub") Z hcd hm hs).here ?_)))))
  rw [show ((Value.ref C) == Value.type n) = false from rfl]
  simp only [Bool.false_eq_true, if_false]
  refine wpAny_bind (wpAny_of_eq hn ?_)
  simp only [Bool.and_false, Bool.false_eq_true, if_false, Bool.false_and]
  refine wpAny_bind (wpAny_pure ?_)
  simp only [Bool.false_eq_true, if_false]
  refine wpAny_bind (m := tryMethod (.ref x) _ (.ref y)) ?_
  unfold tryMethod
  refine wpAny_bind (PySem.W.special_fn Z I hs (beq_iff_eq.mp hf) (wpAny_mono k (fun v t hv => ?_) fun _ _ e => e))
  cases v <;> first | exact hv.elim | exact wpAny_pure (wpAny_pure (wpAny_pure hv))
section
variable {X : Cx} {CX : CXT} {n : Nat} {C g : Addr} {sp : Sp} {E : XK}
def rSubSeq (C : Addr) (sp : Sp) (E : XK) : R2 := fun x y H Q => ∃ (a p dx : Addr) (fs : List (Str × V)) (xs : List V), x = .ref a ∧ y = .ref p ∧ H a = some (.ins C dx fs) ∧ SeqO H p xs ∧ sp [.ref a, .ref p] H Q E
theorem k_subSeq (o : Own X.K C "__sub__" g) (hc : PySem.W.selfFirst X.K C = true) (F : FnR X.prog X.w X.K X.mg X.base CX n g sp) (hr : Room n X.A) (hx : Passes CX X E) : OpR X (binaryOp .Sub) (rSubSeq C sp E) := by
  intro pn s σ H x y v u Q I rx ry h
  obtain ⟨a, p, dx, fs, xs, rfl, rfl, ha, hp, q⟩ := h
  cases rx
  cases ry
  obtain ⟨od, J⟩ := ins_at I ha
  have run := wpAny_call (run_fnR (us := [.ref a, .ref p]) (vs := [.ref a, .ref p]) F hr hx I (.cons rfl (.cons rfl .nil)) q)
  have back : wpAny (model X.prog X.w) X.A (call (.ref g) [.ref a, .ref p]) (PySem.W.CmpBack (EP X pn σ Q)) X.xe s := wpAny_mono run (fun w t z => by
    obtain ⟨z', H', I', rz, qz⟩ := z
    exact SlX.cmpback rz ⟨z', H', I', rz, qz⟩) fun _ _ z => z
  rcases hp with hp | hp
  · obtain ⟨its, _, ⟨ob, _, h1, h2, _⟩, _⟩ := I.list (SqL.of hp)
    exact sub_rich (n := "list") I.kIn J ⟨ob, h1, h2⟩ no_sub_list hc o.at_ o.fn back
  · obtain ⟨its, _, ⟨ob, h1, h2, _⟩, _⟩ := I.tuple (SqT.of hp)
    exact sub_rich (n := "tuple") I.kIn J ⟨ob, h1, h2⟩ no_sub_tuple hc o.at_ o.fn back
end
end Tk

set_option Elab.async false
set_option linter.all false
set_option maxRecDepth 100000
set_option maxHeartbeats 4000000
/-! list(d.values()) -/
namespace Tk
open PySem PySem.Spec PyProof.Rows L2
theorem kv_vals : ∀ {kvs : List (Key × V)} {vs : List (Key × Value)}, KV kvs vs → Vals (kvs.map (·.2)) (vs.map (·.2))
  | [], _, h => by
    cases h
    exact .nil
  | _ :: _, _, h => by
    cases h with
    | cons r1 r2 => exact .cons r1.2 (kv_vals r2)
def tLV (td : TE) : TE := fun σ H Q => td σ H fun x H1 => ∃ (d : Addr) (kvs : List (Key × V)), x = .ref d ∧ H1 d = some (.dK kvs) ∧ ∀ p, H1 p = none → Q (.ref p) (upd H1 p (.lst (kvs.map (·.2))))
theorem r_lv {td : TE} {σ : L2.St} {H : Hp} {Q : VK} (h : td σ H fun x H1 => ∃ (d : Addr) (kvs : List (Key × V)), x = .ref d ∧ H1 d = some (.dK kvs) ∧ ∀ p, H1 p = none → Q (.ref p) (upd H1 p (.lst (kvs.map (·.2))))) : tLV td σ H Q := h
theorem pe_lv {X : Cx} {e : Expr} {td : TE} {p pos apos cpos : Pos} (he : PE X e td) (hcalm : X.calm = true) (hg : Gl X "list") (hm : X.mg "list" = none)
    (hbase : attributeBase e "values" X.env (eval e X.env) = eval e X.env := by rfl) (hline : (apos.endLine == cpos.line) = true := by rfl)
    (hs : starEach [Expr.Call (.Attribute e "values" apos) [] [] cpos] X.env = [(false, eval (.Call (.Attribute e "values" apos) [] [] cpos) X.env)] := by rfl) : PE X (.Call (.Name "list" p) [.Call (.Attribute e "values" apos) [] [] cpos] [] pos) (tLV td) := by
  refine ⟨fun pins s σ H Q I h => ?_⟩
  refine wpAny_Call_Name_kw (ld_blt I hg hm PyProof.Rows.boot_list ?_)
  refine PyProof.Rows.callWith_type1 ?_ hs rfl
  rw [hs]
  refine Calls.spliced_cons ?_
  refine wpAny_Call_method (T := "dict") (id := "dict.values") hbase rfl hline F.plainAttrs_dict F.slot_dict_values F.type_dict_values (thn (he.run pins s σ H _ I h) fun u s1 ⟨x, H1, I1, rx, d, kvs, ex, hd, q⟩ => ?_)
  subst ex
  obtain rfl : u = Value.ref d := rx
  obtain ⟨z, lo, vs, kv, hm⟩ := dk_of I1.hok hd
  have hl : kvs.length = vs.length := Paired.length kv
  refine ⟨hm.typeIs, hm.mapOf.noDict, ?_⟩
  have I2 : Inv X pins σ H1 { s1 with heap := s1.heap.push { cls := .type "dict_values", data := .fields #[.ref d] } } := I1.kept (t' := s1.toks) fun b ob q => Heap.get?_push_of_some _ q
  obtain ⟨ep, hat⟩ := hm.dictAt
  have lst : wpAny (model X.prog X.w) X.A (call (.type "list") [.ref s1.heap.objs.size]) (EP X pins σ Q) X.xe { s1 with heap := s1.heap.push { cls := .type "dict_values", data := .fields #[.ref d] } } := by
    refine PySem.W.kdl_call (PySem.W.kdl_values (knd := mixKind X.prog X.w) (kvs := vs) (ep := ep)) (I.ok.hd hcalm) ⟨⟨_, Heap.get?_push_size _ rfl, rfl, rfl⟩, hat.push _⟩ (by rw [← hl]; exact z) fun h' tk acc c' hk hD hacc => ?_
    have ev : acc.toList = vs.map (·.2) := PySem.W.kdl_vals_eq acc.toList (by rw [Array.length_toList]; exact hacc.1) fun j v e => hacc.2 j v (by rw [← Array.getElem?_toList]; exact e)
    exact ⟨.ref _, upd H1 _ (.lst (kvs.map (·.2))), I2.laid (t' := tk) hk (Nat.le_refl _) (show ObjOk X.prog X.w _ _ _ (.lst (kvs.map (·.2))) from ⟨by rw [List.length_map]; exact z, acc.toList, c', by rw [ev]; exact kv_vals kv, by rw [Array.toArray_toList]; exact hD⟩), rfl, q _ (I2.hok.fresh (Nat.le_refl _))⟩
  show wpAny _ _ (callWith cpos (.builtin "dict.values") [.ref d] [] []) _ X.xe s1
  exact method_meetsIn F.slot_dict_values F.entry_dict_values rfl (PySem.evalArgs_none ⟨rfl, hm.typeIs, F.args_dict_values_1 _, _, meets_dict_values (mixKind X.prog X.w) d lo, ⟨vs, hm⟩, Calls.spliced_nil lst⟩)
end Tk

set_option Elab.async false
set_option linter.all false
set_option maxRecDepth 100000
set_option maxHeartbeats 4000000
/-! sorted(xs), xs entries with different keys -/
namespace Tk
open PySem PySem.Spec PyProof.Rows L2
/-- v is a tuple that begins with the text k -/
def IsK (h : Heap) (v : Value) (k : Str) : Prop := ∃ a o t rest n, v = .ref a ∧ h.get? a = some o ∧ o.cls = .type "tuple" ∧ o.data = .seq (Value.str k t :: rest).toArray n
theorem IsK.keeps {h h' : Heap} {v : Value} {k : Str} (p : IsK h v k) (q : ∀ b o, h.get? b = some o → o.cls = .type "tuple" → h'.get? b = some o) : IsK h' v k := by
  obtain ⟨a, o, t, rest, n, e, ho, hc, hd⟩ := p
  exact ⟨a, o, t, rest, n, e, q _ _ ho hc, hc, hd⟩
def kvH (h : Heap) : Value → Str
  | .ref a => match h.get? a with
    | some o => match o.data with
      | .seq xs _ => match xs.toList with
        | .str k _ :: _ => k
        | _ => Str.empty
      | _ => Str.empty
    | none => Str.empty
  | _ => Str.empty
theorem IsK.kv {h : Heap} {v : Value} {k : Str} (p : IsK h v k) : kvH h v = k := by
  obtain ⟨a, o, t, rest, n, rfl, ho, hc, hd⟩ := p
  unfold kvH
  dsimp only
  rw [ho]
  dsimp only
  rw [hd]
section
variable {prog : Program} {w : World} {A : Around} {E : Value → Shared → Prop} {s : Shared}
theorem kat_self {b fin : Bool} {Q : Bool → Shared → Prop} : ∀ (l : List Value) (i : Nat), Q fin s → PySem.W.KatLex prog w A b fin Q (l.zip l) i s
  | [], _, h => PySem.W.kat_nil h
  | v :: l, i, h => PySem.W.kat_cons (SeqAt.EqAt.same v prog w _ _ (PySem.W.kat_yes (kat_self l (i + 1) h)))
abbrev ltK (k : Value → Str) : Value → Value → Bool := fun v u => decide ((k v).cps.toList < (k u).cps.toList)
theorem swo_key (k : Value → Str) : SrtO.Swo (ltK k) := by
  refine ⟨fun x y h => ?_, fun x y z h1 h2 => ?_⟩
  · exact decide_eq_false fun z => List.lt_irrefl _ (List.lt_trans (of_decide_eq_true h) z)
  · have a := List.not_lt.mp (of_decide_eq_false h1)
    have b := List.not_lt.mp (of_decide_eq_false h2)
    exact decide_eq_false (List.not_lt.mpr (List.le_trans a b))
theorem key_cmp {vs : List Value} {k : Value → Str} (hp : ∀ v ∈ vs, IsK s.heap v (k v)) (inj : ∀ v ∈ vs, ∀ u ∈ vs, k v = k u → v = u) : SrtO.Cmp prog w A s (tuples' true) (fun p => p.1 ∈ vs) (SrtO.lt2 (ltK k)) := by
  intro p q hm hm'
  show wpAny (model prog w) A (keyLt' (tuples' true) p.1 q.1) (fun r s' => s' = s ∧ r = decide ((k p.1).cps.toList < (k q.1).cps.toList)) (fun _ _ => False) s
  have h1 := hp _ hm
  have h2 := hp _ hm'
  by_cases e : k p.1 = k q.1
  · have e2 := inj _ hm _ hm' e
    rw [← e2]
    obtain ⟨a, o, t, rest, n, ea, ho, hc, hd⟩ := h1
    rw [ea]
    refine PySem.W.kat_lt ho hd ho hd ?_
    refine kat_self _ 0 ⟨rfl, ?_⟩
    rw [decide_eq_false (Nat.lt_irrefl _), decide_eq_false (List.lt_irrefl _)]
  · generalize hx : k p.1 = x at h1 e ⊢
    generalize hy : k q.1 = y at h2 e ⊢
    obtain ⟨a, o, t, rest, n, ea, ho, hc, hd⟩ := h1
    obtain ⟨a', o', t', rest', n', ea', ho', hc', hd'⟩ := h2
    rw [ea, ea']
    refine PySem.W.kat_lt ho hd ho' hd' ?_
    show PySem.W.KatLex prog w A true _ _ ((Value.str x t, Value.str y t') :: rest.zip rest') 0 s
    refine PySem.W.kat_cons (SeqAt.EqAt.str_str x t y t' prog w _ _ ?_)
    refine PySem.W.kat_go (fun z => ?_) (fun _ => ?_)
    · exact absurd (by simpa using z) e
    · exact PySem.W.kat_no (PyProof.Rows.oneLt_str ⟨rfl, rfl⟩)
theorem firsts_key {h : Heap} {k : Value → Str} : ∀ {vs : List Value}, (∀ v ∈ vs, IsK h v (k v)) → ∃ fs : List Value, PySem.W.KatTups h vs fs ∧ fs.length = vs.length ∧ ∀ f ∈ fs, ∃ x t, f = Value.str x t
  | [], _ => ⟨[], PySem.W.KatTups.nil, rfl, fun _ hm => by simp at hm⟩
  | v :: vs, hp => by
    obtain ⟨fs, h1, h2, h3⟩ := firsts_key (vs := vs) fun v' hm => hp v' (List.mem_cons_of_mem _ hm)
    obtain ⟨a, o, t, rest, n, e, ho, hc, hd⟩ := hp v (List.mem_cons_self ..)
    generalize k v = x at hd
    subst e
    refine ⟨.str x t :: fs, PySem.W.KatTups.cons ho hc hd rfl h1, by rw [List.length_cons, List.length_cons, h2], fun f hm => ?_⟩
    rcases List.mem_cons.mp hm with rfl | hm
    · exact ⟨x, t, rfl⟩
    · exact h3 f hm
theorem keys_sortable {a : Addr} {vs : List Value} {k : Value → Str} (h0 : 0 < vs.length) (hp : ∀ v ∈ vs, IsK s.heap v (k v)) (inj : ∀ v ∈ vs, ∀ u ∈ vs, k v = k u → v = u) (ha : ∀ o, s.heap.get? a = some o → o.cls ≠ .type "tuple") : SrtO.SortableO prog w A s a vs (ltK k) := by
  intro h' keep
  have hp' : ∀ v ∈ vs, IsK h' v (k v) := fun v hm => (hp v hm).keeps fun b o e c => keep b o (fun z => by subst z; exact ha o e c) e
  obtain ⟨fs, h1, h2, h3⟩ := firsts_key hp'
  refine ⟨tuples' true, fun Q E hq => ?_, key_cmp (s := { s with heap := h' }) hp' inj⟩
  refine PySem.W.kat_kind (T := .type "str") h1 (by omega) (fun f hm => ?_) (by rfl) ?_
  · obtain ⟨x, t, rfl⟩ := h3 f hm
    exact PySem.W.Looks.now
  · have e : (Value.type "str" != Value.type "tuple") = true := by first | decide +kernel | rfl | decide
    rw [e]
    exact hq
end
theorem dd_perm {K : PySem.W.Frag} {H : Hp} {xs ys : List V} (p : ys.Perm xs) : ∀ {es : List PyData}, DdAll K H xs es → ∃ fs, fs.Perm es ∧ DdAll K H ys fs := by
  induction p with
  | nil => intro es h; exact ⟨es, .refl _, h⟩
  | cons x _ ih =>
    intro es h
    cases h with
    | cons h1 h2 =>
      obtain ⟨fs, a, b⟩ := ih h2
      exact ⟨_, a.cons _, .cons h1 b⟩
  | swap x y l =>
    intro es h
    cases h with
    | cons h1 h2 =>
      cases h2 with
      | cons h3 h4 => exact ⟨_, List.Perm.swap .., .cons h3 (.cons h1 h4)⟩
  | trans _ _ ih1 ih2 =>
    intro es h
    obtain ⟨fs, a, b⟩ := ih2 h
    obtain ⟨gs, c, d⟩ := ih1 b
    exact ⟨gs, c.trans a, d⟩
section
variable {X : Cx} {pn : List (Addr × Obj)} {σ : L2.St} {H : Hp} {s : Shared}
theorem ent_key (I : Inv X pn σ H s) {a : Addr} {e : PyData} (hd : Dd X.K H (.ref a) e) (he : entryD e = true) : IsK s.heap (.ref a) (keyD e) := by
  obtain ⟨k, n, o, v, rfl, _⟩ := entry_is he
  cases hd with
  | tup ea al =>
    cases al with
    | cons h0 _ =>
      cases h0
      obtain ⟨_, its, rv, ob, h1, h2, m, h3⟩ := (show ObjOk X.prog X.w H s.heap a (.tup _) from I.hok a _ ea)
      cases rv with
      | cons r _ =>
        obtain ⟨t, rfl⟩ := r
        exact ⟨a, ob, t, _, m, rfl, h1, h2, h3⟩
theorem keys_out (I : Inv X pn σ H s) : ∀ {out : List Value} {fs : List PyData}, (∀ u ∈ out, ∃ a, u = Value.ref a) → DdAll X.K H (out.map backV) fs → (∀ e ∈ fs, entryD e = true) → out.map (kvH s.heap) = fs.map keyD
  | [], _, _, h, _ => by
    cases h
    rfl
  | u :: out, _, hu, h, he => by
    obtain ⟨a, rfl⟩ := hu u List.mem_cons_self
    cases h with
    | cons h1 h2 =>
      rw [List.map_cons, List.map_cons, (ent_key I h1 (he _ List.mem_cons_self)).kv, keys_out I (fun u hm => hu u (List.mem_cons_of_mem _ hm)) h2 fun e hm => he e (List.mem_cons_of_mem _ hm)]
end
theorem map_inj_of_nodup {α β : Type} {f : α → β} : ∀ {l : List α}, (l.map f).Nodup → ∀ x ∈ l, ∀ y ∈ l, f x = f y → x = y
  | [], _, _, h, _, _, _ => nomatch h
  | a :: l, nd, x, hx, y, hy, e => by
    rw [List.map_cons, List.nodup_cons] at nd
    rcases List.mem_cons.mp hx with h1 | h1
    · rcases List.mem_cons.mp hy with h2 | h2
      · rw [h1, h2]
      · exact (nd.1 (List.mem_map.mpr ⟨y, h2, by rw [← e, h1]⟩)).elim
    · rcases List.mem_cons.mp hy with h2 | h2
      · exact (nd.1 (List.mem_map.mpr ⟨x, h1, by rw [e, h2]⟩)).elim
      · exact map_inj_of_nodup nd.2 x h1 y h2 e
def rSortE (K : PySem.W.Frag) : List V → Hp → VK → Prop := fun vs H Q => ∃ (a : Addr) (xs : List V) (es : List PyData), vs = [.ref a] ∧ H a = some (.lst xs) ∧ DdAll K H xs es ∧ GoodE es ∧
  ∀ (ys : List V) (fs : List PyData) (p : Addr), SortE es fs → DdAll K H ys fs → H p = none → Q (.ref p) (upd H p (.lst ys))
theorem k_sortE {X : Cx} {K : PySem.W.Frag} (e : X.K = K := by rfl) : CallR X (.builtin "sorted") (rSortE K) := by
  subst e
  intro pins s σ H vs us Q I r h
  obtain ⟨a, xs, es, rfl, ha, al, g, q⟩ := h
  obtain ⟨its, rv, hl, hz⟩ := I.list (SqL.of ha)
  rw [Vals.ref1 r]
  obtain ⟨e1, e2⟩ := refs_back rv fun x m => by
    obtain ⟨i, hi⟩ := List.mem_iff_getElem?.mp m
    obtain ⟨d, hd, dd⟩ := dd_get al hi
    obtain ⟨k, n, o, v, rfl, _⟩ := entry_is (g.all d (List.mem_of_getElem? hd))
    cases dd with
    | tup _ _ => exact ⟨_, rfl⟩
  have hkeys : its.map (kvH s.heap) = es.map keyD := keys_out I e2 (by rw [← e1]; exact al) g.all
  have hp : ∀ v ∈ its, IsK s.heap v (kvH s.heap v) := fun v hv => by
    obtain ⟨t, rfl⟩ := e2 v hv
    have hm : V.ref t ∈ xs := by rw [e1]; exact List.mem_map.mpr ⟨_, hv, rfl⟩
    obtain ⟨i, hi⟩ := List.mem_iff_getElem?.mp hm
    obtain ⟨d, hd, dd⟩ := dd_get al hi
    have z := ent_key I dd (g.all d (List.mem_of_getElem? hd))
    rw [z.kv]
    exact z
  have inj := map_inj_of_nodup (f := kvH s.heap) (l := its) (by rw [hkeys]; exact g.nd)
  refine SrtO.sorted_ord (swo_key (kvH s.heap)) hl.isList (by rw [← rv.length]; exact hz) (fun h2 h₁ b hb kk => ?_) fun out h1 h2 => ?_
  · refine keys_sortable (s := { s with heap := h₁ }) (by omega) (fun v hm => (hp v hm).keeps fun b o e _ => (kk b o e).2) inj fun o e => ?_
    have e' : some o = some (seqObj "list" its.toArray 0) := e.symm.trans hb
    cases e'
    intro c
    exact absurd (Value.type.inj c) (by decide)
  · have h3 : ∀ u ∈ out, ∃ a, u = Value.ref a := fun u hu => e2 u (h2.perm.mem_iff.mp hu)
    have hpm : (out.map backV).Perm xs := by rw [e1]; exact h2.perm.map backV
    obtain ⟨fs, pf, df⟩ := dd_perm hpm al
    have hk2 : out.map (kvH s.heap) = fs.map keyD := keys_out I h3 df fun e he => g.all e (pf.mem_iff.mp he)
    have hlen : (out.map backV).length ≤ sizeLine := by rw [hpm.length_eq]; exact hz
    obtain ⟨ep, he'⟩ := PyProof.Rows.sortedAll_at s.heap its out.toArray
    refine ⟨.ref _, upd H (s.heap.objs.size + 1) (.lst (out.map backV)), I.laid (t' := s.toks) (fun _ _ => PyProof.Rows.sortedAll_old) (Nat.le_succ _) ⟨hlen, out, ep, vals_back h3, he'⟩, rfl, q _ fs _ ⟨pf, ?_⟩ df (I.hok.fresh (Nat.le_succ _))⟩
    have nd : (fs.map keyD).Nodup := (pf.map keyD).nodup_iff.mpr g.nd
    rw [← hk2] at nd ⊢
    have st : (out.map (kvH s.heap)).Pairwise fun x y => ¬ ltS y x := List.pairwise_map.mpr (h1.imp fun {x y} z => of_decide_eq_false (p := (kvH s.heap y).cps.toList < (kvH s.heap x).cps.toList) z)
    refine (List.Pairwise.and st nd).imp fun {x y} z => ?_
    by_cases c : ltS x y
    · exact c
    · exact absurd (ltS_tot c z.1) z.2
end Tk

set_option Elab.async false
set_option linter.all false
set_option maxRecDepth 100000
set_option maxHeartbeats 4000000
/-! contents as data: what stands at each key tells all -/
namespace Tk
open PySem PySem.Spec PyProof.Rows L2
/-- e's stamp is less than f's -/
def ltE (e f : PyData) : Bool := stLt (stampOf e) (stampOf f)
def newerD (e f : PyData) : PyData := if ltE e f then f else e
def olderD (e f : PyData) : PyData := if ltE f e then f else e
/-! ### stamps are in one order -/
def numOf : PyData → Int
  | .tuple [_, .tuple [.int n, _], _] => n
  | _ => 0
def ownOf : PyData → Str
  | .tuple [_, .tuple [_, .str o], _] => o
  | _ => Str.empty
theorem ltE_is {e f : PyData} (he : entryD e = true) (hf : entryD f = true) : ltE e f = ltT (numOf e) (ownOf e) (numOf f) (ownOf f) := by
  obtain ⟨k, n, o, v, rfl, _⟩ := entry_is he
  obtain ⟨k', n', o', v', rfl, _⟩ := entry_is hf
  rfl
theorem ltT_iff {n m : Int} {a b : Str} : ltT n a m b = true ↔ n < m ∨ (n = m ∧ ltS a b) := by
  unfold ltT
  rw [Bool.or_eq_true, Bool.and_eq_true, decide_eq_true_eq, decide_eq_true_eq, decide_eq_true_eq]
  rfl
theorem ltE_iff {e f : PyData} (he : entryD e = true) (hf : entryD f = true) : ltE e f = true ↔ numOf e < numOf f ∨ (numOf e = numOf f ∧ ltS (ownOf e) (ownOf f)) := by rw [ltE_is he hf, ltT_iff]
theorem ltE_irr {e : PyData} (he : entryD e = true) : ltE e e = false := by
  cases h : ltE e e with
  | false => rfl
  | true =>
    rcases (ltE_iff he he).mp h with z | ⟨_, z⟩
    · omega
    · exact absurd z (ltS_irr _)
theorem ltE_tr {e f g : PyData} (he : entryD e = true) (hf : entryD f = true) (hg : entryD g = true) (a : ltE e f = true) (b : ltE f g = true) : ltE e g = true := by
  rw [ltE_iff he hf] at a
  rw [ltE_iff hf hg] at b
  rw [ltE_iff he hg]
  rcases a with a | ⟨a1, a2⟩ <;> rcases b with b | ⟨b1, b2⟩
  · exact .inl (by omega)
  · exact .inl (by omega)
  · exact .inl (by omega)
  · exact .inr ⟨by omega, ltS_tr a2 b2⟩
/-- neither is less: the same stamp -/
theorem ltE_tot {e f : PyData} (he : entryD e = true) (hf : entryD f = true) (a : ltE e f = false) (b : ltE f e = false) : stampOf e = stampOf f := by
  have a' : ¬ ltE e f = true := by rw [a]; decide
  have b' : ¬ ltE f e = true := by rw [b]; decide
  rw [ltE_iff he hf] at a'
  rw [ltE_iff hf he] at b'
  have c1 : numOf e = numOf f := by omega
  have c2 : ownOf e = ownOf f := ltS_tot (fun z => a' (.inr ⟨c1, z⟩)) (fun z => b' (.inr ⟨c1.symm, z⟩))
  obtain ⟨k, n, o, v, rfl, _⟩ := entry_is he
  obtain ⟨k', n', o', v', rfl, _⟩ := entry_is hf
  show PyData.tuple [.int n, .str o] = .tuple [.int n', .str o']
  rw [show n = n' from c1, show o = o' from c2]
theorem ltE_st {e f g : PyData} (h : stampOf e = stampOf f) : ltE e g = ltE f g ∧ ltE g e = ltE g f := by
  unfold ltE
  rw [h]
  exact ⟨rfl, rfl⟩
/-! ### or, and, minus, within -/
def orE (es fs : List PyData) : List PyData := es.foldl (fun cur e => putE cur (newerD e ((findE cur (keyD e)).getD e))) fs
def andE (es fs : List PyData) : List PyData := es.filterMap fun e => (findE fs (keyD e)).map (olderD e)
def subE (es : List PyData) (p : Str → Bool) : List PyData := es.filter fun e => !p (keyD e)
def withinE (es fs : List PyData) : Bool := es.all fun e => match findE fs (keyD e) with | some f => !ltE f e | none => false
def orF (a b : Option PyData) : Option PyData := match a, b with
  | some e, some f => some (newerD e f)
  | some e, none => some e
  | none, b => b
def andF (a b : Option PyData) : Option PyData := match a, b with
  | some e, some f => some (olderD e f)
  | _, _ => none
theorem newer_or (e f : PyData) : newerD e f = e ∨ newerD e f = f := by unfold newerD; split <;> simp
theorem older_or (e f : PyData) : olderD e f = e ∨ olderD e f = f := by unfold olderD; split <;> simp
theorem newer_self (e : PyData) : newerD e e = e := by unfold newerD; split <;> rfl
theorem older_self (e : PyData) : olderD e e = e := by unfold olderD; split <;> rfl
theorem findE_app (es fs : List PyData) (k : Str) : findE (es ++ fs) k = (findE es k).or (findE fs k) := by
  unfold findE
  rw [List.find?_append]
theorem findE_map {e : PyData} : ∀ {es : List PyData} (k : Str), (findE es (keyD e)).isSome = true → findE (es.map fun x => if keyD x = keyD e then e else x) k = if keyD e = k then some e else findE es k
  | [], k, h => by cases h
  | x :: es, k, h => by
    rw [List.map_cons, findE_cons, findE_cons]
    by_cases c : keyD x = keyD e
    · rw [if_pos c]
      by_cases d : keyD e = k
      · rw [if_pos d, if_pos d]
      · rw [if_neg d, if_neg d, if_neg (by rw [c]; exact d)]
        by_cases z : (findE es (keyD e)).isSome = true
        · rw [findE_map k z, if_neg d]
        · congr 1
          refine (List.map_congr_left (g := id) fun y hy => ?_).trans (List.map_id _)
          rw [if_neg]
          · rfl
          · intro q
            apply z
            unfold findE
            rw [List.find?_isSome]
            exact ⟨y, hy, by simpa using q⟩
    · rw [if_neg c]
      rw [findE_cons, if_neg c] at h
      by_cases d : keyD x = k
      · rw [if_pos d, if_pos d, if_neg (by rw [← d]; exact fun z => c z.symm)]
      · rw [if_neg d, if_neg d]
        exact findE_map k h
theorem findE_put (es : List PyData) (e : PyData) (k : Str) : findE (putE es e) k = if keyD e = k then some e else findE es k := by
  unfold putE
  by_cases h : (findE es (keyD e)).isSome = true
  · rw [if_pos h]
    exact findE_map k h
  · rw [if_neg h, findE_app]
    have hn : findE es (keyD e) = none := by simpa using h
    have e1 : findE [e] k = if keyD e = k then some e else none := by rw [findE_cons]; rfl
    rw [e1]
    by_cases c : keyD e = k
    · rw [if_pos c, if_pos c, ← c, hn]; rfl
    · rw [if_neg c, if_neg c]; cases findE es k <;> rfl
theorem putE_good {es : List PyData} {e : PyData} (g : GoodE es) (he : entryD e = true) : GoodE (putE es e) := by
  unfold putE
  by_cases h : (findE es (keyD e)).isSome = true
  · rw [if_pos h]
    have ek : (es.map fun x => if keyD x = keyD e then e else x).map keyD = es.map keyD := by
      rw [List.map_map]
      refine List.map_congr_left fun x _ => ?_
      show keyD (if keyD x = keyD e then e else x) = keyD x
      by_cases c : keyD x = keyD e
      · rw [if_pos c, c]
      · rw [if_neg c]
    refine ⟨fun x hx => ?_, by rw [ek]; exact g.nd⟩
    obtain ⟨y, hy, rfl⟩ := List.mem_map.mp hx
    by_cases c : keyD y = keyD e
    · rw [if_pos c]; exact he
    · rw [if_neg c]; exact g.all y hy
  · rw [if_neg h]
    have hn : findE es (keyD e) = none := by simpa using h
    refine ⟨fun x hx => ?_, ?_⟩
    · rcases List.mem_append.mp hx with hx | hx
      · exact g.all x hx
      · rw [List.mem_singleton.mp hx]; exact he
    · rw [List.map_append, List.nodup_append]
      refine ⟨g.nd, by simp, fun a ha b hb z => ?_⟩
      obtain ⟨x, hx, rfl⟩ := List.mem_map.mp ha
      have hb' : b = keyD e := by simpa using hb
      exact findE_none hn x hx (z.trans hb')
theorem putE_len (es : List PyData) (e : PyData) : (putE es e).length ≤ es.length + 1 := by
  unfold putE
  split
  · rw [List.length_map]; omega
  · rw [List.length_append]; simp
theorem findE_good {es : List PyData} (g : GoodE es) {k : Str} {e : PyData} (h : findE es k = some e) : entryD e = true := g.all e (findE_some h).1
/-- one turn of or -/
def orStep (cur : List PyData) (e : PyData) : List PyData := putE cur (newerD e ((findE cur (keyD e)).getD e))
theorem orStep_key (cur : List PyData) (e : PyData) : keyD (newerD e ((findE cur (keyD e)).getD e)) = keyD e := by
  rcases newer_or e ((findE cur (keyD e)).getD e) with h | h <;> rw [h]
  cases q : findE cur (keyD e) with
  | none => rfl
  | some f => exact (findE_some q).2
theorem orStep_ent {cur : List PyData} {e : PyData} (g : GoodE cur) (he : entryD e = true) : entryD (newerD e ((findE cur (keyD e)).getD e)) = true := by
  rcases newer_or e ((findE cur (keyD e)).getD e) with h | h <;> rw [h]
  · exact he
  cases q : findE cur (keyD e) with
  | none => exact he
  | some f => exact findE_good g q
theorem orE_cons (e : PyData) (es fs : List PyData) : orE (e :: es) fs = orE es (orStep fs e) := rfl
theorem orE_good {es : List PyData} : ∀ {fs : List PyData}, (∀ e ∈ es, entryD e = true) → GoodE fs → GoodE (orE es fs) := by
  induction es with
  | nil => intro fs _ g; exact g
  | cons e es ih => intro fs he g; rw [orE_cons]; exact ih (fun x hx => he x (List.mem_cons_of_mem _ hx)) (putE_good g (orStep_ent g (he e List.mem_cons_self)))
theorem orE_len {es : List PyData} : ∀ {fs : List PyData}, (orE es fs).length ≤ es.length + fs.length := by
  induction es with
  | nil => intro fs; show fs.length ≤ 0 + _; omega
  | cons e es ih =>
    intro fs
    have a := ih (fs := orStep fs e)
    have b := putE_len fs (newerD e ((findE fs (keyD e)).getD e))
    rw [orE_cons, List.length_cons]
    show _ ≤ _
    unfold orStep at a
    unfold orStep
    omega
theorem findE_or {es : List PyData} (k : Str) : ∀ {fs : List PyData}, (es.map keyD).Nodup → findE (orE es fs) k = orF (findE es k) (findE fs k) := by
  induction es with
  | nil => intro fs _; rfl
  | cons e es ih =>
    intro fs nd
    rw [List.map_cons, List.nodup_cons] at nd
    rw [orE_cons, ih nd.2, findE_cons]
    unfold orStep
    rw [findE_put, orStep_key]
    by_cases c : keyD e = k
    · rw [if_pos c, if_pos c]
      have hn : findE es k = none := by
        cases q : findE es k with
        | none => rfl
        | some x =>
          have z := findE_some q
          exact absurd (List.mem_map.mpr ⟨x, z.1, by rw [z.2, c]⟩) nd.1
      rw [hn, c]
      show some _ = _
      cases q : findE fs k with
      | none => show some (newerD e e) = some e; rw [newer_self]
      | some f => rfl
    · rw [if_neg c, if_neg c]
theorem andE_keys (es fs : List PyData) : (andE es fs).map keyD = (es.filter fun e => (findE fs (keyD e)).isSome).map keyD := by
  induction es with
  | nil => rfl
  | cons e es ih =>
    unfold andE at ih ⊢
    rw [List.filterMap_cons, List.filter_cons]
    cases q : findE fs (keyD e) with
    | none => exact ih
    | some f =>
      show keyD (olderD e f) :: _ = keyD e :: _
      rw [ih]
      rcases older_or e f with h | h <;> rw [h]
      rw [(findE_some q).2]
theorem andE_good {es fs : List PyData} (g : GoodE es) (h : GoodE fs) : GoodE (andE es fs) := by
  refine ⟨fun x hx => ?_, ?_⟩
  · obtain ⟨e, he, q⟩ := List.mem_filterMap.mp hx
    obtain ⟨f, hf, rfl⟩ := Option.map_eq_some_iff.mp q
    rcases older_or e f with z | z <;> rw [z]
    · exact g.all e he
    · exact findE_good h hf
  · rw [andE_keys]
    exact (List.filter_sublist.map keyD).nodup g.nd
theorem andE_len (es fs : List PyData) : (andE es fs).length ≤ es.length := List.length_filterMap_le _ _
theorem findE_and {fs : List PyData} (k : Str) : ∀ {es : List PyData}, (es.map keyD).Nodup → findE (andE es fs) k = andF (findE es k) (findE fs k)
  | [], _ => rfl
  | e :: es, nd => by
    rw [List.map_cons, List.nodup_cons] at nd
    have ih := findE_and (fs := fs) k nd.2
    unfold andE at ih ⊢
    rw [List.filterMap_cons, findE_cons]
    by_cases c : keyD e = k
    · rw [if_pos c]
      have hn : findE es k = none := by
        cases q : findE es k with
        | none => rfl
        | some x =>
          have z := findE_some q
          exact absurd (List.mem_map.mpr ⟨x, z.1, by rw [z.2, c]⟩) nd.1
      rw [hn] at ih
      rw [c]
      cases q : findE fs k with
      | none => exact ih
      | some f =>
        show findE (olderD e f :: _) k = some (olderD e f)
        rw [findE_cons, if_pos]
        rcases older_or e f with h | h <;> rw [h]
        · exact c
        · exact (findE_some q).2
    · rw [if_neg c]
      cases q : findE fs (keyD e) with
      | none => exact ih
      | some f =>
        show findE (olderD e f :: _) k = _
        rw [findE_cons, if_neg]
        · exact ih
        · rcases older_or e f with h | h <;> rw [h]
          · exact c
          · rw [(findE_some q).2]; exact c
theorem subE_good {es : List PyData} (g : GoodE es) (p : Str → Bool) : GoodE (subE es p) := ⟨fun e he => g.all e (List.mem_filter.mp he).1, (List.filter_sublist.map keyD).nodup g.nd⟩
theorem subE_len (es : List PyData) (p : Str → Bool) : (subE es p).length ≤ es.length := List.length_filter_le _ _
/-! ### what stands at each key tells all -/
def SameE (es fs : List PyData) : Prop := ∀ k, findE es k = findE fs k
theorem mem_find {es : List PyData} (g : GoodE es) (e : PyData) : e ∈ es ↔ findE es (keyD e) = some e := ⟨findE_mem g.nd, fun h => (findE_some h).1⟩
theorem SameE.mem {es fs : List PyData} (h : SameE es fs) (g : GoodE es) (g' : GoodE fs) (e : PyData) : e ∈ es ↔ e ∈ fs := by rw [mem_find g, mem_find g', h]
theorem nodupE {es : List PyData} (g : GoodE es) : es.Nodup := (List.pairwise_map.mp g.nd).imp fun {x y} h z => h (by rw [z])
theorem SameE.perm {es fs : List PyData} (h : SameE es fs) (g : GoodE es) (g' : GoodE fs) : es.Perm fs := (List.perm_ext_iff_of_nodup (nodupE g) (nodupE g')).mpr (h.mem g g')
theorem perm_same {es fs : List PyData} (p : es.Perm fs) (g : GoodE es) (g' : GoodE fs) : SameE es fs := by
  intro k
  cases q : findE es k with
  | some e =>
    obtain ⟨a, b⟩ := findE_some q
    rw [← b]
    exact (findE_mem g'.nd (p.mem_iff.mp a)).symm
  | none =>
    cases r : findE fs k with
    | none => rfl
    | some e =>
      obtain ⟨a, b⟩ := findE_some r
      exact absurd b (findE_none q e (p.mem_iff.mpr a))
theorem sort_same {es fs x y : List PyData} (a : SortE es x) (b : SortE fs y) (h : SameE es fs) (g : GoodE es) (g' : GoodE fs) : x = y := by
  have p := h.perm g g'
  exact SortE.uniq a ⟨b.1.trans p.symm, b.2⟩
theorem eqTab_same {es fs : List PyData} (h : SameE es fs) (g : GoodE es) (g' : GoodE fs) : eqTab es fs = true := by
  unfold eqTab
  rw [decide_eq_true (h.perm g g').length_eq, Bool.true_and]
  have all : ∀ l : List PyData, (∀ e ∈ l, e ∈ es) → tabAll fs l = true := by
    intro l
    induction l with
    | nil => intro _; rfl
    | cons e l ih =>
      intro hl
      unfold tabAll
      have he := hl e List.mem_cons_self
      rw [← h (keyD e), findE_mem g.nd he, ih fun x hx => hl x (List.mem_cons_of_mem _ hx)]
      show (PyData.eqv e e && true) = true
      rw [PySem.SeqAt.eqv_refl_plain e (entry_fl (g.all e he)).2.1]
      rfl
  exact all es fun _ h => h
/-! ### the laws of or and and -/
theorem or_assoc {es fs gs : List PyData} (g1 : GoodE es) (g2 : GoodE fs) (g3 : GoodE gs) : SameE (orE (orE es fs) gs) (orE es (orE fs gs)) := by
  intro k
  rw [findE_or k (orE_good g1.all g2).nd, findE_or k g1.nd, findE_or k g1.nd, findE_or k g2.nd]
  cases q1 : findE es k with
  | none => rfl
  | some e =>
    cases q2 : findE fs k with
    | none => rfl
    | some f =>
      cases q3 : findE gs k with
      | none => rfl
      | some g =>
        have he := findE_good g1 q1
        have hf := findE_good g2 q2
        have hg := findE_good g3 q3
        show some (newerD (newerD e f) g) = some (newerD e (newerD f g))
        congr 1
        unfold newerD
        cases a : ltE e f <;> cases b : ltE f g <;> simp only [Bool.false_eq_true, if_false, if_true, a, b]
        · cases c : ltE e g with
          | false => rfl
          | true =>
            exfalso
            cases d : ltE f e with
            | true => rw [ltE_tr hf he hg d c] at b; cases b
            | false =>
              have z := ltE_tot he hf a d
              rw [(ltE_st (g := g) z).1, b] at c
              cases c
        · rw [ltE_tr he hf hg a b]
          rfl
theorem and_assoc' {es fs gs : List PyData} (g1 : GoodE es) (g2 : GoodE fs) (g3 : GoodE gs) : SameE (andE (andE es fs) gs) (andE es (andE fs gs)) := by
  intro k
  rw [findE_and k (andE_good g1 g2).nd, findE_and k g1.nd, findE_and k g1.nd, findE_and k g2.nd]
  cases q1 : findE es k with
  | none => rfl
  | some e =>
    cases q2 : findE fs k with
    | none => rfl
    | some f =>
      cases q3 : findE gs k with
      | none => rfl
      | some g =>
        have he := findE_good g1 q1
        have hf := findE_good g2 q2
        have hg := findE_good g3 q3
        show some (olderD (olderD e f) g) = some (olderD e (olderD f g))
        congr 1
        unfold olderD
        cases a : ltE f e <;> cases b : ltE g f <;> simp only [Bool.false_eq_true, if_false, if_true, a, b]
        · cases c : ltE g e with
          | false => rfl
          | true =>
            exfalso
            cases d : ltE e f with
            | true => rw [ltE_tr hg he hf c d] at b; cases b
            | false =>
              have z := ltE_tot he hf d a
              rw [(ltE_st (g := g) z).2, b] at c
              cases c
        · rw [ltE_tr hg hf he b a]
          rfl
theorem or_self {es : List PyData} (g : GoodE es) : SameE (orE es es) es := by
  intro k
  rw [findE_or k g.nd]
  cases findE es k with
  | none => rfl
  | some e => show some (newerD e e) = some e; rw [newer_self]
theorem and_self' {es : List PyData} (g : GoodE es) : SameE (andE es es) es := by
  intro k
  rw [findE_and k g.nd]
  cases findE es k with
  | none => rfl
  | some e => show some (olderD e e) = some e; rw [older_self]
/-! ### keys and stamps -/
def stOf (e : PyData) : PyData := .tuple [.str (keyD e), stampOf e]
def StSame (es fs : List PyData) : Prop := ∀ k, (findE es k).map stampOf = (findE fs k).map stampOf
theorem st_same {es fs x y : List PyData} (a : SortE es x) (b : SortE fs y) (h : StSame es fs) (g : GoodE es) (g' : GoodE fs) : x.map stOf = y.map stOf := by
  have gx := a.good g
  have gy := b.good g'
  have hx : SameE es x := perm_same a.1.symm g gx
  have hy : SameE fs y := perm_same b.1.symm g' gy
  have keys : x.map keyD = y.map keyD := by
    refine List.Perm.eq_of_pairwise (le := ltS) (fun p q _ _ h g => absurd (ltS_tr h g) (ltS_irr _)) a.2 b.2 ?_
    refine (List.perm_ext_iff_of_nodup gx.nd gy.nd).mpr fun k => ?_
    have one : ∀ {l : List PyData}, k ∈ l.map keyD ↔ (findE l k).isSome = true := by
      intro l
      unfold findE
      rw [List.find?_isSome, List.mem_map]
      constructor
      · rintro ⟨e, he, rfl⟩
        exact ⟨e, he, by simp⟩
      · rintro ⟨e, he, q⟩
        exact ⟨e, he, by simpa using q⟩
    rw [one, one, ← hx k, ← hy k]
    have := congrArg Option.isSome (h k)
    simpa using this
  have f1 : ∀ l : List PyData, GoodE l → l.map stOf = (l.map keyD).map fun k => .tuple [.str k, ((findE l k).map stampOf).getD .none] := by
    intro l gl
    rw [List.map_map]
    refine List.map_congr_left fun e he => ?_
    show stOf e = .tuple [.str (keyD e), ((findE l (keyD e)).map stampOf).getD .none]
    rw [findE_mem gl.nd he]
    rfl
  rw [f1 x gx, f1 y gy, keys]
  refine List.map_congr_left fun k _ => ?_
  show PyData.tuple [.str k, ((findE x k).map stampOf).getD .none] = _
  rw [← hx k, ← hy k, h k]
theorem or_comm_st {es fs : List PyData} (g1 : GoodE es) (g2 : GoodE fs) : StSame (orE es fs) (orE fs es) := by
  intro k
  rw [findE_or k g1.nd, findE_or k g2.nd]
  cases q1 : findE es k with
  | none => cases q2 : findE fs k <;> rfl
  | some e =>
    cases q2 : findE fs k with
    | none => rfl
    | some f =>
      have he := findE_good g1 q1
      have hf := findE_good g2 q2
      show some (stampOf (newerD e f)) = some (stampOf (newerD f e))
      congr 1
      unfold newerD
      cases a : ltE e f <;> cases b : ltE f e <;> simp only [Bool.false_eq_true, if_false, if_true]
      · exact ltE_tot he hf a b
      · have := ltE_tr he hf he a b
        rw [ltE_irr he] at this
        cases this
theorem and_comm_st {es fs : List PyData} (g1 : GoodE es) (g2 : GoodE fs) : StSame (andE es fs) (andE fs es) := by
  intro k
  rw [findE_and k g1.nd, findE_and k g2.nd]
  cases q1 : findE es k with
  | none => cases q2 : findE fs k <;> rfl
  | some e =>
    cases q2 : findE fs k with
    | none => rfl
    | some f =>
      have he := findE_good g1 q1
      have hf := findE_good g2 q2
      show some (stampOf (olderD e f)) = some (stampOf (olderD f e))
      congr 1
      unfold olderD
      cases a : ltE f e <;> cases b : ltE e f <;> simp only [Bool.false_eq_true, if_false, if_true]
      · exact ltE_tot he hf b a
      · have := ltE_tr hf he hf a b
        rw [ltE_irr hf] at this
        cases this
/-- one & (one | other) has the stamps of one -/
theorem absorb_st {es fs : List PyData} (g1 : GoodE es) (g2 : GoodE fs) : StSame (andE es (orE es fs)) es := by
  intro k
  rw [findE_and k g1.nd, findE_or k g1.nd]
  cases q1 : findE es k with
  | none => rfl
  | some e =>
    have he := findE_good g1 q1
    cases q2 : findE fs k with
    | none => show some (stampOf (olderD e e)) = some (stampOf e); rw [older_self]
    | some f =>
      have hf := findE_good g2 q2
      show some (stampOf (olderD e (newerD e f))) = some (stampOf e)
      congr 1
      unfold newerD
      cases a : ltE e f with
      | false =>
        simp only [Bool.false_eq_true, if_false]
        rw [older_self]
      | true =>
        simp only [if_true]
        unfold olderD
        cases b : ltE f e with
        | false => rfl
        | true =>
          have := ltE_tr he hf he a b
          rw [ltE_irr he] at this
          cases this
theorem within_or {es fs : List PyData} (g1 : GoodE es) (g2 : GoodE fs) : withinE es (orE es fs) = true := by
  unfold withinE
  refine List.all_eq_true.mpr fun e he => ?_
  rw [findE_or _ g1.nd, findE_mem g1.nd he]
  have hee := g1.all e he
  cases q2 : findE fs (keyD e) with
  | none => show (!ltE e e) = true; rw [ltE_irr hee]; rfl
  | some f =>
    have hf := findE_good g2 q2
    show (!ltE (newerD e f) e) = true
    unfold newerD
    cases a : ltE e f with
    | false => simp only [Bool.false_eq_true, if_false]; rw [ltE_irr hee]; rfl
    | true =>
      simp only [if_true]
      cases b : ltE f e with
      | false => rfl
      | true =>
        have := ltE_tr hee hf hee a b
        rw [ltE_irr hee] at this
        cases this
theorem within_and {es fs : List PyData} (g1 : GoodE es) (g2 : GoodE fs) : withinE (andE es fs) fs = true := by
  unfold withinE
  refine List.all_eq_true.mpr fun x hx => ?_
  obtain ⟨e, he, q⟩ := List.mem_filterMap.mp hx
  obtain ⟨f, hf, rfl⟩ := Option.map_eq_some_iff.mp q
  have hee := g1.all e he
  have hff := findE_good g2 hf
  have hk : keyD (olderD e f) = keyD e := by
    rcases older_or e f with z | z <;> rw [z]
    exact (findE_some hf).2
  rw [hk, hf]
  show (!ltE f (olderD e f)) = true
  unfold olderD
  cases a : ltE f e with
  | false => simp only [Bool.false_eq_true, if_false]; rw [a]; rfl
  | true => simp only [if_true]; rw [ltE_irr hff]; rfl
end Tk

set_option Elab.async false
set_option linter.all false
set_option maxRecDepth 100000
set_option maxHeartbeats 4000000
/-! the parts of an entry in the heap -/
namespace Tk
open PySem PySem.Spec PyProof.Rows L2
structure EntAt (K : PySem.W.Frag) (H : Hp) (x : V) (a p : Addr) (k : Str) (n : Int) (o : Str) (v : V) (d e : PyData) : Prop where
  x : x = .ref a
  at_ : H a = some (.tup [.str k, .ref p, v])
  st : H p = some (.tup [.int n, .str o])
  val : Dd K H v d
  e : e = .tuple [.str k, .tuple [.int n, .str o], d]
theorem ent_at {K : PySem.W.Frag} {H : Hp} {x : V} {e : PyData} (h : Dd K H x e) (he : entryD e = true) : ∃ a p k n o v d, EntAt K H x a p k n o v d e := by
  obtain ⟨k, n, o, d, rfl, _⟩ := entry_is he
  cases h with
  | tup ea al =>
    cases al with
    | cons h0 al =>
      cases h0
      cases al with
      | cons h1 al =>
        cases al with
        | cons h2 al =>
          cases al
          cases h1 with
          | tup ep al2 =>
            cases al2 with
            | cons g0 al2 =>
              cases g0
              cases al2 with
              | cons g1 al2 =>
                cases g1
                cases al2
                exact ⟨_, _, _, _, _, _, _, rfl, ea, ep, h2, rfl⟩
theorem EntAt.stAt {K : PySem.W.Frag} {H : Hp} {x : V} {a p : Addr} {k : Str} {n : Int} {o : Str} {v : V} {d e : PyData} (h : EntAt K H x a p k n o v d e) : StAt K H (.ref p) n o := ⟨p, rfl, SqT.of h.st⟩
theorem EntAt.key {K : PySem.W.Frag} {H : Hp} {x : V} {a p : Addr} {k : Str} {n : Int} {o : Str} {v : V} {d e : PyData} (h : EntAt K H x a p k n o v d e) : keyD e = k := by rw [h.e]; rfl
theorem EntAt.same {K : PySem.W.Frag} {H H' : Hp} {x : V} {a p : Addr} {k : Str} {n : Int} {o : Str} {v : V} {d e : PyData} (h : EntAt K H x a p k n o v d e) (s : Same H H') : EntAt K H' x a p k n o v d e := ⟨h.x, s _ _ h.at_, s _ _ h.st, Dd.same s _ _ h.val, h.e⟩
end Tk

set_option Elab.async false
set_option linter.all false
set_option maxRecDepth 100000
set_option maxHeartbeats 4000000
/-! own operators told once; contents under a lock -/
namespace Tk
open PySem PySem.Spec PyProof.Rows L2
structure CalO (P : Program) (w : World) (K : PySem.W.Frag) (mg : Str → Option Value) (base : Heap) (CX : CXT) (C : Addr) (k : Nat) (m : Str) (sp : Sp) : Prop where
  ex : ∃ (g : Addr) (fd : FuncData) (ps : List Str), Own K C m g ∧ Binds K fd ps [] ∧ FnOk P w K mg base CX k g fd ps sp
theorem CalO.mono {P : Program} {w : World} {K : PySem.W.Frag} {mg : Str → Option Value} {base : Heap} {CX : CXT} {C : Addr} {j k : Nat} {m : Str} {sp : Sp} (c : CalO P w K mg base CX C j m sp) (h : j ≤ k) : CalO P w K mg base CX C k m sp := by
  obtain ⟨g, fd, ps, o, b, F⟩ := c
  exact ⟨g, fd, ps, o, b, F.mono h⟩
theorem raw0 {P : Program} {w : World} {K : PySem.W.Frag} {mg : Str → Option Value} {base : Heap} {CX : CXT} {k : Nat} {g : Addr} {fd : FuncData} {ps : List Str} {sp : Sp} (F : FnOk P w K mg base CX k g fd ps sp) (b : Binds K fd ps []) : FnR P w K mg base CX k g sp := by
  have z : (fun (vs : List V) (H : Hp) (Q : VK) (E : XK) => sp (vs ++ []) H Q E) = sp := by
    funext vs H Q E
    rw [List.append_nil]
  have q := F.raw b .nil
  rw [z] at q
  exact q
section
variable {X : Cx} {CX : CXT} {n : Nat} {C : Addr} {sp : Sp} {E : XK} {K : PySem.W.Frag}
theorem k_inO (M : CalO X.prog X.w X.K X.mg X.base CX C n "__contains__" sp) (hr : Room n X.A) (hx : Passes CX X E) : OpR X (compareOp .In) (rInOwn (fun b => b) C sp E) := by
  obtain ⟨g, fd, ps, o, b, F⟩ := M.ex
  exact k_inOwn o (raw0 F b) hr hx
theorem k_notinO (M : CalO X.prog X.w X.K X.mg X.base CX C n "__contains__" sp) (hr : Room n X.A) (hx : Passes CX X E) : OpR X (compareOp .NotIn) (rInOwn (fun b => !b) C sp E) := by
  obtain ⟨g, fd, ps, o, b, F⟩ := M.ex
  exact k_notinOwn o (raw0 F b) hr hx
theorem k_binO {op : Operator} (M : CalO X.prog X.w X.K X.mg X.base CX C n (PySem.dunder op.info.2) sp) (hc : PySem.W.selfFirst K C = true) (hr : Room n X.A) (hx : Passes CX X E) (e : X.K = K := by rfl) : OpR X (binaryOp op) (rBinOwn C sp E) := by
  subst e
  obtain ⟨g, fd, ps, o, b, F⟩ := M.ex
  exact k_binOwn o hc (raw0 F b) hr hx
theorem k_subO (M : CalO X.prog X.w X.K X.mg X.base CX C n "__sub__" sp) (hc : PySem.W.selfFirst K C = true) (hr : Room n X.A) (hx : Passes CX X E) (e : X.K = K := by rfl) : OpR X (binaryOp .Sub) (rSubSeq C sp E) := by
  subst e
  obtain ⟨g, fd, ps, o, b, F⟩ := M.ex
  exact k_subSeq o hc (raw0 F b) hr hx
theorem k_neO (M : CalO X.prog X.w X.K X.mg X.base CX C n "__eq__" sp) (hs : PySem.W.findIn K (.ref C) "__ne__" = some (some (.builtin "object.__ne__"))) (hm : PySem.W.mroIn K C (.type "object") = some true) (hr : Room (n + 1) X.A) (hx : Passes CX X E) (e : X.K = K := by rfl) : OpR X (compareOp .NotEq) (rNeOwn C sp E) := by
  subst e
  obtain ⟨g, fd, ps, o, b, F⟩ := M.ex
  exact k_neOwn o hs hm (raw0 F b) hr hx
end
/-- what isinstance asks of the class -/
structure ContI (K : PySem.W.Frag) (C : Addr) : Prop where
  ha : PySem.W.findIn K (.ref C) "__class__" = some (some (.builtin "object.__class__"))
  hn : PySem.W.specialIn K (.builtin "object.__class__") "__get__" = some (some (.builtin "getset_descriptor.__get__"))
  ht : PySem.W.takesIn K (.builtin "object.__class__") = some true
  hm : PySem.W.mroIn K C (.type "object") = some true
/-! ### a content that may be read -/
def ContR (K : PySem.W.Frag) (C : Addr) (H : Hp) (a : Addr) (es : List PyData) : Prop := ∃ dx d kvs, H a = some (.ins C dx [("_table", .ref d)]) ∧ Rd H d (.dK kvs) ∧ RowsK K H kvs es ∧ GoodE es ∧ es.length ≤ 60
section
variable {K : PySem.W.Frag} {C : Addr} {H H' : Hp} {a : Addr} {es : List PyData}
theorem ContAt.rd (h : ContAt K C H a es) : ContR K C H a es := by
  obtain ⟨dx, d, kvs, h1, h2, h3⟩ := h
  exact ⟨dx, d, kvs, h1, .inl h2, h3⟩
theorem Rd.sameR {d : Addr} {u : HO} (r : Rd H d u) (s : Same H H') : Rd H' d u := by
  rcases r with r | ⟨o, r⟩
  · exact .inl (s _ _ r)
  · exact .inr ⟨o, s _ _ r⟩
theorem ContR.same (h : ContR K C H a es) (s : Same H H') : ContR K C H' a es := by
  obtain ⟨dx, d, kvs, h1, h2, h3, h4⟩ := h
  exact ⟨dx, d, kvs, s _ _ h1, Rd.sameR h2 s, h3.same s, h4⟩
theorem ContR.lock {d : Addr} {kvs : List (Key × V)} (h : ContR K C H a es) (e : H d = some (.dK kvs)) (od : Obj) : ContR K C (upd H d (.frz od (.dK kvs))) a es := by
  obtain ⟨dx, d2, kv2, h1, h2, h3, h4, h5⟩ := h
  have bt : But d H (upd H d (.frz od (.dK kvs))) := fun b o q n => by rw [upd_ne n]; exact q
  refine ⟨dx, d2, kv2, bt _ _ h1 (fun z => by subst z; rw [e] at h1; cases h1), ?_, h3.stay h4 bt (fun xs z => by rw [e] at z; cases z), h4, h5⟩
  by_cases c : d2 = d
  · subst c
    rcases h2 with h2 | ⟨o, h2⟩
    · rw [e] at h2
      cases h2
      exact .inr ⟨od, upd_same⟩
    · rw [e] at h2
      cases h2
  · rcases h2 with h2 | ⟨o, h2⟩
    · exact .inl (bt _ _ h2 c)
    · exact .inr ⟨o, bt _ _ h2 c⟩
end
theorem same_unlock {H H' : Hp} {d : Addr} {od : Obj} {u : HO} (e : H d = some u) (s : Same (upd H d (.frz od u)) H') : Same H (upd H' d u) := by
  intro b o hb
  by_cases c : b = d
  · subst c
    rw [upd_same]
    rw [e] at hb
    exact hb
  · rw [upd_ne c]
    exact s _ _ (by rw [upd_ne c]; exact hb)
end Tk
namespace Tk
open PySem PySem.Spec PyProof.Rows L2
theorem r_iItems {td : TE} {σ : L2.St} {H : Hp} {R : It → Hp → Prop} (h : td σ H fun x H1 => ∃ d o kvs, x = .ref d ∧ H1 d = some (.frz o (.dK kvs)) ∧ R (Iti d o kvs) H1) : iItems td σ H R := h
theorem But.refl {L : Addr} {H : Hp} : But L H H := fun _ _ e _ => e
theorem But.trans {L : Addr} {H H1 H2 : Hp} (a : But L H H1) (b : But L H1 H2) : But L H H2 := fun c o e n => b c o (a c o e n) n
theorem But.same {L : Addr} {H H1 H2 : Hp} (a : But L H H1) (b : Same H1 H2) : But L H H2 := fun c o e n => b c o (a c o e n)
theorem But.set {L : Addr} {H H1 : Hp} {o : HO} (a : But L H H1) : But L H (upd H1 L o) := fun c q e n => by rw [upd_ne n]; exact a c q e n
theorem item_at {K : PySem.W.Frag} {H : Hp} {kvs : List (Key × V)} {es : List PyData} {i : Nat} {x y : V} (r : RowsK K H kvs es) (hx : (kvs[i]?.map fun kv => kV kv.1) = some x) (hy : kvs[i]?.map Prod.snd = some y) : ∃ e, es[i]? = some e ∧ x = .str (keyD e) ∧ Dd K H y e ∧ kvs[i]? = some (.inr (keyD e), y) := by
  cases q : kvs[i]? with
  | none => rw [q] at hx; cases hx
  | some kv =>
    rw [q] at hx hy
    obtain ⟨k, v⟩ := kv
    obtain ⟨e, h1, h2, h3⟩ := r.at_ q
    cases hx
    cases hy
    subst h2
    exact ⟨e, h1, rfl, h3, rfl⟩
end Tk

set_option Elab.async false
set_option linter.all false
set_option maxRecDepth 100000
set_option maxHeartbeats 4000000
namespace K05
open PySem PySem.Spec PyProof.Rows L2 Tk Ts CwR
local macro_rules | `(tactic| walk_at "rd1") => `(tactic| first
  | with_reducible refine r_seq ?_
  | ((with_reducible refine r_var (v := ?vv) ?hrv ?_); (case hrv => rfl))
  | with_reducible refine r_c ?_
  | with_reducible refine r_op ?_
  | ((with_reducible refine r_ixL (xs := ?xx) (v := ?vv) ?hh ?he ?_); (case hh => first | assumption | exact upd_same); (case he => rfl))
  | with_reducible refine r_asg ?_
  | with_reducible refine r_sub ?_
  | ((with_reducible refine r_gTup (xs := ?xx) ?hh ?he ?_); (case hh => assumption); (case he => rfl))
  | with_reducible refine r_gCons ?_
  | with_reducible refine r_gNil ?_
  | ((with_reducible refine r_setL (xs := ?xx) (j := ?vv) ?hh ?he ?_); (case hh => first | assumption | exact upd_same); (case he => rfl))
  | with_reducible refine r_pow15 ?_
  | with_reducible refine r_pow18 ?_
  | with_reducible refine r_repr ?_
  | with_reducible refine iteT ?_
  | with_reducible refine iteF ?_
  | with_reducible refine r_cons ?_
  | with_reducible refine r_nil ?_
  | with_reducible refine r_call ?_
  | with_reducible refine r_cb ?_
  | with_reducible refine r_ret ?_
  | with_reducible refine r_gName ?_
  | with_reducible refine r_next ?_
  | with_reducible refine r_ifS ?_
  | with_reducible refine r_un ?_
  | with_reducible refine r_U ?_
  | with_reducible refine r_max2 ?_
  | with_reducible refine r_min2 ?_
  | with_reducible refine r_sl ?_
  | with_reducible refine r_noPart ?_
  | with_reducible refine r_part ?_
  | with_reducible refine r_inti ?_
  | with_reducible refine r_lc ?_
  | with_reducible refine r_for ?_
  | with_reducible refine r_rng1 ?_
  | with_reducible refine r_iList ?_
  | with_reducible refine r_iTup ?_
  | with_reducible refine r_iStr ?_
  | with_reducible refine r_strx ?_
  | ((with_reducible refine r_j ?hh ?hi ?_); (case hh => omega); (case hi => omega))
  | with_reducible refine r_m1 ?_
  | with_reducible refine r_test ?_
  | with_reducible refine r_B ?_
  | with_reducible refine r_not ?_
  | with_reducible refine r_and ?_
  | with_reducible refine r_or ?_
  | with_reducible refine r_andV ?_
  | with_reducible refine r_orV ?_
  | with_reducible refine r_notV ?_
  | with_reducible refine r_if ?_
  | with_reducible refine r_chain ?_
  | with_reducible refine r_lst ?_
  | with_reducible refine r_tup ?_
  | with_reducible refine r_k ?_
  | ((with_reducible refine r_isiS (d := ?dd) ?hh ?_); (case hh => assumption))
  | ((with_reducible refine r_isiT (d := ?dd) ?hh ?_); (case hh => assumption))
  | ((with_reducible refine r_isiI (d := ?dd) ?hh ?_); (case hh => assumption))
  | ((with_reducible refine r_isiB (d := ?dd) ?hh ?_); (case hh => assumption))
  | ((with_reducible refine r_lenS ?hh ?_); (case hh => assumption))
  | ((with_reducible refine r_lenT (xs := ?dd) ?hh ?_); (case hh => assumption))
  | ((with_reducible refine r_ixT (xs := ?xx) (v := ?vv) ?hh ?he ?_); (case hh => assumption); (case he => rfl))
  | with_reducible refine r_isN ?_
  | with_reducible refine r_I0 ?_
  | with_reducible refine g_addI ?_
  | ((with_reducible refine r_mod ?hh ?_); (case hh => first | decide | omega))
  | ((with_reducible refine r_div ?hh ?hi ?_); (case hh => first | decide | omega); (case hi => first | decide | omega))
  | ((with_reducible refine g_mulB ?hh ?hi ?_); (case hh => omega); (case hi => omega))
  | with_reducible refine g_ltI ?_
  | with_reducible refine g_leI ?_
  | with_reducible refine g_gtI ?_
  | with_reducible refine g_geI ?_
  | with_reducible refine g_eqI ?_
  | with_reducible refine g_neI ?_
  | with_reducible refine g_eqS ?_
  | with_reducible refine g_neS ?_
  | with_reducible refine g_leS ?_
  | with_reducible refine g_ltS ?_)
local macro_rules | `(tactic| walk_at "rd") => `(tactic| repeat (walk_at "rd1"))
local macro_rules | `(tactic| walk_at "ed") => `(tactic| repeat first
  | exact ed_int
  | exact ed_str
  | exact ed_bl
  | exact ed_non
  | exact ed_nil
  | exact ed_dct
  | exact ed_neg
  | with_reducible apply ed_cons
  | with_reducible apply ed_tup
  | with_reducible apply ed_lst
  | exact Nat.le_of_ble_eq_true rfl)
local macro_rules | `(tactic| walk_at "tx1") => `(tactic| first
  | walk_at "rd1"
  | with_reducible refine r_callS ?_
  | with_reducible refine r_zipA ?_
  | with_reducible refine r_par ?_
  | with_reducible refine r_pair ?_
  | with_reducible refine r_pow6 ?_
  | with_reducible refine r_m0 ?_
  | with_reducible refine r_bm ?_
  | with_reducible refine r_isS ?_
  | with_reducible refine r_told ?_
  | with_reducible refine r_js ?_
  | with_reducible refine r_jsNil ?_
  | with_reducible refine r_repl ?_
  | ((with_reducible refine r_gLst (xs := ?xx) ?hh ?he ?_); (case hh => assumption); (case he => rfl))
  | ((with_reducible refine r_lenL (xs := ?xx) ?hh ?_); (case hh => assumption)))
local macro_rules | `(tactic| walk_at "tx") => `(tactic| repeat (walk_at "tx1"))
section
variable {t1 t2 t3 : Tok} {P : Program} {w : World} {K : PySem.W.Frag} {mg : Str → Option Value} {base : Heap}
def spIn (K : PySem.W.Frag) (C : Addr) : Sp := fun vs H Q _ => ∃ (a : Addr) (es : List PyData) (v : V) (d : PyData), vs = [.ref a, v] ∧ ContR K C H a es ∧ Dd K H v d ∧ Q (.bl (inD es d)) H
abbrev s_Content___contains__ : Stmt := inClass (top 16) 1
abbrev n_Content___contains__ : List Str := ["self", "x"]
abbrev p_Content___contains__ : List Str := ["self", "x"]
theorem sc_Content___contains__ : FnScope n_Content___contains__ p_Content___contains__ (defScope s_Content___contains__) := ⟨rfl, rfl, rfl, by decide +kernel, rfl, by decide +kernel, by decide +kernel⟩
theorem ok_in {C : Addr} (CC : ContC K C) (T : Txt mg t1 t2 t3) {f : Addr} {fd : FuncData} (F : Fun K "__contains__" "Content.__contains__" s_Content___contains__ f fd) : FnOk P w K mg base CX0 1 f fd p_Content___contains__ (spIn K C) := by
  refine F.ok sc_Content___contains__ (fun vs H Q E h => by obtain ⟨a, es, v, d, rfl, _⟩ := h; rfl) (fun cdv A outer s H vs Q E hr h => ?_)
  obtain ⟨a, es, v, d, rfl, ⟨dx, p, kvs, e1, e2, rows, hg, hl⟩, hd, k⟩ := h
  have hu := hu_of hr
  refine ⟨_, (pss_one (ps_ret (pe_and (pe_callB k_isi (by rfl) T.z_isinstance (by decide +kernel) (pa_cons (pv 1) (pa_cons (pe_bltn (v := .ty "str") rfl T.z_str (by decide +kernel) rfl) pa_nil))) (pe_one (pe_cmp (pc_din (hu_of hr) (pv 1) (k_fld (pv 0))) rfl))))), ?_⟩
  walk_at "tx"
  rcases str_or d with ⟨x, rfl⟩ | hn
  · cases hd
    rw [isStr]
    refine iteT ?_
    refine r_din ?_
    walk_at "tx"
    refine r_fld ?_
    walk_at "tx"
    refine ⟨a, C, dx, _, _, rfl, e1, CC.cls, CC.no, tab_at p, ?_⟩
    refine ⟨p, _, rfl, DGet.rd (k := Sum.inr x) e2, ?_⟩
    have z : (valV kvs (Sum.inr x : Key)).isSome = inD es (.str x) := by
      show _ = (findE es x).isSome
      rcases rows.val x with ⟨e, u, q1, q2, _⟩ | ⟨q1, q2⟩ <;> (rw [q1, q2]; rfl)
    rw [z]
    exact k
  · rw [isNotStr hn]
    refine iteF ?_
    have z : inD es d = false := by
      cases d with
      | str x => exact absurd rfl (hn x)
      | _ => rfl
    rw [z] at k
    exact k
def spKeys (K : PySem.W.Frag) (C : Addr) : Sp := fun vs H Q _ => ∃ (a : Addr) (es : List PyData), vs = [.ref a] ∧ ContAt K C H a es ∧ ∀ (ys : List Str) (L : Addr) (H' : Hp), ys.Perm (es.map keyD) → ys.Pairwise ltS → H L = none → Same H H' → H' L = some (.lst (ys.map V.str)) → Q (.ref L) H'
abbrev s_Content_key_list : Stmt := inClass (top 16) 7
abbrev n_Content_key_list : List Str := ["self"]
abbrev p_Content_key_list : List Str := ["self"]
theorem sc_Content_key_list : FnScope n_Content_key_list p_Content_key_list (defScope s_Content_key_list) := ⟨rfl, rfl, rfl, by decide +kernel, rfl, by decide +kernel, by decide +kernel⟩
theorem ok_keys {C : Addr} (CC : ContC K C) (T : Txt mg t1 t2 t3) {f : Addr} {fd : FuncData} (F : Fun K "key_list" "Content.key_list" s_Content_key_list f fd) : FnOk P w K mg base CX0 1 f fd p_Content_key_list (spKeys K C) := by
  refine F.ok sc_Content_key_list (fun vs H Q E h => by obtain ⟨a, es, rfl, _⟩ := h; rfl) (fun cdv A outer s H vs Q E hr h => ?_)
  obtain ⟨a, es, rfl, ⟨dx, p, kvs, e1, e2, rows, hg, hl⟩, k⟩ := h
  have hu := hu_of hr
  refine ⟨_, (pss_one (ps_ret (pe_callB (k_sortD rfl) (by rfl) T.z_sorted (by decide +kernel) (pa_cons (k_fld (pv 0)) pa_nil)))), ?_⟩
  walk_at "tx"
  refine r_fld ?_
  walk_at "tx"
  refine ⟨a, C, dx, _, _, rfl, e1, CC.cls, CC.no, tab_at p, ?_⟩
  walk_at "tx"
  refine ⟨p, kvs, es.map keyD, rfl, .inl e2, by rw [rows.1, List.map_map]; rfl, by rw [List.length_map]; omega, fun ys L pm st nL => ?_⟩
  exact k ys L _ pm (sorted_nodup st (pm.nodup_iff.mpr hg.nd)) nL (Same.new nL) upd_same
def spEntries (K : PySem.W.Frag) (C : Addr) : Sp := fun vs H Q _ => ∃ (a : Addr) (es : List PyData), vs = [.ref a] ∧ ContAt K C H a es ∧ ∀ v es' H', SortE es es' → Same H H' → Dd K H' v (.tuple es') → Q v H'
abbrev s_Content_entries : Stmt := inClass (top 16) 6
abbrev n_Content_entries : List Str := ["self", "key"]
abbrev p_Content_entries : List Str := ["self"]
theorem sc_Content_entries : FnScope n_Content_entries p_Content_entries (defScope s_Content_entries) := ⟨rfl, rfl, rfl, by decide +kernel, rfl, by decide +kernel, by decide +kernel⟩
theorem ok_entries {C : Addr} (CC : ContC K C) (T : Txt mg t1 t2 t3) {f : Addr} {fd : FuncData} (F : Fun K "entries" "Content.entries" s_Content_entries f fd) (K_Content_key_list : CalM P w K mg base CX0 C 1 "key_list" p_Content_key_list (spKeys K C)) : FnOk P w K mg base CX0 2 f fd p_Content_entries (spEntries K C) := by
  refine F.ok sc_Content_entries (fun vs H Q E h => by obtain ⟨a, es, rfl, _⟩ := h; rfl) (fun cdv A outer s H vs Q E hr h => ?_)
  obtain ⟨a, es, rfl, ⟨dx, p, kvs, e1, e2, rows, hg, hl⟩, k⟩ := h
  have hu := hu_of hr
  refine ⟨_, (pss_one (ps_ret (pe_callTy call_tuple_of (by rfl) T.z_tuple (by decide +kernel) (pa_cons (pe_lc (own := [("key", 1)]) rfl sc_Content_entries.nd (k_list (pe_calm0 K_Content_key_list (hr.mono (by decide)) pass0 (pv 0))) (blkOk_by (own := [("key", 1)]) (N := n_Content_entries) (sc := defScope s_Content_entries) (by decide +kernel)) (fun _ _ _ _ _ => (pg_name (i := 1) sc_Content_entries.nd rfl (by first | exact Or.inl rfl | exact Or.inr rfl))) (fun _ _ _ _ _ => pts_nil) (fun _ _ _ _ _ => (pe_dget (hu_of hr) (k_fld (pv 0)) (pv 1) (fun _ _ => rfl)))) pa_nil)))), ?_⟩
  walk_at "tx"
  refine r_meth ?_
  walk_at "tx"
  refine ⟨a, dx, _, rfl, e1, tab_no p (by decide), ?_⟩
  walk_at "tx"
  refine ⟨a, es, rfl, ⟨dx, p, kvs, e1, e2, rows, hg, hl⟩, fun ys L H1 pm st nL s1 eL => ?_⟩
  refine ⟨L, rfl, ⟨_, SqL.of eL⟩, ?_⟩
  have hys : ∀ k ∈ ys, k ∈ es.map keyD := fun k hk => pm.mem_iff.mp hk
  have lys : ys.length = es.length := by rw [pm.length_eq, List.length_map]
  obtain ⟨rs, r1, r2, r3⟩ := pick_vals rows hys
  have r2' := DdAll.same s1 _ _ r2
  refine lc_walkI (xs := ys.map V.str) walk_list (fun H' s' => SqL.of (s' _ _ eL)) rs (by rw [r1, List.length_map]) (by rw [List.length_map]; omega) (fun i x r hx hr H2 R s2 q => ?_) (fun B H2 nB s2 eB => ?_)
  · rw [List.getElem?_map] at hx
    obtain ⟨y, hy, rfl⟩ := Option.map_eq_some_iff.mp hx
    obtain ⟨u, q1, q2⟩ := r3 i y hy
    rw [hr] at q1
    cases q1
    have s12 := s1.trans s2
    refine r_dget ?_
    refine r_fld ?_
    walk_at "tx"
    refine ⟨a, C, dx, _, _, rfl, s12 _ _ e1, CC.cls, CC.no, tab_at p, ?_⟩
    walk_at "tx"
    refine ⟨p, r, rfl, ?_, q H2 (Same.refl H2)⟩
    have := DGet.k (k := Sum.inr y) (s12 _ _ e2)
    rw [q2] at this
    exact this
  · walk_at "tx"
    refine ⟨B, rs, rfl, .inl ⟨SqL.of eB, fun T1 n1 => ?_⟩⟩
    have s3 : Same H2 (upd H2 T1 (.tup rs)) := Same.new n1
    exact k _ _ _ (pick_sort hg pm st) (s1.trans (s2.trans s3)) (.tup upd_same (DdAll.same (s2.trans s3) _ _ r2'))
end
end K05

set_option Elab.async false
set_option linter.all false
set_option maxRecDepth 100000
set_option maxHeartbeats 4000000
/-! own errors over KeyError, LookupError, RuntimeError, too; errors kept as values; made by keyword -/
namespace Tk
open PySem PySem.Spec PyProof.Rows L2
/-! ### KeyError takes stores -/
abbrev keyMro : List Value := [.type "KeyError", .type "LookupError", .type "Exception", .type "BaseException", .type "object"]
theorem st_key : StoreFacts "KeyError" keyMro "object.__setattr__" "object" := {
  mro := by kernel_rfl
  slot := by
    refine .of (owner := "object") (n := "__setattr__") ?_ ?_ ?_ ?_ ?_ ?_
    · rw [typeLookup_type]
      rw [builtinLookup_eq_fast]
      kernel_rfl
    · decide +kernel
    · decide +kernel
    · decide +kernel
    · first
        | exact .inl (by decide +kernel)
        | exact .inr (by decide +kernel)
    · rw [isSubtype_type]
      kernel_rfl
  entry := F.store_object.entry
  kind := F.store_object.kind
  split := F.store_object.split
  hasOwner := by decide +kernel
  args := F.store_object.args
  passes := fun self => by kernel_rfl }
/-! ### making -/
section
open Builtin
variable {prog : Program} {w : World} {M : Model} {A : Around} {E : Value → Shared → Prop} {R : Result → Shared → Prop} {h : Heap} {g : Array GenState} {d : PySem.Drawn} {t : Nat} {os : OsState}
variable {nm q : Str} {C N : Addr} {bs bm mB : List Value} {hdct : Bool} {sn : List Str} {sub : List Value} {ab : Bool} {col : Option Bool} {dd : Option Addr} {k0 k1 k2 k3 k5 : Option Value} {B nI iI : String} {kw : List (Str × Value)}
theorem xo_chk (Z : ExcBaseFacts B nI iI mB) (tB : bm.contains (.type B) = true) {us : List Value} {Q : Unit → Shared → Prop}
    (o : h.get? C = some (excClassObj nm q C N bs bm hdct sn sub ab col dd k0 k1 k2 k3 k5 nI)) (z : Q () ⟨h, g, d, t, os⟩) : wpAny M A (checkBuiltinCall nI ⟨.ref C :: us, kw⟩) Q E ⟨h, g, d, t, os⟩ := by
  have c1 : (Value.ref C :: bm).contains (.type B) = true := by rw [List.contains_cons, tB, Bool.or_true]
  have c2 := Z.noStar
  simp only [checkBuiltinCall, Z.newKind, Z.newSplit, Z.newRow]
  repeat (first
    | refine wpAny_loadPart_at o ?_
    | (refine wpAny_isSubtype_exc o ?_
       rw [c1])
    | refine wpAny_staticBase_exc o ?_
    | refine wpAny_madeBy_exc o ?_
    | simp only [bne_self_eq_false, Bool.false_eq_true, if_false]
    | wp_step)
  exact z
theorem xo_new (Z : ExcBaseFacts B nI iI mB) (tB : bm.contains (.type B) = true) (tA : bm.contains (.type "AttributeError") = false) (tN : bm.contains (.type "NameError") = false) {us : List Value} (fits : us.length ≤ sizeLine)
    (o : h.get? C = some (excClassObj nm q C N bs bm hdct sn sub ab col dd k0 k1 k2 k3 k5 nI))
    (z : R (.ok (.ret (.ref (h.objs.size + 1)))) ⟨(h.push (PySem.W.kdv_tup us)).push (HandSPX.excO C h.objs.size), g, d, t, os⟩) :
    codeAny (model prog w) A (.builtin nI ⟨.ref C :: us, kw⟩) R ⟨h, g, d, t, os⟩ := by
  have c0 := Z.ends
  have c1 : (Value.ref C :: bm).contains (.type B) = true := by rw [List.contains_cons, tB, Bool.or_true]
  have c2 : (Value.ref C :: bm).contains (.type "AttributeError") = false := by
    rw [List.contains_cons, tA]
    rfl
  have c3 : (Value.ref C :: bm).contains (.type "NameError") = false := by
    rw [List.contains_cons, tN]
    rfl
  apply codeAny_builtinAt Z.entry
  delta Builtin.«BaseException.__new__»
  apply PySem.wpAt_bind
  show PySem.wpAt _ _ _ (stack >>= _) _ _ _
  apply PySem.wpAt_bind
  apply PySem.wpAt_stack
  intro top below
  apply PySem.wpAt_of_wpAny
  wp_walk
  apply PySem.wpAt_of_wpAny
  rw [Z.owner]
  repeat (first
    | with_reducible refine wpAny_madeHere_exc Z.canon o ?_
    | with_reducible refine wpAny_loadPart_at o ?_
    | (with_reducible refine wpAny_isSubtype_exc o ?_
       first
         | rw [c1]
         | rw [c2]
         | rw [c3])
    | wp_step)
  show R _ _
  rw [Heap.size_push]
  exact z
theorem xo_type (Z : ExcBaseFacts B nI iI mB) (tB : bm.contains (.type B) = true) (tA : bm.contains (.type "AttributeError") = false) (tN : bm.contains (.type "NameError") = false) {us : List Value} {fI : Addr} {Q : Fin → Shared → Prop} (fits : us.length ≤ sizeLine)
    (o : h.get? C = some (excClassObj nm q C N bs bm hdct sn sub ab col dd k0 k1 k2 k3 k5 nI)) (lk : PySem.W.Looks (model prog w) h (typeLookup (.ref C) "__init__") (some (.ref fI))) (bd : ∀ self, PySem.W.Looks (model prog w) h (bindSpecial (.ref fI) self) (.ref fI, [self]))
    (z : codeAny (model prog w) A (.call (.ref fI) ⟨.ref (h.objs.size + 1) :: us, kw⟩) (fun r s' => match r with | .ok (.ret v) => v = .none ∧ Q (.done (.ret (.ref (h.objs.size + 1)))) s' | .ok _ => False | .error e => E e s') ⟨(h.push (PySem.W.kdv_tup us)).push (HandSPX.excO C h.objs.size), g, d, t, os⟩) :
    wpAny (model prog w) A (Builtin.«type.__call__» ⟨.ref C :: us, kw⟩) Q E ⟨h, g, d, t, os⟩ := by
  repeat (first
    | with_reducible refine wpAny_loadPart_at o ?_
    | with_reducible refine wpAny_madeBy_exc o ?_
    | wp_step)
  apply codeAny_call_builtin_code (Code.quiet_builtin _ Z.quiet)
  refine xo_chk Z tB o ?_
  refine xo_new Z tB tA tN fits o ?_
  show wpAny _ _ _ _ _ _
  have kp : ∀ b y, h.get? b = some y → ((h.push (PySem.W.kdv_tup us)).push (HandSPX.excO C h.objs.size)).get? b = some y := fun b y e => Heap.get?_push_of_some _ (Heap.get?_push_of_some _ e)
  have o1 := kp _ _ o
  have new : ((h.push (PySem.W.kdv_tup us)).push (HandSPX.excO C h.objs.size)).get? (h.objs.size + 1) = some (HandSPX.excO C h.objs.size) := by heap_get
  have own : (Value.ref C :: bm).contains (.ref C) = true := by simp
  have l1 := lk.keeps kp
  have l2 := (bd (.ref (h.objs.size + 1))).keeps kp
  delta isInstance
  repeat (first
    | with_reducible refine wpAny_loadPart_at new ?_
    | (with_reducible refine wpAny_isSubtype_exc o1 ?_
       rw [own])
    | wp_step)
  show wpAny _ _ (typeLookup (.ref C) _) _ _ _
  apply l1.at
  apply wpAny_holding
  apply wpAny_bind
  apply l2.at
  apply wpAny_bind
  apply wpAny_call
  refine codeAny_mono z fun r s' y => ?_
  cases r with
  | error e => exact y
  | ok fl =>
    cases fl with
    | ret v =>
      obtain ⟨rfl, y⟩ := y
      first
        | exact wpAny_pure (wpAny_pure y)
        | (wp_walk
           exact y)
    | next => exact y.elim
    | brk => exact y.elim
    | cont => exact y.elim
theorem xo_call (Z : ExcBaseFacts B nI iI mB) (tB : bm.contains (.type B) = true) (tA : bm.contains (.type "AttributeError") = false) (tN : bm.contains (.type "NameError") = false) {us : List Value} {fI : Addr} (fits : us.length ≤ sizeLine)
    (o : h.get? C = some (excClassObj nm q C N bs bm hdct sn sub ab col dd k0 k1 k2 k3 k5 nI)) (lk : PySem.W.Looks (model prog w) h (typeLookup (.ref C) "__init__") (some (.ref fI))) (bd : ∀ self, PySem.W.Looks (model prog w) h (bindSpecial (.ref fI) self) (.ref fI, [self]))
    (z : codeAny (model prog w) (A.under (.builtin "type.__call__" ⟨.ref C :: us, kw⟩)) (.call (.ref fI) ⟨.ref (h.objs.size + 1) :: us, kw⟩) (PySem.W.InitBack (h.objs.size + 1) R) ⟨(h.push (PySem.W.kdv_tup us)).push (HandSPX.excO C h.objs.size), g, d, t, os⟩) :
    codeAny (model prog w) A (.call (.ref C) ⟨us, kw⟩) R ⟨h, g, d, t, os⟩ := by
  have t1 := PySem.tc_lookup
  have t2 := PySem.tc_bind (.ref C)
  have t3 : (⟨h, g, d, t, os⟩ : Shared).TypeIs (.ref C) "type" := ⟨_, o, rfl⟩
  apply codeAny_of_tree
  show wpAny _ _ (callAny (.ref C) _) _ _ _
  repeat (any_goals (first
    | assumption
    | with_reducible refine wpAny_loadPart_at o ?_
    | wp_step))
  refine ⟨rfl, ?_⟩
  apply codeAny_call_builtin_at (Code.quiet_builtin _ (by decide +kernel)) PySem.entry_typeCall
  apply wpAny_check_type_call_sub o
  apply xo_type Z tB tA tN fits o lk bd
  refine codeAny_mono z fun r s' y => ?_
  rcases r with e | (v | _ | _ | _) <;> exact y
end

/-! ### storing -/
/-- what the written part says of an error's class, over whichever base -/
structure OexG (K : PySem.W.Frag) (C : Addr) : Prop where
  cls : ∃ nm q N bs bm sn sub ab col dd k0 k1 k2 k3 k5 B nI iI mB, K.lookup C = some (excClassObj nm q C N bs bm true sn sub ab col dd k0 k1 k2 k3 k5 nI) ∧ ExcBaseFacts B nI iI mB ∧ bm.contains (.type B) = true ∧ bm.contains (.type "AttributeError") = false ∧ bm.contains (.type "NameError") = false
  over : ∃ B m, StoreFacts B m "object.__setattr__" "object" ∧ PySem.W.excOver K C m = true
  sa : PySem.W.findIn K (.ref C) "__setattr__" = some (some (.builtin "object.__setattr__"))
  exC : PySem.W.subIn K (.ref C) (.type "BaseException") = some true
  tyC : PySem.W.typeIn K (.ref C) = some (.type "type")
  kC : PySem.W.keepIn K (.ref C) = true
theorem OexG.data {K : PySem.W.Frag} {C : Addr} (T : OexG K C) : ∃ cd, PySem.W.clsIn K C = some cd ∧ cd.hasDict = true := by
  obtain ⟨nm, q, N, bs, bm, sn, sub, ab, col, dd, k0, k1, k2, k3, k5, B, nI, iI, mB, hC, _⟩ := T.cls
  have e : PySem.W.clsIn K C = some {
      name := nm, qualname := q
      bases := bs, mro := .ref C :: bm
      ns := N, slotNames := sn, subclasses := sub
      hasDict := true, hasDel := false
      abstract := ab, collection := col } := by
    unfold PySem.W.clsIn
    rw [hC]
  exact ⟨_, e, rfl⟩
section
open Builtin Builtin.ObjectAttr
variable {prog : Program} {w : World} {A : Around} {R : Result → Shared → Prop} {hp : Heap} {g : Array GenState} {d : PySem.Drawn} {t : Nat} {os : OsState} {K : PySem.W.Frag} {f : Str} {tk : Tok} {v : Value} {x C dx : Addr} {fv : Array Value} {m0 : Str → Option Value} {nl : List Str}
theorem taker_none (no : PySem.W.findIn K (.ref C) f = some none) : PySem.W.takerIn K C f = some none := by
  unfold PySem.W.takerIn
  rw [no]
  rfl
theorem xs_new (X : K.In hp) (T : OexG K C) (at0 : hp.get? x = some { cls := .ref C, data := .fields fv }) (no : PySem.W.findIn K (.ref C) f = some none)
    (z : ∀ h' tk' dx, (∀ b o, b ≠ x → hp.get? b = some o → h'.get? b = some o) → hp.objs.size ≤ dx → dx ≠ x → h'.get? x = some { cls := .ref C, dict := some dx, data := .fields fv } →
      h'.Ns1 dx (fun y => if y = f then some v else none) → R (.ok (.ret .none)) ⟨h', g, d, tk', os⟩) :
    codeAny (model prog w) A (.call (.builtin "object.__setattr__") ⟨[.ref x, .str f tk, v], []⟩) R ⟨hp, g, d, t, os⟩ := by
  obtain ⟨B, m, SF, ov⟩ := T.over
  obtain ⟨cd, hcl, hh⟩ := T.data
  have far : x ≠ hp.objs.size := Nat.ne_of_lt (Heap.lt_size at0)
  refine PySem.W.osa_openX (od := none) (r := none) SF X ⟨at0, rfl, rfl, trivial⟩ ov (taker_none no) fun b => ?_
  show wpAny _ _ (storeInOwnDict (.ref x) (.ref C) (.str f tk) f v b) _ _ _
  have see : PySem.W.Looks (model prog w) hp (classData C) cd := PySem.W.looks_clsIn X hcl
  obtain ⟨nm, bs, mro, ns, qn, hd, sn, sb, ab, col, del⟩ := cd
  dsimp only at hh
  subst hh
  delta storeInOwnDict ownDictForStores
  repeat (first
    | with_reducible refine HandSPX.store_in_new ?_ ?_
    | with_reducible refine wpAny_loadPart_at at0 ?_
    | with_reducible refine see.at ?_
    | wp_step)
  · exact ⟨_, #[], _,
      (Heap.get?_update_ne _ _ _ _ far.symm).trans (Heap.get?_push_at rfl rfl),
      rfl, (fun e he => absurd he (by simp)), (fun _ => rfl)⟩
  · intro h' tk' ns1 same
    have at1 : (hp.push { cls := .type "dict", data := .dict #[] }).get? x = some { cls := .ref C, data := .fields fv } := Heap.get?_push_of_some _ at0
    refine z h' tk' hp.objs.size ?_ (Nat.le_refl _) far.symm ?_ ns1
    · intro b o nb e
      refine (same.2 b (Nat.ne_of_lt (Heap.lt_size e))).trans ?_
      exact (Heap.get?_update_ne _ _ _ _ nb).trans (Heap.get?_push_of_some _ e)
    · exact (same.2 x far).trans (Heap.get?_update_self _ at1 rfl)
theorem xs_old (X : K.In hp) (T : OexG K C) (at0 : hp.get? x = some { cls := .ref C, dict := some dx, data := .fields fv }) (ns0 : hp.Ns1 dx m0) (wi : Within m0 nl) (few : nl.length ≤ 1000) (no : PySem.W.findIn K (.ref C) f = some none)
    (z : ∀ h' tk', (∀ b o, b ≠ dx → hp.get? b = some o → h'.get? b = some o) → h'.Ns1 dx (fun y => if y = f then some v else m0 y) → R (.ok (.ret .none)) ⟨h', g, d, tk', os⟩) :
    codeAny (model prog w) A (.call (.builtin "object.__setattr__") ⟨[.ref x, .str f tk, v], []⟩) R ⟨hp, g, d, t, os⟩ := by
  obtain ⟨B, m, SF, ov⟩ := T.over
  obtain ⟨cd, hcl, hh⟩ := T.data
  obtain ⟨oD, e1, e2, there, _⟩ := ns0.count wi
  refine PySem.W.osa_openX (od := some oD) (r := none) SF X ⟨at0, rfl, rfl, there⟩ ov (taker_none no) fun b => ?_
  show wpAny _ _ (storeInOwnDict (.ref x) (.ref C) (.str f tk) f v b) _ _ _
  have see : PySem.W.Looks (model prog w) hp (classData C) cd := PySem.W.looks_clsIn X hcl
  obtain ⟨nm, bs, mro, ns, qn, hd, sn, sb, ab, col, del⟩ := cd
  dsimp only at hh
  subst hh
  delta storeInOwnDict ownDictForStores
  repeat (first
    | with_reducible refine PySem.OEX.store_in_old ns0 wi few ?_
    | with_reducible refine wpAny_loadPart_at at0 ?_
    | with_reducible refine see.at ?_
    | wp_step)
  intro h' tk' ns1 same
  exact z h' tk' (fun b o nb e => (same.2 b nb).trans e) ns1
end
section
variable {X : Cx} {pins : List (Addr × Obj)} {σ : L2.St} {H : Hp} {s : Shared} {a C dx : Addr} {f : Str} {y : V} {u : Value} {fs : List (Str × V)} {Q : Unit → Shared → Prop} {E : Value → Shared → Prop} {A : Around}
/-- e.f = y, the first one -/
theorem gst_new (T : OexG X.K C) (I : Inv X pins σ H s) (e : H a = some (exo a C none)) (no : PySem.W.findIn X.K (.ref C) f = some none) (ry : RelV y u)
    (h : ∀ dx s', H dx = none → dx ≠ a → Inv X pins σ (upd (upd H dx (exd dx [(f, y)])) a (exo a C (some dx))) s' → Q () s') : wpAny (model X.prog X.w) A (setAttr (.ref a) f u) Q E s := by
  obtain ⟨t1, ho⟩ := exo_at I.hok e
  obtain ⟨hp, g, d, t, os⟩ := s
  refine PySem.W.set_plain I.kIn (ox := { cls := .ref C, dict := none, data := .fields #[.ref t1, .none, .none, .none, .bool false, .none] }) (od := none) ⟨ho, rfl, rfl, trivial⟩ T.sa ?_
  refine xs_new I.kIn T ho no fun h' tk' dx k dn dne hx hn => ?_
  have fresh : H dx = none := I.hok.fresh dn
  have n1 : ∀ {b : Addr} {o : Obj}, hp.get? b = some o → b ≠ dx := fun {b o} q => Nat.ne_of_lt (Nat.lt_of_lt_of_le (Heap.lt_size q) dn)
  have n2 : ∀ {b : Addr}, H b = none → b ≠ a := by
    intro b n z
    rw [z, e] at n
    cases n
  have step : Un X.fs [] H (upd (upd H dx (exd dx [(f, y)])) a (exo a C (some dx))) hp h' := {
    keep := fun b o q n _ _ => k b o (n2 n) q
    slot := fun b o q n _ _ => ⟨o.slots, k b o (n2 n) q⟩
    free := fun b o q n _ => (upd_ne (n2 n)).trans ((upd_ne (n1 q)).trans n)
    there := fun b o q _ => by
      by_cases hb : b = a
      · subst hb
        exact ⟨_, hx⟩
      · exact ⟨o, k b o hb q⟩
    tups := fun b xs q => (upd_ne (at_ne e q exo_tup)).trans ((upd_ne (ne_of_none q fresh)).trans q)
    frzs := fun b o v q => (upd_ne (at_ne e q exo_frz)).trans ((upd_ne (ne_of_none q fresh)).trans q)
    tbls := fun b ps q => ⟨#[], by
      rw [upd_ne (at_ne e q exo_tbl)]
      rw [upd_ne (ne_of_none q fresh), q]
      simp⟩ }
  refine h dx _ fresh dne (I.un (t' := tk') step fun b o q => ?_)
  by_cases hb : b = a
  · subst hb
    rw [upd_same] at q
    cases q
    exact exo_ok hx
  rw [upd_ne hb] at q
  by_cases hd : b = dx
  · subst hd
    rw [upd_same] at q
    cases q
    exact exd_ok hn (relO_put (fs := []) ry fun g => True.intro)
  rw [upd_ne hd] at q
  refine (I.hok b o q).stay (fun c v hc z => k c v ?_ z) (fun c hc => ?_) (fun c xs hc => ?_)
  · rcases hc with hc | hc
    · subst hc
      exact hb
    · exact at_ne e hc exo_own
  · exact (upd_ne (at_ne e hc exo_own)).trans ((upd_ne (ne_of_none hc fresh)).trans hc)
  · exact (upd_ne (at_ne e hc exo_tup)).trans ((upd_ne (ne_of_none hc fresh)).trans hc)
/-- e.f = y, a further one -/
theorem gst_old (T : OexG X.K C) (I : Inv X pins σ H s) (e : H a = some (exo a C (some dx))) (ed : H dx = some (exd dx fs)) (few : fs.length ≤ 900) (no : PySem.W.findIn X.K (.ref C) f = some none) (ry : RelV y u)
    (h : ∀ s', Inv X pins σ (upd H dx (exd dx ((f, y) :: fs))) s' → Q () s') : wpAny (model X.prog X.w) A (setAttr (.ref a) f u) Q E s := by
  obtain ⟨t1, ho⟩ := exo_at I.hok e
  obtain ⟨mA, ns0, rel⟩ := exd_at I.hok ed
  have wi := within_of rel
  obtain ⟨hp, g, d, t, os⟩ := s
  obtain ⟨oD, e1, e2, there, _⟩ := ns0.count wi
  refine PySem.W.set_plain I.kIn (ox := { cls := .ref C, dict := some dx, data := .fields #[.ref t1, .none, .none, .none, .bool false, .none] }) (od := some oD) ⟨ho, rfl, rfl, there⟩ T.sa ?_
  refine xs_old I.kIn T ho ns0 wi (by simp only [List.length_map]; omega) no fun h' tk' k hn => ?_
  have at1 : ∃ o, h'.get? dx = some o := by
    obtain ⟨o, _, _, z, _⟩ := hn
    exact ⟨o, z⟩
  refine h _ (I.write (t' := tk') (x := dx) (e := dx) (o := exd dx ((f, y) :: fs)) ?_ (.inl rfl) k at1 (exd_ok hn (relO_put ry rel)))
  rw [ed]
  exact True.intro
end
/-- self.f = e, of an error of whichever base -/
def tGst (K : PySem.W.Frag) (f : Str) (to te : TE) : TS := fun D σ H => te σ H fun y H1 => to σ H1 fun x H2 => ∃ a C : Addr, x = .ref a ∧ OexG K C ∧ PySem.W.findIn K (.ref C) f = some none ∧
  ((H2 a = some (exo a C none) ∧ ∀ dx, H2 dx = none → dx ≠ a → D.nx σ (upd (upd H2 dx (exd dx [(f, y)])) a (exo a C (some dx)))) ∨
    ∃ (dx : Addr) (fs : List (Str × V)), H2 a = some (exo a C (some dx)) ∧ H2 dx = some (exd dx fs) ∧ fs.length ≤ 900 ∧ D.nx σ (upd H2 dx (exd dx ((f, y) :: fs))))
section
variable {X : Cx} {o e : Expr} {to te : TE} {f : Str} {p' pos : Pos}
theorem ps_gst (ho : PE X o to) (he : PE X e te) (hs : swapsWith e (some (.Attribute o f p')) pos.line X.env = pure false := by rfl) : PS X (.Assign [.Attribute o f p'] e pos) (tGst X.K f to te) := by
  constructor
  intro pins s σ H D I h
  refine plainObj_wpAny_Assign_Attribute (thn (he.run pins s σ H _ I h) fun v s1 hv => ?_) hs
  obtain ⟨y, H1, I1, r1, q1⟩ := hv
  refine thn (ho.run pins s1 σ H1 _ I1 q1) fun u s2 hu => ?_
  obtain ⟨x, H2, I2, r2, a, C, rfl, T, no, q⟩ := hu
  cases r2
  rcases q with ⟨ea, q⟩ | ⟨dx, fs, ea, ed, few, q⟩
  · exact gst_new T I2 ea no r1 fun dx s' n ne J => ⟨σ, _, J, q dx n ne⟩
  · exact gst_old T I2 ea ed few no r1 fun s' J => ⟨σ, _, J, q⟩
end
end Tk

set_option Elab.async false
set_option linter.all false
set_option maxRecDepth 100000
set_option maxHeartbeats 4000000
/-! errors of any base kept as values: made by place or by keyword, asked by isinstance, their fields read -/
namespace Tk
open PySem PySem.Spec PyProof.Rows L2
/-- an error's object, its class C, its dict with the fields fs -/
def ErrAt (H : Hp) (a C : Addr) (fs : List (Str × V)) : Prop := ∃ d, H a = some (exo a C (some d)) ∧ H d = some (exd d fs)
theorem ErrAt.same {H H2 : Hp} {a C : Addr} {fs : List (Str × V)} (S : Same H H2) (h : ErrAt H a C fs) : ErrAt H2 a C fs := by
  obtain ⟨d, h1, h2⟩ := h
  exact ⟨d, S _ _ h1, S _ _ h2⟩
/-- no positional default, all by place -/
theorem kb_all {K : PySem.W.Frag} {fd : FuncData} {ps : List Str} (b : Binds K fd ps []) : KBn K fd ps ps.length [] (fun us _ => us) (fun vs _ => vs) where
  to := fun s us ws hK l1 l2 => by
    have z := b s us hK (by rw [List.append_nil]; exact l1)
    rw [List.append_nil] at z
    exact z
  rel := fun r _ => r
/-- all but the first by keyword -/
theorem kb_kw {K : PySem.W.Frag} {x q : Str} {st : Stmt} {f : Addr} {fd : FuncData} {ks ps : List Str} (F : Fun K x q st f fd)
    (h : ∀ (kV doc pm : Value) (an : Option Addr) (cdv ct : Value) (u : Value) (ws : List Value), ws.length = ks.length → bindArgs (PySem.W.fnOf x q (defArgs st) (defBody st) (defScope st) .none kV doc pm an cdv ct) ⟨[u], ks.zip ws⟩ = pure (ps.zip (u :: ws))) :
    KBn K fd ps 1 ks (fun us ws => us ++ ws) (fun vs zs => vs ++ zs) where
  to := fun s us ws hK l1 l2 => by
    obtain ⟨oc, od, kV, doc, pm, an, cdv, ct, osl, rfl, _⟩ := F.ex
    match us, l1 with
    | [u], _ => exact .of_eq (h kV doc pm an cdv ct u ws l2)
  rel := fun r1 r2 => r1.append r2
section
variable {X : Cx} {CX : CXT} {k n : Nat} {fI C : Addr} {fd : FuncData} {ps ks : List Str} {sp : Sp} {E : XK} {x : Str} {p pos : Pos} {e : Expr} {es : List Expr} {kws : List Keyword} {t tk : TA} {g : List Value → List Value → List Value} {gV : List V → List V → List V}
/-- C(..), an error as a value -/
theorem run_mkE {pn : List (Addr × Obj)} {σ : L2.St} {H : Hp} {s : Shared} {Q : VK} {us ws : List Value} {vs zs : List V} (T : OexG X.K C) (iC : PySem.W.findIn X.K (.ref C) "__init__" = some (some (.ref fI))) (tI : PySem.W.typeIn X.K (.ref fI) = some (.type "function"))
    (F1 : FnOk X.prog X.w X.K X.mg X.base CX k fI fd ps sp) (hr : Room (k + 1) X.A) (hb : KBn X.K fd ps (n + 1) ks g gV) (hx : Passes CX X E) (I : Inv X pn σ H s) (r : Vals vs us) (rz : Vals zs ws) (l1 : vs.length = n) (l2 : zs.length = ks.length) (few : n ≤ 1000)
    (h : ∀ a, H a = none → sp (gV (.ref a :: vs) zs) (upd H a (exo a C none)) (fun v H2 => v = .non ∧ Q (.ref a) H2) E) :
    wpAny (model X.prog X.w) X.A (call (.ref C) us (ks.zip ws)) (EP X pn σ Q) X.xe s := by
  obtain ⟨nm, q, N, bs, bm, sn, sub, ab, col, dd, k0, k1, k2, k3, k5, B, nI, iI, mB, hC, Z, tB, tA, tN⟩ := T.cls
  obtain ⟨hp, gs, dr, tk0, os⟩ := s
  have hsz : hp.objs.size ≤ hp.objs.size + 1 := Nat.le_succ _
  have hn : H (hp.objs.size + 1) = none := I.hok.fresh hsz
  have hq := h (hp.objs.size + 1) hn
  have kk : ∀ b o, hp.get? b = some o → ((hp.push (PySem.W.kdv_tup us)).push (HandSPX.excO C hp.objs.size)).get? b = some o := fun b o e => Heap.get?_push_of_some _ (Heap.get?_push_of_some _ e)
  have new : ((hp.push (PySem.W.kdv_tup us)).push (HandSPX.excO C hp.objs.size)).get? (hp.objs.size + 1) = some (HandSPX.excO C hp.objs.size) := by heap_get
  have I2 : Inv X pn σ (upd H (hp.objs.size + 1) (exo (hp.objs.size + 1) C none)) ⟨(hp.push (PySem.W.kdv_tup us)).push (HandSPX.excO C hp.objs.size), gs, dr, tk0, os⟩ := by
    refine I.laid (t' := tk0) (a := hp.objs.size + 1) (o := exo (hp.objs.size + 1) C none) ?_ hsz (exo_ok new)
    exact kk
  have r1 : Vals (V.ref (hp.objs.size + 1) :: vs) (Value.ref (hp.objs.size + 1) :: us) := .cons rfl r
  have r2 := hb.rel r1 rz
  have e1 : (Value.ref (hp.objs.size + 1) :: us).length = n + 1 := r1.length.symm.trans (congrArg Nat.succ l1)
  have e2 : ws.length = ks.length := rz.length.symm.trans l2
  have fits : us.length ≤ sizeLine := by
    rw [← r.length, l1, sizeLine_eq]
    omega
  apply wpAny_call
  apply xo_call Z tB tA tN fits (I.kIn _ _ hC) (PySem.W.looks_findIn I.kIn iC) (fun self => PySem.W.bind_fn I.kIn self tI)
  refine codeAny_mono (F1.run _ X.stack _ _ ⟨Value.ref (hp.objs.size + 1) :: us, ks.zip ws⟩ (g (Value.ref (hp.objs.size + 1) :: us) ws) _ _ E (hr.make C us (ks.zip ws)) (I2.env0.make C us (ks.zip ws)) (hb.to _ _ ws I2.kIn e1 e2) r2 hq) fun ans s' back => ?_
  match ans, back with
  | .error z, back => exact hx pn σ _ _ z s' I2 back
  | .ok (.ret u), back =>
    obtain ⟨v, H', I3, rv, ev, q3⟩ := I2.after back
    subst ev
    exact ⟨rv, V.ref (hp.objs.size + 1), H', I3, rfl, q3⟩
  | .ok .next, back => exact back.elim
  | .ok .brk, back => exact back.elim
  | .ok .cont, back => exact back.elim
/-- C(e, ..) as a value: n values, m keywords -/
def tMkE (C : Addr) (n m : Nat) (sp : Sp) (gV : List V → List V → List V) (E : XK) (t tk : TA) : TE := fun σ H Q => t σ H fun vs H1 => tk σ H1 fun zs H2 => vs.length = n ∧ zs.length = m ∧
  ∀ a, H2 a = none → sp (gV (.ref a :: vs) zs) (upd H2 a (exo a C none)) (fun v H3 => v = .non ∧ Q (.ref a) H3) E
/-- what is known of C in X -/
structure ErrC (P : Program) (w : World) (K : PySem.W.Frag) (mg : Str → Option Value) (base : Heap) (x : Str) (C : Addr) (ps : List Str) (sp : Sp) : Prop where
  gC : mg x = some (.ref C)
  T : OexG K C
  ini : ∃ (fI : Addr) (fd : FuncData), PySem.W.findIn K (.ref C) "__init__" = some (some (.ref fI)) ∧ PySem.W.typeIn K (.ref fI) = some (.type "function") ∧ Binds K fd ps [] ∧ KBn K fd ps 1 ps.tail (fun us ws => us ++ ws) (fun vs zs => vs ++ zs) ∧ FnOk P w K mg base CX0 1 fI fd ps sp
theorem pe_mkE1 (Z : ErrC X.prog X.w X.K X.mg X.base x C ps sp) (hr : Room 2 X.A) (hl : ps.length = n + 1) (few : n ≤ 1000) (ha : PA X (e :: es) t) (hg : Gl X x := by rfl)
    (hdb : (x == ("__debug__" : Str)) = false := by decide) (he : starEach (e :: es) X.env = (false, eval e X.env) :: starEach es X.env := by rfl) (hpl : (backTo pos (starEach es X.env)).any (·.1) = false := by rfl) :
    PE X (.Call (.Name x p) (e :: es) [] pos) (tMkE C n 0 sp (fun vs _ => vs) (fun _ _ _ => False) t tNil) := by
  constructor
  intro pn s σ H Q I h
  obtain ⟨fI, fd, iC, tI, b, _, F1⟩ := Z.ini
  apply wpAny_Call_Name_kw (ld_glob I hg Z.gC ?_ hdb)
  apply PySem.W.callWith_K (h₀ := X.base) I.ok.mod.kin Z.T.kC (thn (ha.run pos pn s σ H _ I h) fun us s1 hz => ?_) he hpl
  obtain ⟨vs, H1, I1, r, l1, _, q⟩ := hz
  refine ⟨I1.kIn, ?_⟩
  have kb : KBn X.K fd ps (n + 1) [] (fun us _ => us) (fun vs _ => vs) := hl ▸ kb_all b
  exact run_mkE (ws := []) (zs := []) Z.T iC tI F1 hr kb pass0 I1 r .nil l1 rfl few q
theorem pe_mkE0 (Z : ErrC X.prog X.w X.K X.mg X.base x C ps sp) (hr : Room 2 X.A) (hl : ps.length = 1) (hg : Gl X x := by rfl) (hdb : (x == ("__debug__" : Str)) = false := by decide) :
    PE X (.Call (.Name x p) [] [] pos) (tMkE C 0 0 sp (fun vs _ => vs) (fun _ _ _ => False) tNil tNil) := by
  constructor
  intro pn s σ H Q I h
  obtain ⟨fI, fd, iC, tI, b, _, F1⟩ := Z.ini
  apply wpAny_Call_Name_kw (ld_glob I hg Z.gC ?_ hdb)
  have kb : KBn X.K fd ps (0 + 1) [] (fun us _ => us) (fun vs _ => vs) := by have z := kb_all b; rw [hl] at z; exact z
  obtain ⟨_, _, q⟩ := h
  exact PySem.W.callWith_K0 I.kIn Z.T.kC (run_mkE (us := []) (vs := []) (ws := []) (zs := []) Z.T iC tI F1 hr kb pass0 I .nil .nil rfl rfl (by decide) q)
theorem pe_mkEK (Z : ErrC X.prog X.w X.K X.mg X.base x C ps sp) (hr : Room 2 X.A) (hkw : PK X kws tk) (hg : Gl X x := by rfl)
    (hall : (backToKw pos (keywordEach kws X.env)).all (·.1.isSome) = true := by rfl) (hks : (backToKw pos (keywordEach kws X.env)).filterMap (·.1) = ps.tail := by rfl) (hdb : (x == ("__debug__" : Str)) = false := by decide)
    (hpl : ((backTo pos (starEach [] X.env)).any (·.1) || (backToKw pos (keywordEach kws X.env)).any (·.1.isNone)) = false := by rfl) :
    PE X (.Call (.Name x p) [] kws pos) (tMkE C 0 ps.tail.length sp (fun vs zs => vs ++ zs) (fun _ _ _ => False) tNil tk) := by
  constructor
  intro pn s σ H Q I h
  obtain ⟨fI, fd, iC, tI, _, kb, F1⟩ := Z.ini
  apply wpAny_Call_Name_kw (ld_glob I hg Z.gC ?_ hdb)
  apply PySem.W.callWith_KW0 (h₀ := X.base) I.ok.mod.kin Z.T.kC hall ?_ hpl
  refine thn (hkw.run pos pn s σ H _ I h) fun ws s2 hz => ?_
  obtain ⟨zs, H2, I2, rz, l1, l2, q⟩ := hz
  refine ⟨I2.kIn, ?_⟩
  rw [hks]
  exact run_mkE (us := []) (vs := []) Z.T iC tI F1 hr kb pass0 I2 .nil rz rfl l2 (by decide) q
end
/-! ### the errors' own __init__ -/
/-- __init__(self, value): self.value = value -/
def spI1 (K : PySem.W.Frag) (C : Addr) : Sp := fun vs H Q _ => ∃ (a : Addr) (v : V), vs = [.ref a, v] ∧ H a = some (exo a C none) ∧ ∀ dx, H dx = none → dx ≠ a → Q .non (upd (upd H dx (exd dx [(("value" : Str), v)])) a (exo a C (some dx)))
theorem ok_i1 {P : Program} {w : World} {K : PySem.W.Frag} {mg : Str → Option Value} {base : Heap} {st : Stmt} {q : Str} {f C : Addr} {fd : FuncData} (F : Fun K "__init__" q st f fd) (sc : FnScope ["self", "value"] ["self", "value"] (defScope st))
    (hb : ∃ p1 p2 p3 p4, defBody st = [.Assign [.Attribute (.Name "self" p1) "value" p2] (.Name "value" p3) p4]) (T : OexG K C) (nv : PySem.W.findIn K (.ref C) "value" = some none) : FnOk P w K mg base CX0 1 f fd ["self", "value"] (spI1 K C) := by
  apply F.ok sc
  · rintro vs H Q E ⟨a, v, rfl, _⟩
    rfl
  · rintro cdv A outer s H vs Q E hr ⟨a, v, rfl, ha, k⟩
    obtain ⟨p1, p2, p3, p4, eb⟩ := hb
    rw [eb]
    have v0 : Vis (defScope st) "self" := (sc.par "self" (by simp)).elim Or.inl fun z => Or.inr (Or.inl z)
    have v1 : Vis (defScope st) "value" := (sc.par "value" (by simp)).elim Or.inl fun z => Or.inr (Or.inl z)
    exact ⟨_, pss_one (ps_gst (pv 0 rfl v0) (pv 1 rfl v1)), _, rfl, _, rfl, a, C, rfl, T, nv, .inl ⟨ha, fun dx hd hn => k dx hd hn⟩⟩
/-- __init__(self, word, value) -/
def spI2 (K : PySem.W.Frag) (C : Addr) : Sp := fun vs H Q _ => ∃ (a : Addr) (v1 v2 : V), vs = [.ref a, v1, v2] ∧ H a = some (exo a C none) ∧ ∀ dx, H dx = none → dx ≠ a →
  Q .non (upd (upd (upd H dx (exd dx [(("word" : Str), v1)])) a (exo a C (some dx))) dx (exd dx [(("value" : Str), v2), (("word" : Str), v1)]))
theorem ok_i2 {P : Program} {w : World} {K : PySem.W.Frag} {mg : Str → Option Value} {base : Heap} {st : Stmt} {q : Str} {f C : Addr} {fd : FuncData} (F : Fun K "__init__" q st f fd) (sc : FnScope ["self", "word", "value"] ["self", "word", "value"] (defScope st))
    (hb : ∃ p1 p2 p3 p4 q1 q2 q3 q4, defBody st = [.Assign [.Attribute (.Name "self" p1) "word" p2] (.Name "word" p3) p4, .Assign [.Attribute (.Name "self" q1) "value" q2] (.Name "value" q3) q4])
    (T : OexG K C) (nv : PySem.W.findIn K (.ref C) "value" = some none) (nw : PySem.W.findIn K (.ref C) "word" = some none) : FnOk P w K mg base CX0 1 f fd ["self", "word", "value"] (spI2 K C) := by
  apply F.ok sc
  · rintro vs H Q E ⟨a, u, v, rfl, _⟩
    rfl
  · rintro cdv A outer s H vs Q E hr ⟨a, u, v, rfl, ha, k⟩
    obtain ⟨p1, p2, p3, p4, q1, q2, q3, q4, eb⟩ := hb
    rw [eb]
    have v0 : Vis (defScope st) "self" := (sc.par "self" (by simp)).elim Or.inl fun z => Or.inr (Or.inl z)
    have v1 : Vis (defScope st) "word" := (sc.par "word" (by simp)).elim Or.inl fun z => Or.inr (Or.inl z)
    have v2 : Vis (defScope st) "value" := (sc.par "value" (by simp)).elim Or.inl fun z => Or.inr (Or.inl z)
    refine ⟨_, pss_cons (ps_gst (pv 0 rfl v0) (pv 1 rfl v1)) (pss_one (ps_gst (pv 0 rfl v0) (pv 2 rfl v2))), ?_⟩
    refine ⟨_, rfl, _, rfl, a, C, rfl, T, nw, .inl ⟨ha, fun dx hd hn => ?_⟩⟩
    refine ⟨_, rfl, _, rfl, a, C, rfl, T, nv, .inr ⟨dx, _, upd_same, ?_, ?_, k dx hd hn⟩⟩
    · rw [upd_ne hn, upd_same]
    · simp
end Tk

set_option Elab.async false
set_option linter.all false
set_option maxRecDepth 100000
set_option maxHeartbeats 4000000
/-! errors kept as values: isinstance, fields, RuntimeError's own __init__ -/
namespace Tk
open PySem PySem.Spec PyProof.Rows L2
/-- isinstance(e, c), e an error that is kept -/
def rIsX (K : PySem.W.Frag) : List V → Hp → VK → Prop := fun xs H Q => ∃ (a D : Addr) (d : Option Addr) (c : V) (cv : Value) (b : Bool), xs = [.ref a, c] ∧ H a = some (exo a D d) ∧ (∀ dd, d = some dd → ∃ fs, H dd = some (exd dd fs)) ∧ ExcC K D ∧
  (∀ u, RelV c u → u = cv) ∧ PySem.W.kitOne K (.ref D) cv = some b ∧ Q (.bl b) H
theorem call_isX {X : Cx} {K : PySem.W.Frag} (eK : X.K = K := by rfl) : CallR X (.builtin "isinstance") (rIsX K) := by
  subst eK
  intro pn s σ H xs us Q I r h
  obtain ⟨a, D, d, c, cv, b, rfl, ha, hd, Z, hcv, e, q⟩ := h
  obtain ⟨u1, u2, rfl, r1, r2⟩ := vals2 r
  cases r1
  have ec := hcv _ r2
  subst ec
  obtain ⟨t1, ho⟩ := exo_at I.hok ha
  have hcl : (PySem.W.clsIn X.K D).isSome = true := by
    obtain ⟨cd, hc, _⟩ := PySem.W.any_some Z.hd
    rw [hc]
    rfl
  have fin : ∀ tk, EP X pn σ Q (.bool b) { s with toks := tk } := fun tk => ⟨.bl b, H, I.kept (t' := tk) fun _ _ z => z, rfl, q⟩
  cases d with
  | none =>
    have J : PySem.W.InstAt s.heap a { cls := .ref D, dict := none, data := .fields #[.ref t1, .none, .none, .none, .bool false, .none] } D none := ⟨ho, rfl, rfl, trivial⟩
    exact PySem.W.kia_one (PySem.W.kitx_exc hcl Z.hg Z.hk Z.hs Z.ha Z.hn Z.ht Z.hm) I.kIn J e (fun z => nomatch z) fin
  | some dd =>
    obtain ⟨fs, hf⟩ := hd dd rfl
    obtain ⟨mA, ns, rel⟩ := exd_at I.hok hf
    obtain ⟨oD, _, _, there, _⟩ := ns.count (within_of rel)
    have J : PySem.W.InstAt s.heap a { cls := .ref D, dict := some dd, data := .fields #[.ref t1, .none, .none, .none, .bool false, .none] } D (some oD) := ⟨ho, rfl, rfl, there⟩
    exact PySem.W.kia_one (PySem.W.kitx_exc hcl Z.hg Z.hk Z.hs Z.ha Z.hn Z.ht Z.hm) I.kIn J e (fun z => nomatch z) fin
/-- e.n, e an error that is kept -/
def tFldX (K : PySem.W.Frag) (n : Str) (te : TE) : TE := fun σ H Q => te σ H fun x H1 => ∃ (a D dd : Addr) (fs : List (Str × V)) (v : V), x = .ref a ∧ H1 a = some (exo a D (some dd)) ∧ H1 dd = some (exd dd fs) ∧ fs.lookup n = some v ∧ XfC K D ∧ PySem.W.findIn K (.ref D) n = some none ∧ Q v H1
theorem pe_fldX {X : Cx} {K : PySem.W.Frag} {e : Expr} {te : TE} {pos : Pos} {n : Str} (he : PE X e te) (eK : X.K = K := by rfl) (hb : attributeBase e n X.env (eval e X.env) = eval e X.env := by rfl) : PE X (.Attribute e n pos) (tFldX K n te) := by
  subst eK
  constructor
  intro pn s σ H Q I h
  refine attr_of hb (thn (he.run pn s σ H _ I h) fun u s1 hh => ?_)
  obtain ⟨x, H1, I1, rx, a, D, dd, fs, v, rfl, ha, hd, hl, T, no, q⟩ := hh
  cases rx
  obtain ⟨t1, ho⟩ := exo_at I1.hok ha
  obtain ⟨mA, ns, rel⟩ := exd_at I1.hok hd
  obtain ⟨oD, e1, l1⟩ := lookIn_ns ns
  obtain ⟨u, hu, ru⟩ := RelO.some_of (v := v) (o := mA n) (by rw [← hl]; exact rel n)
  have J : PySem.W.InstAt s1.heap a { cls := .ref D, dict := some dd, data := .fields #[.ref t1, .none, .none, .none, .bool false, .none] } D (some oD) := ⟨ho, rfl, rfl, e1⟩
  refine HandSPX.exc_get I1.kIn J T.ga T.gg T.exC (PySem.W.findObj_own T.hdC no rfl ?_) (handed_of ru) ?_
  · rw [l1, hu]
  · exact ⟨v, H1, I1.tok _, ru, q⟩
/-! ### RuntimeError.__init__(self, text) -/
theorem typ_re : typeOf (.type "RuntimeError") = pure (.type "type") := by kernel_rfl
def OverR (K : PySem.W.Frag) (C : Addr) : Prop := ∃ nm q N bs bm sn sub ab col dd k0 k1 k2 k3 k5, K.lookup C = some (excClassObj nm q C N bs bm true sn sub ab col dd k0 k1 k2 k3 k5 "RuntimeError.__new__") ∧ PySem.W.excTail [.type "RuntimeError", .type "Exception", .type "BaseException", .type "object"] bm = true
def tReI (K : PySem.W.Frag) (ta : TA) : TE := fun σ H Q => ta σ H fun vs H1 => ∃ (a C : Addr) (ws : List V), vs = .ref a :: ws ∧ ws.length ≤ 1000 ∧ OverR K C ∧ H1 a = some (exo a C none) ∧ Q .non H1
theorem pe_reinit {X : Cx} {e : Expr} {es : List Expr} {ta : TA} {p1 p2 pos : Pos} {pl : Sem Bool} (hg : Gl X "RuntimeError") (hm : X.mg "RuntimeError" = none) (vV : PySem.W.findCls X.K (.type "RuntimeError") (.type "type") "__init__" = some (.val (.builtin "RuntimeError.__init__"))) (ha : PA X (e :: es) ta)
    (hc : eval (.Call (.Attribute (.Name "RuntimeError" p1) "__init__" p2) (e :: es) [] pos) X.env = (do
      let ov ← eval (.Name "RuntimeError" p1) X.env
      standAt p2.atName
      let (f, first) ← holding [ov] (getMethod ov "__init__" pl)
      callWith pos f first (backTo pos (starEach (e :: es) X.env)) (backToKw pos (keywordEach [] X.env))) := by rfl)
    (he : starEach (e :: es) X.env = (false, eval e X.env) :: starEach es X.env := by rfl) (hpl : (backTo pos (starEach es X.env)).any (·.1) = false := by rfl) :
    PE X (.Call (.Attribute (.Name "RuntimeError" p1) "__init__" p2) (e :: es) [] pos) (tReI X.K ta) := by
  constructor
  intro pn s σ H Q I h
  refine PySem.W.methodCall_KW (ld_blt I hg hm PyProof.Rows.Boot.«RuntimeError» ?_ (by decide) (by decide)) hc
  obtain ⟨m, fr⟩ := I.fr
  refine PySem.W.method_type fr I.ok.mod.kin typ_re (by decide +kernel) vV (by decide +kernel) ?_
  show wpAny _ _ (callWith pos (Value.builtin "RuntimeError.__init__") [] (backTo pos (starEach (e :: es) X.env)) []) _ _ _
  refine PyProof.Rows.callWith_method1 (thn (ha.run pos pn _ σ H _ (I.tok _) h) fun us s1 hz => ?_) he hpl
  obtain ⟨vs, H1, I1, r1, a, C, ws, rfl, hl, hC, ea, q⟩ := hz
  obtain ⟨nm, qn, N, bs, bm, sn, sub, ab, col, dd, k0, k1, k2, k3, k5, o, tl⟩ := hC
  cases r1 with
  | @cons _ u0 _ ur ra rw' =>
    cases ra
    have fits : ur.length ≤ sizeLine := by
      rw [← Paired.length rw', sizeLine_eq]
      omega
    obtain ⟨t1, ho⟩ := exo_at I1.hok ea
    obtain ⟨hp, gs, d, t, os⟩ := s1
    apply wpAny_call
    refine HandSPX.init_base F.excBase_RuntimeError (fun Y => PySem.W.excTail_contains Y bm tl) (I1.kIn _ _ o) ho fits fun h' t2 k hx => ?_
    have J := I1.write (t' := t) (x := a) (e := a) (o := exo a C none) (by rw [ea]; exact True.intro) (.inl rfl) k ⟨_, hx⟩ (exo_ok hx)
    have same : upd H1 a (exo a C none) = H1 := by
      funext b
      by_cases hb : b = a
      · subst hb
        rw [upd_same, ea]
      · exact upd_ne hb
    rw [same] at J
    exact ⟨.non, H1, J, rfl, q⟩
def spI0 (K : PySem.W.Frag) (C : Addr) : Sp := fun vs H Q _ => ∃ a : Addr, vs = [.ref a] ∧ H a = some (exo a C none) ∧ Q .non H
end Tk

set_option Elab.async false
set_option linter.all false
set_option maxRecDepth 100000
set_option maxHeartbeats 4000000
/-! errors over any base: raised; several except clauses, each with its name -/
namespace Tk
open PySem PySem.Spec PyProof.Rows L2
section
variable {X : Cx} {x : Str} {C : Addr} {ps : List Str} {sp : Sp} {e : Expr} {es : List Expr} {t : TA} {p pos : Pos}
theorem pmk_G (Z : ErrC X.prog X.w X.K X.mg X.base x C ps sp) (hr : Room 2 X.A) (ha : PA X (e :: es) t) (hg : Gl X x := by rfl) (hdb : (x == ("__debug__" : Str)) = false := by decide)
    (he : starEach (e :: es) X.env = (false, eval e X.env) :: starEach es X.env := by rfl) (hpl : (backTo pos (starEach es X.env)).any (·.1) = false := by rfl) :
    PMk X (.Call (.Name x p) (e :: es) [] pos) (tMkO C sp [] t) := by
  intro pn s σ H Q I h
  obtain ⟨fI, fd, iC, tI, b, _, F1⟩ := Z.ini
  have T := Z.T
  obtain ⟨nm, q, N, bs, bm, sn, sub, ab, col, dd, k0, k1, k2, k3, k5, B, nI, iI, mB, hC, ZB, tB, tA, tN⟩ := T.cls
  apply wpAny_Call_Name_kw (ld_glob I hg Z.gC ?_ hdb)
  apply PySem.W.callWith_K (h₀ := X.base) I.ok.mod.kin T.kC (thn (ha.run pos pn s σ H _ I h) fun us s1 hz => ?_) he hpl
  obtain ⟨vs, H1, I1, r, few, q1⟩ := hz
  refine ⟨I1.kIn, ?_⟩
  obtain ⟨hp, gs, dr, tk0, os⟩ := s1
  have hsz : hp.objs.size ≤ hp.objs.size + 1 := Nat.le_succ _
  have hn : H1 (hp.objs.size + 1) = none := I1.hok.fresh hsz
  have hq := q1 (hp.objs.size + 1) hn
  have kk : ∀ b o, hp.get? b = some o → ((hp.push (PySem.W.kdv_tup us)).push (HandSPX.excO C hp.objs.size)).get? b = some o := fun b o e => Heap.get?_push_of_some _ (Heap.get?_push_of_some _ e)
  have new : ((hp.push (PySem.W.kdv_tup us)).push (HandSPX.excO C hp.objs.size)).get? (hp.objs.size + 1) = some (HandSPX.excO C hp.objs.size) := by heap_get
  have I2 : Inv X pn σ (upd H1 (hp.objs.size + 1) (exo (hp.objs.size + 1) C none)) ⟨(hp.push (PySem.W.kdv_tup us)).push (HandSPX.excO C hp.objs.size), gs, dr, tk0, os⟩ := by
    refine I1.laid (t' := tk0) (a := hp.objs.size + 1) (o := exo (hp.objs.size + 1) C none) ?_ hsz (exo_ok new)
    exact kk
  have r2 : Vals (V.ref (hp.objs.size + 1) :: (vs ++ [])) (Value.ref (hp.objs.size + 1) :: us) := .cons rfl (by rw [List.append_nil]; exact r)
  have e1 : (Value.ref (hp.objs.size + 1) :: us).length = ps.length := r2.length.symm.trans (F1.len _ _ _ _ hq)
  have bt := b _ (Value.ref (hp.objs.size + 1) :: us) I2.kIn (by rw [List.append_nil]; exact e1)
  rw [List.append_nil] at bt
  have fits : us.length ≤ sizeLine := by
    rw [← r.length, sizeLine_eq]
    omega
  apply wpAny_call
  apply xo_call ZB tB tA tN fits (I1.kIn _ _ hC) (PySem.W.looks_findIn I1.kIn iC) (fun self => PySem.W.bind_fn I1.kIn self tI)
  refine codeAny_mono (F1.run _ X.stack _ _ ⟨Value.ref (hp.objs.size + 1) :: us, []⟩ (Value.ref (hp.objs.size + 1) :: us) _ _ (fun _ _ _ => False) (hr.make C us []) (I2.env0.make C us []) bt r2 hq) fun ans s' back => ?_
  match ans, back with
  | .error z, back => exact pass0 (X := X) pn σ _ _ z s' I2 back
  | .ok (.ret u), back =>
    obtain ⟨v, H2, g1, g2, g3, g4, g5, g6, d, fs, ea, ed, hd1, q2⟩ := back
    subst g6
    obtain ⟨h2, gs2, d2, t2, os2⟩ := s'
    exact ⟨g5, mk_end (raises_own T.exC T.tyC) I1 hsz kk g3 g4 g1 g2 ea ed hd1 q2⟩
  | .ok .next, back => exact back.elim
  | .ok .brk, back => exact back.elim
  | .ok .cont, back => exact back.elim
def tRaiseG (C : Addr) (sp : Sp) (W : WX) (t : TA) : TS := fun _ σ H => tMkO C sp [] t σ H fun cls d H' => W cls d σ H'
theorem ps_raiseG {W : WX} {pos2 : Pos} (Z : ErrC X.prog X.w X.K X.mg X.base x C ps sp) (tk : Takes X W) (hr : Room 2 X.A) (ha : PA X (e :: es) t) (hc : X.calm = true := by rfl) (hg : Gl X x := by rfl)
    (hdb : (x == ("__debug__" : Str)) = false := by decide) (he : starEach (e :: es) X.env = (false, eval e X.env) :: starEach es X.env := by rfl) (hpl : (backTo pos (starEach es X.env)).any (·.1) = false := by rfl) :
    PS X (.Raise (some (.Call (.Name x p) (e :: es) [] pos)) none pos2) (tRaiseG C sp W t) := ps_raise hc tk (pmk_G Z hr ha hg hdb he hpl)
end
theorem r_raiseG {C : Addr} {sp : Sp} {W : WX} {t : TA} {D : Ends} {σ : L2.St} {H : Hp} (h : t σ H fun vs H1 => vs.length ≤ 1000 ∧ ∀ a, H1 a = none → sp (.ref a :: (vs ++ [])) (upd H1 a (exo a C none))
    (fun z H2 => z = .non ∧ ∃ (d : Addr) (fs : List (Str × V)), H2 a = some (exo a C (some d)) ∧ H2 d = some (exd d fs) ∧ H1 d = none ∧ W (.ref C) (some d) σ (upd (del H2 a) d (.xd fs))) (fun _ _ _ => False)) : tRaiseG C sp W t D σ H := h
section
variable {K : PySem.W.Frag} {C : Addr} {H : Hp} {R : XK}
/-- one argument, kept as value -/
theorem mk_one {v : V} (q : ∀ d H2, H d = none → Same H H2 → H2 d = some (.xd (valF v)) → R (.ref C) (some d) H2) : [v].length ≤ 1000 ∧ ∀ a, H a = none → spI1 K C (.ref a :: ([v] ++ [])) (upd H a (exo a C none))
    (fun z H2 => z = .non ∧ ∃ (d : Addr) (fs : List (Str × V)), H2 a = some (exo a C (some d)) ∧ H2 d = some (exd d fs) ∧ H d = none ∧ R (.ref C) (some d) (upd (del H2 a) d (.xd fs))) (fun _ _ _ => False) := by
  refine ⟨by simp, fun a ha => ⟨a, v, rfl, upd_same, fun dx hd hn => ⟨rfl, dx, valF v, upd_same, by rw [upd_ne hn, upd_same], ?_, ?_⟩⟩⟩
  all_goals rw [upd_ne hn] at hd
  · exact hd
  · refine q dx _ hd (fun b o e => ?_) upd_same
    have n1 := ne_of_none e hd
    have n2 := ne_of_none e ha
    rw [upd_ne n1, del_ne n2, upd_ne n2, upd_ne n1, upd_ne n2]
    exact e
/-- two arguments, kept as word and value -/
abbrev refF (w v : V) : List (Str × V) := [(("value" : Str), v), (("word" : Str), w)]
theorem mk_two {w v : V} (q : ∀ d H2, H d = none → Same H H2 → H2 d = some (.xd (refF w v)) → R (.ref C) (some d) H2) : [w, v].length ≤ 1000 ∧ ∀ a, H a = none → spI2 K C (.ref a :: ([w, v] ++ [])) (upd H a (exo a C none))
    (fun z H2 => z = .non ∧ ∃ (d : Addr) (fs : List (Str × V)), H2 a = some (exo a C (some d)) ∧ H2 d = some (exd d fs) ∧ H d = none ∧ R (.ref C) (some d) (upd (del H2 a) d (.xd fs))) (fun _ _ _ => False) := by
  refine ⟨by simp, fun a ha => ⟨a, w, v, rfl, upd_same, fun dx hd hn => ⟨rfl, dx, refF w v, ?_, upd_same, ?_, ?_⟩⟩⟩
  · rw [upd_ne (Ne.symm hn), upd_same]
  all_goals rw [upd_ne hn] at hd
  · exact hd
  · refine q dx _ hd (fun b o e => ?_) upd_same
    have n1 := ne_of_none e hd
    have n2 := ne_of_none e ha
    rw [upd_ne n1, del_ne n2, upd_ne n1, upd_ne n2, upd_ne n1, upd_ne n2]
    exact e
end
/-! ### several clauses: except x as n -/
/-- a clause: the class it names, the slot of its name, its suite's reading -/
abbrev Cla := Value × Nat × (Addr → Value → Option Addr → TS)
def wMs (K : PySem.W.Frag) (out : WX) (D : Ends) : List Cla → WX
  | [] => out
  | (c, i, ts) :: rest => fun cls d σ H => ∃ b, PySem.W.exmOne K cls c = some b ∧
      (b = true → ∀ a, H a = none → ts a cls d ⟨fun τ G => D.nx (τ.set i none) G, D.rt, fun τ G => D.bk (τ.set i none) G, fun τ G => D.ct (τ.set i none) G⟩ (σ.set i (some (.ref a))) H) ∧ (b = false → wMs K out D rest cls d σ H)
inductive ClsOk (X : Cx) : List ExceptHandler → List Cla → Prop
  | nil : ClsOk X [] []
  | cons {x n : Str} {c : Value} {i : Nat} {ts : Addr → Value → Option Addr → TS} {b₀ : Stmt} {suite : List Stmt} {p1 p2 : Pos} {more : List ExceptHandler} {l : List Cla} (hc : Names X x c) (hi : X.N[i]? = some n) (hn : X.env.kindOf n = some .local)
      (su : ∀ (a : Addr) (oe : Obj) (cls : Value) (d : Option Addr) (pn : List (Addr × Obj)), Zc cls d oe → (∃ vs, oe.data = .fields vs) → PSs (X.suite a ((a, oe) :: pn)) (b₀ :: suite) (ts a cls d)) (r : ClsOk X more l) :
      ClsOk X (.ExceptHandler (some (.Name x p1)) (some n) (b₀ :: suite) p2 :: more) ((c, i, ts) :: l)
section
variable {X : Cx} {body : List Stmt} {h₀ : ExceptHandler} {more : List ExceptHandler} {l : List Cla} {pos : Pos} {tb : WX → TS} {out : WX}
/-- the clauses, one behind the other, where the error has landed -/
theorem clauses_run {pins : List (Addr × Obj)} {σ : L2.St} {H : Hp} {D : Ends} {a : Addr} {B : Heap} {sI s3 : Shared} {cls : Value} {d : Option Addr} (ok : X.Ok) (hN : X.N.Nodup) (hs : X.stack = X.env :: X.outer) (hf : X.env.frame = some X.env.locals) (tk : Takes X out)
    (J : Inv X pins σ H sI) (nb : ∀ b o, sI.heap.get? b = some o → b ∉ frs X.stack → B.get? b = some o) (up : sI.heap.UpToSlots s3.heap) (fl : HandSPX.FlyingZ B (X.env :: X.outer) a (Zc cls d) s3.heap) (na : H a = none) (os : s3.os = sI.os) (ag : AllBare s3.gens) :
    ∀ {hds : List ExceptHandler} {l : List Cla}, ClsOk X hds l → wMs X.K out D l cls d σ H → wpAny (model X.prog X.w) X.A (handleBy (.ref a) X.env hds) (SP X pins D) X.xe s3 := by
  have J3 : Inv X pins σ H s3 := by
    have z := J.landed (s' := s3) nb fl.1 up os ag
    exact z
  obtain ⟨oe3, vs3, he3, hz3, hd3⟩ := fl.there
  have off : ∀ {h : Heap} {o : Obj} {vs : Array Value}, h.FunFrames B (X.env :: X.outer) → h.get? a = some o → o.data = .fields vs → a ∉ frs (X.env :: X.outer) := by
    intro h o vs ff e dd hm
    obtain ⟨_, o', e', no⟩ := ff.mem hm
    rw [e] at e'
    cases e'
    exact no _ dd
  have far := off fl.2.2.1 he3 hd3
  have nL : a ≠ X.env.locals := by
    intro z
    refine far (List.mem_filterMap.mpr ⟨X.env, List.mem_cons_self, ?_⟩)
    rw [hf, z]
  have nF : a ∉ X.fs := by
    intro hm
    obtain ⟨e, he, q⟩ := List.mem_filterMap.mp hm
    exact far (List.mem_filterMap.mpr ⟨e, List.mem_cons_of_mem _ he, q⟩)
  have S3 := J3.suite he3 hd3 na nL nF
  intro hds l hk
  induction hk with
  | nil =>
    intro w
    apply wpAny_handleBy_nil
    obtain ⟨k1, k2, k3, oe, vs, T, oT, ts', he, hz, hd, h1, hr⟩ := id fl
    unfold PySem.passOn
    refine wpAny_bind (wpAny_field he hd h1 ?_)
    have tn : ¬ ((Value.ref T == Value.none) = true) := by simp
    rw [if_neg tn]
    have last : wpAny (model X.prog X.w) X.A (setFlight (.ref a) X.env.frame) (fun _ s4 => wpAny (model X.prog X.w) X.A (throw (.ref a) : Sem Flow) (SP X pins D) X.xe s4) X.xe s3 := by
      rw [hf]
      apply HandSPX.setFlight_upZ fl
      intro h4 hh4 up4
      refine wpAny_throw (tk _ _ ⟨a, B, sI, pins, σ, H, cls, d, rfl, J, nb, up.trans up4, .inr (.inr ?_), na, os, ag, w⟩)
      rw [hs]
      exact hh4
    first
      | exact wpAny_bind (wpAny_pure (wpAny_bind last))
      | exact wpAny_bind last
  | @cons x n c i ts b₀ suite p1 p2 more l2 hc hi hn su r ih =>
    intro w
    obtain ⟨b, hb1, yes, no⟩ := w
    apply wpAny_handleBy_cons (codeAny_handlers_test ?_) (by intro q; cases q)
    have LT : PySem.W.Looks (model X.prog X.w) s3.heap (typeOf (.ref a)) cls := by
      intro A Q E s k q
      exact wpAny_typeOf_ref (k _ _ he3) (by rw [hz3.1]; exact q)
    have LM := PySem.W.exm_one (M := model X.prog X.w) J3.kIn LT hb1
    have named : ∀ {Q : Value → Shared → Prop} {E : Value → Shared → Prop}, Q c s3 → wpAny (model X.prog X.w) (X.A.mark (some (.ref a))) (eval (.Name x p1) X.env) Q E s3 := by
      intro Q E q
      obtain ⟨hg, ndb, hm | ⟨hm, hv, nn⟩⟩ := hc
      · exact ld_glob (X := X.suite a ((a, oe3) :: (X.pn ++ pins))) S3 hg hm q ndb
      · exact ld_blt (X := X.suite a ((a, oe3) :: (X.pn ++ pins))) S3 hg hm hv q nn ndb
    refine named (LM.here ?_)
    cases b with
    | false =>
      show wpAny _ X.A (handleBy (.ref a) X.env more) _ _ _
      exact ih (no rfl)
    | true =>
      apply codeAny_handlers_suite_as
      apply HandSPX.lands_againZ fl
      intro h4 fl4 up4
      have J4 : Inv X pins σ H { s3 with heap := h4 } := by
        have z := J.landed (s' := { s3 with heap := h4 }) nb fl4.1 (up.trans up4) os ag
        exact z
      obtain ⟨oe4, vs4, he4, hz4, hd4⟩ := fl4.there
      have S4 := J4.suite he4 hd4 na nL nF
      refine store_ok (X := X.suite a ((a, oe4) :: (X.pn ++ pins))) (v := .ref a) S4 hN hi (.inl hn) rfl (fun s5 S5 => ?_) (.inr hn)
      have end_ : ∀ {σ6 : L2.St} {H6 : Hp} {s6 : Shared} {Q : Shared → Prop}, Inv (X.suite a ((a, oe4) :: (X.pn ++ pins))) [] σ6 H6 s6 → (∀ s7, Inv X pins (σ6.set i none) H6 s7 → Q s7) →
          wpAny (model X.prog X.w) X.A (do bindName X.env n .none; unbindBehindTheSuite X.env n p2) (fun _ s7 => Q s7) X.xe s6 := by
        intro σ6 H6 s6 Q S6 hq
        exact gone_ok (S6.unsuite ok) hN hi hn hq
      refine wpAny_mono ((su a oe4 cls d (X.pn ++ pins) hz4 ⟨_, hd4⟩).run [] s5 _ H _ S5 (yes rfl a na)) ?_ (fun _ _ z => False.elim z)
      intro f s6 hsp
      cases f with
      | ret u =>
        obtain ⟨v6, σ6, H6, S6, r6, q6⟩ := hsp
        exact end_ S6 fun s7 J7 => ⟨_, _, _, J7, r6, q6⟩
      | next =>
        obtain ⟨σ6, H6, S6, q6⟩ := hsp
        exact end_ S6 fun s7 J7 => ⟨_, _, J7, q6⟩
      | brk =>
        obtain ⟨σ6, H6, S6, q6⟩ := hsp
        exact end_ S6 fun s7 J7 => ⟨_, _, J7, q6⟩
      | cont =>
        obtain ⟨σ6, H6, S6, q6⟩ := hsp
        exact end_ S6 fun s7 J7 => ⟨_, _, J7, q6⟩
def tTryM (K : PySem.W.Frag) (out : WX) (l : List Cla) (tb : WX → TS) : TS := fun D σ H => tb (wMs K out D l) D σ H
theorem ps_try_ms (hs : X.stack = X.env :: X.outer) (hf : X.env.frame = some X.env.locals) (hN : X.N.Nodup) (tk : Takes X out)
    (hb : ∀ (W : WX) (pn : List (Addr × Obj)) (xe : Value → Shared → Prop), Takes (X.tr pn xe) W → PassesOwn (model X.prog X.w) X.A X.env xe → PSs (X.tr pn xe) body (tb W)) (hh : ClsOk X (h₀ :: more) l) :
    PS X (.Try body (h₀ :: more) [] [] pos) (tTryM X.K out l tb) := by
  constructor
  intro pins s σ H D I h
  have ok := I.ok
  have hfr : X.A.frames = some (X.env :: X.outer) := by rw [ok.frames, hs]
  apply wpAny_Try_except
  have body_ := hb (wMs X.K out D l) (X.pn ++ pins) (fun e s₁ => wpAny (model X.prog X.w) X.A (noteFrame e X.env) (fun _ s₂ => wpAny (model X.prog X.w) X.A (setFlight e none) (fun _ s₃ =>
    wpAny (model X.prog X.w) X.A (handleBy e X.env (h₀ :: more)) (SP X pins D) X.xe s₃) X.xe s₂) X.xe s₁)
  refine wpAny_mono ((body_ (fun u s' xx => ?_) PassesOwn.looking).run [] s σ H D (I.toTry _) h) (fun f s1 hsp => ?_) (fun e s1 he => he)
  · obtain ⟨a, B, sI, pins', σ', H', cls, d, rfl, J', nb, up, sky, na, os, ag, w⟩ := xx
    have sky2 : Sky B (X.env :: X.outer) a (Zc cls d) X.env.locals s'.heap := by rw [← hs]; exact sky
    show wpAny (model X.prog X.w) X.A (noteFrame (.ref a) X.env) _ _ _
    apply Sky.land Zc.steady hfr hf sky2
    intro h3 fl3 up3
    exact clauses_run (s3 := { s' with heap := h3 }) ok hN hs hf tk (J'.ofTry ok) nb (up.trans up3) fl3 na os ag hh w
  · cases f with
    | ret u =>
      obtain ⟨v, σ', H', J', r, q⟩ := hsp
      exact ⟨v, σ', H', J'.ofTry ok, r, q⟩
    | next =>
      obtain ⟨σ', H', J', q⟩ := hsp
      exact wpAny_execs_nil ⟨σ', H', J'.ofTry ok, q⟩
    | brk =>
      obtain ⟨σ', H', J', q⟩ := hsp
      exact ⟨σ', H', J'.ofTry ok, q⟩
    | cont =>
      obtain ⟨σ', H', J', q⟩ := hsp
      exact ⟨σ', H', J'.ofTry ok, q⟩
end
end Tk

set_option Elab.async false
set_option linter.all false
set_option maxRecDepth 100000
set_option maxHeartbeats 4000000
/-! lambdas: what stands while tables of code objects grow; the end of a law with such tables and with repr -/
namespace Tk
open PySem PySem.Spec PyProof.Rows L2
section
variable {K : PySem.W.Frag} {H H' : Hp}
theorem ext_same (s : Same H H') : LamX.ExtN H H' := fun b o e _ => s b o e
theorem ext_lst {a : Addr} {xs : List V} (s : LamX.ExtN H H') (e : H a = some (.lst xs)) : H' a = some (.lst xs) := s _ _ e fun _ z => nomatch z
theorem ext_tup {a : Addr} {xs : List V} (s : LamX.ExtN H H') (e : H a = some (.tup xs)) : H' a = some (.tup xs) := s _ _ e fun _ z => nomatch z
theorem ext_dK {a : Addr} {xs : List (Key × V)} (s : LamX.ExtN H H') (e : H a = some (.dK xs)) : H' a = some (.dK xs) := s _ _ e fun _ z => nomatch z
theorem ext_ins {a C dx : Addr} {fs : List (Str × V)} (s : LamX.ExtN H H') (e : H a = some (.ins C dx fs)) : H' a = some (.ins C dx fs) := s _ _ e fun _ z => nomatch z
theorem ext_rdl {a : Addr} {xs : List V} (s : LamX.ExtN H H') (e : Rd H a (.lst xs)) : Rd H' a (.lst xs) := by
  rcases e with e | ⟨o, e⟩
  · exact .inl (ext_lst s e)
  · exact .inr ⟨o, s _ _ e fun _ z => nomatch z⟩
theorem ext_sql {a : Addr} {xs : List V} (s : LamX.ExtN H H') (e : SqL K H a xs) : SqL K H' a xs := by
  rcases e with e | e
  · exact .inl (ext_rdl s e)
  · exact .inr e
mutual
theorem Dd.ext (s : LamX.ExtN H H') : ∀ (d : PyData) (v : V), Dd K H v d → Dd K H' v d
  | .none, _, h => by cases h; exact .non
  | .bool b, _, h => by cases h; exact .bl b
  | .int i, _, h => by cases h; exact .int i
  | .str x, _, h => by cases h; exact .str x
  | .list ds, _, h => by
    cases h with
    | lst e a => exact .lst (ext_lst s e) (DdAll.ext s ds _ a)
  | .tuple ds, _, h => by
    cases h with
    | tup e a => exact .tup (ext_tup s e) (DdAll.ext s ds _ a)
  | .dict _, _, h => by
    cases h with
    | dct e => exact .dct (ext_dK s e)
theorem DdAll.ext (s : LamX.ExtN H H') : ∀ (ds : List PyData) (vs : List V), DdAll K H vs ds → DdAll K H' vs ds
  | [], _, h => by cases h; exact .nil
  | d :: ds, _, h => by
    cases h with
    | cons h1 h2 => exact .cons (Dd.ext s d _ h1) (DdAll.ext s ds _ h2)
end
theorem ContAt.ext {C a : Addr} {es : List PyData} (h : ContAt K C H a es) (s : LamX.ExtN H H') : ContAt K C H' a es := by
  obtain ⟨dx, d, kvs, e1, e2, e3, e4⟩ := h
  exact ⟨dx, d, kvs, ext_ins s e1, ext_dK s e2, ⟨e3.1, DdAll.ext s _ _ e3.2⟩, e4⟩
end
/-- what a lambda's body lets out -/
theorem lam_takes {X : Cx} {A : Around} {outer : List Env} {s : Shared} {H : Hp} {E : XK} {scope : Scope} {f c' : Addr} : Takes (LamX.lamCx X A outer s H E scope f c') (fun cls d _ H' => E cls d H') := takes_of rfl rfl rfl rfl
/-! ### the law's own call, with tables -/
section
variable {P : Program} {w : World} {K : PySem.W.Frag} {mg mb : Str → Option Value} {k : Nat} {fa a : Addr} {fd : FuncData} {x : Str} {sp : Sp} {t : Shared} {vs : List Value} {ns : List Int} {cs : List (Addr × Addr)}
theorem lawGT (kin : K.In t.heap) (n1 : t.heap.Ns mainGlobals mg) (n2 : t.heap.Ns builtinsNs mb) (n3 : ∀ y : Str, y ≠ "__name__" → mb y = bootBuiltins y) (ndl : t.heap.NoLimit) (gz : t.gens = #[])
    (hT : ∀ p ∈ cs, t.heap.get? p.2 = some { cls := .none, data := .fields #[] }) (nT : ∀ p ∈ cs, K.lookup p.2 = none) (hC : ∀ p ∈ cs, PySem.W.CodeHd t.heap p.1 p.2)
    (hbm : ∃ (bm : Addr) (ob : Obj), mg "__builtins__" = some (.ref bm) ∧ bm ≠ builtinsNs ∧ t.heap.get? bm = some ob ∧ ob.cls = .type "module" ∧ ob.dict = some builtinsNs ∧ ob.data = .plain)
    (obj : t.heap.get? a = some { cls := .type "list", data := .seq vs.toArray }) (are : IntsAre vs ns) (small : ns.length ≤ 63) (rm : Room k callerA)
    (F : ∀ bh : Heap, K.In bh → bh.Ns mainGlobals mg → (∀ p ∈ cs, LamX.TabB bh mg p.1 p.2) → FnG P w K mg bh CX0 k fa fd [x] sp) (bt : ∀ (s : Shared) (u : Value), BindsTo s fd ⟨[u], []⟩ [(x, u)])
    (hsp : ∀ H : Hp, (∀ p ∈ cs, H p.2 = some (.tbl #[])) → SqL K H a (ns.map V.int) → sp [.ref a] H (fun v _ => v = .bl true) fun _ _ _ => False) :
    codeAny (model P w) callerA (.call (.ref fa) ⟨[.ref a], []⟩) (fun r s' => r = .ok (.ret (.bool true)) ∧ OldK t.heap s'.heap ∧ s'.os = t.os ∧ AllBare s'.gens) t := by
  have lens := are.length
  have rel := vals_ints are
  have tab : ∀ b : Addr, b ∈ cs.map (·.2) → t.heap.get? b = some { cls := .none, data := .fields #[] } := by
    intro b hb
    obtain ⟨p, hp, rfl⟩ := List.mem_map.mp hb
    exact hT p hp
  have noa : a ∉ cs.map (·.2) := by
    intro z
    have q := tab a z
    rw [obj] at q
    have y : Data.seq vs.toArray _ = Data.fields #[] := congrArg Obj.data (Option.some.inj q)
    exact nomatch y
  have main : ∀ H : Hp, (∀ b, H b = none ∨ (b = a ∧ H b = some (.frz { cls := .type "list", data := .seq vs.toArray } (.lst (ns.map V.int)))) ∨ (b ∈ cs.map (·.2) ∧ H b = some (.tbl #[]))) → (∀ p ∈ cs, H p.2 = some (.tbl #[])) → (H a ≠ none → K.lookup a = none) → SqL K H a (ns.map V.int) →
      codeAny (model P w) callerA (.call (.ref fa) ⟨[.ref a], []⟩) (fun r s' => r = .ok (.ret (.bool true)) ∧ OldK t.heap s'.heap ∧ s'.os = t.os ∧ AllBare s'.gens) t := by
    intro H form tbs free sq
    have hok : HOk P w H t.heap := by
      intro b u e
      rcases form b with z | ⟨rfl, z⟩ | ⟨m, z⟩
      · rw [z] at e; cases e
      · rw [z] at e
        cases e
        exact ⟨obj, by rw [List.length_map]; exact sz_of (by omega), vs, _, rel, obj⟩
      · rw [z] at e
        cases e
        exact tab b m
    have hide : ∀ {b : Addr} {o : Obj}, t.heap.get? b = some o → H b = none → (hidT t.heap H).get? b = some o := fun e z => hidT_get e z
    have untold : ∀ {b : Addr} {o : Obj}, t.heap.get? b = some o → (∀ vs n, o.data ≠ .seq vs n) → o.data ≠ .fields #[] → H b = none := by
      intro b o e h1 h2
      rcases form b with z | ⟨rfl, _⟩ | ⟨m, _⟩
      · exact z
      · rw [obj] at e
        cases e
        exact absurd rfl (h1 _ _)
      · rw [tab b m] at e
        cases e
        exact absurd rfl h2
    have plain : ∀ {b : Addr} {o : Obj} {es : Array DictEntry} {ep : Nat}, t.heap.get? b = some o → o.data = .dict es ep → H b = none := by
      intro b o es ep e dd
      refine untold e (fun vs n z => ?_) (fun z => ?_)
      all_goals rw [dd] at z
      all_goals exact nomatch z
    have names : ∀ {b : Addr} {m : Str → Option Value}, t.heap.Ns b m → (hidT t.heap H).Ns b m := by
      rintro b m ⟨o, es, ep, e, dd, rr⟩
      exact ⟨o, es, ep, hide e (plain e dd), dd, rr⟩
    have kin2 : K.In (hidT t.heap H) := by
      intro b o e
      refine hide (kin b o e) ?_
      rcases form b with z | ⟨rfl, z⟩ | ⟨m, z⟩
      · exact z
      · rw [free (by rw [z]; exact fun q => nomatch q)] at e
        cases e
      · obtain ⟨p, hp, rfl⟩ := List.mem_map.mp m
        rw [nT p hp] at e
        cases e
    obtain ⟨mc, c1, c2⟩ := ndl
    have md : Mod K mg (hidT t.heap H) := ⟨kin2, names n1, ⟨mb, names n2, n3⟩, ⟨mc, names c1, c2⟩⟩
    have tbB : ∀ p ∈ cs, LamX.TabB (hidT t.heap H) mg p.1 p.2 := by
      intro p hp
      have tp := hT p hp
      refine { code := ?_, bm := ?_, gP := ?_ }
      · obtain ⟨o, us, file, tf, flags, tg, inF, text, tt, e1, r1, r2, r3, rest⟩ := hC p hp
        refine ⟨o, us, file, tf, flags, tg, inF, text, tt, hide e1 (untold e1 (fun vs n z => ?_) (fun z => ?_)), r1, r2, r3, rest⟩
        · rw [r2] at z
          exact nomatch z
        · rw [r2] at z
          cases z
          simp at r3
      · obtain ⟨bm, ob, b1, b2, b3, b4, b5, b6⟩ := hbm
        have g1 : bm ≠ mainGlobals := by
          intro q
          obtain ⟨o, es, ep, e, hd, _⟩ := n1
          rw [q, e] at b3
          cases b3
          rw [hd] at b6
          exact nomatch b6
        have g2 : bm ≠ p.2 := by
          intro q
          rw [q, tp] at b3
          cases b3
          exact nomatch b6
        refine ⟨bm, ob, b1, b2, g1, g2, hide b3 (untold b3 (fun vs n z => ?_) (fun z => ?_)), b4, b5, b6⟩
        all_goals rw [b6] at z
        all_goals exact nomatch z
      · intro z
        obtain ⟨o, es, ep, e, hd, _⟩ := n1
        rw [z, tp] at e
        cases e
        exact nomatch hd
    have e0 : Env0 P w K mg (hidT t.heap H) callerA [] t H :=
      { frames := rfl, mod := md, bs := fun b o e => of_hidT e, bsz := Nat.le_of_eq (hidT_size _ _), funs := trivial, frf := (fun _ hb => nomatch hb), hok := hok, bare := .of_eq gz }
    refine codeAny_mono ((F _ kin2 (names n1) tbB).go callerA [] t H ⟨[.ref a], []⟩ [.ref a] [.ref a] (fun v _ => v = .bl true) (fun _ _ _ => False) rfl rm e0 (bt t (.ref a)) (.cons rfl .nil) (hsp H tbs sq)) ?_
    rintro (e' | fl) s' hz
    · exact False.elim hz
    · rcases fl with _ | _ | _ | u
      · exact False.elim hz
      · exact False.elim hz
      · exact False.elim hz
      · obtain ⟨v, H', h1, h2, h3, h4, h5, h6⟩ := hz
        have h6' : v = .bl true := h6
        subst h6'
        obtain rfl : u = Value.bool true := h5
        have grown : ∀ b ∈ cs.map (·.2), H b = some (.tbl #[]) → ∃ more : Array Value, s'.heap.get? b = some { cls := .none, data := .fields more } := by
          intro b hb e
          obtain ⟨more, z⟩ := h3.tbls b #[] e
          exact ⟨_, h4 b _ z⟩
        refine ⟨rfl, ⟨fun b o e => ?_, fun b o e => ?_⟩, h1, h2⟩
        · rcases form b with z | ⟨rfl, z⟩ | ⟨m, z⟩
          · exact .inl (h3.keep b o e z (by intro y; cases y) (by intro y; cases y))
          · obtain ⟨y1, _⟩ := h4 b _ (h3.frzs b _ _ z)
            rw [obj] at e
            cases e
            exact .inl y1
          · obtain ⟨more, hm⟩ := grown b m z
            obtain ⟨p, hp, rfl⟩ := List.mem_map.mp m
            rw [hT p hp] at e
            cases e
            refine .inr (.inl ⟨((hC p hp).tab (hT p hp)).isCodeTable, rfl, #[], more, rfl, ?_⟩)
            rw [Array.empty_append]
            exact hm
        · rcases form b with z | ⟨rfl, z⟩ | ⟨m, z⟩
          · exact ⟨o, h3.keep b o e z (by intro y; cases y) (by intro y; cases y)⟩
          · obtain ⟨y1, _⟩ := h4 b _ (h3.frzs b _ _ z)
            exact ⟨_, y1⟩
          · obtain ⟨more, hm⟩ := grown b m z
            exact ⟨_, hm⟩
  have mem2 : ∀ p ∈ cs, p.2 ∈ cs.map (·.2) := fun p hp => List.mem_map.mpr ⟨p, hp, rfl⟩
  cases lk : K.lookup a with
  | some o =>
    have e := kin a o lk
    rw [obj] at e
    cases e
    refine main (fun b => if b ∈ cs.map (·.2) then some (.tbl #[]) else none) (fun b => ?_) (fun p hp => if_pos (mem2 p hp)) (fun z => absurd (if_neg noa) z) (.inr ⟨_, vs.toArray, _, lk, rfl, rfl, rfl, by rw [List.size_toArray, lens]; exact sz_of (by omega), by simpa using rel⟩)
    by_cases m : b ∈ cs.map (·.2)
    · exact .inr (.inr ⟨m, if_pos m⟩)
    · exact .inl (if_neg m)
  | none =>
    refine main (fun b => if b = a then some (.frz { cls := .type "list", data := .seq vs.toArray } (.lst (ns.map V.int))) else if b ∈ cs.map (·.2) then some (.tbl #[]) else none) (fun b => ?_) (fun p hp => ?_) (fun _ => lk) (.inl (.inr ⟨_, if_pos rfl⟩))
    · by_cases z : b = a
      · exact .inr (.inl ⟨z, if_pos z⟩)
      · by_cases m : b ∈ cs.map (·.2)
        · exact .inr (.inr ⟨m, (if_neg z).trans (if_pos m)⟩)
        · exact .inl ((if_neg z).trans (if_neg m))
    · have z : p.2 ≠ a := fun y => noa (y ▸ mem2 p hp)
      exact (if_neg z).trans (if_pos (mem2 p hp))
end
/-- what the end asks of the law's def: its promise, its tables -/
def LawGT (l : PySem.W.OpenLaw) (w : World) (K : PySem.W.Frag) (k : Nat) (x : Str) (mg : Str → Option Value) (fa : Addr) (h : Heap) : Prop :=
  ∃ (fd : FuncData) (cs : List (Addr × Addr)) (sp : Sp), (∀ p ∈ cs, h.get? p.2 = some { cls := .none, data := .fields #[] }) ∧ (∀ p ∈ cs, K.lookup p.2 = none) ∧ (∀ p ∈ cs, PySem.W.CodeHd h p.1 p.2) ∧ (∀ (s : Shared) (u : Value), BindsTo s fd ⟨[u], []⟩ [(x, u)]) ∧
    (∀ (H : Hp) (a : Addr) (ns : List Int), ns.length ≤ 63 → (∀ p ∈ cs, H p.2 = some (.tbl #[])) → SqL K H a (ns.map V.int) → sp [.ref a] H (fun v _ => v = .bl true) fun _ _ _ => False) ∧
    ∀ bh : Heap, K.In bh → bh.Ns mainGlobals mg → (∀ p ∈ cs, LamX.TabB bh mg p.1 p.2) → FnG l.prog w K mg bh CX0 k fa fd [x] sp
theorem walkGT {l : PySem.W.OpenLaw} {k : Nat} {q : Program} {loose : List Str} {XP : (Str → Option Value) → Heap → Prop} {YP : World → Heap → Prop} {d : DefRec} {K : Params → PySem.W.Frag} {x : Str} (hn : l.most = some 63) (hdf : d.params.defaults = []) (rm : Room k callerA)
    (hY : ∀ (w : World) (h : Heap), YP w h → (K w.params).In h)
    (F : ∀ (w : World) (mg mb : Str → Option Value) (fa : Addr) (s₀ : Shared) (h : Heap), YP w h → PySem.W.Ground q loose [] XP w s₀ mg mb h → (K w.params).In h → h.Ns mainGlobals mg → mg d.name = some (.ref fa) → LawGT l w (K w.params) k x mg fa h) :
    PySem.W.WalkO q loose XP YP l.row.toRowW d [] (fun f vs => PySem.call f vs) := by
  refine Att.attach_call hn hdf ?_
  intro w s₀ t mg mb fa o pm cd doc a vs ns G Y ho hd hcd hmg obj are small gz
  have kin := hY w _ Y
  obtain ⟨fd, cs, sp, hT, nT, hC, bt, hsp, FF⟩ := F w mg mb fa s₀ _ Y G kin G.T.g hmg
  exact lawGT kin G.T.g G.T.b G.T.builtins G.T.nolimit gz hT nT hC G.T.bmain obj are small rm FF bt fun H h1 h2 => hsp H a ns small h1 h2
end Tk

set_option Elab.async false
set_option linter.all false
set_option maxRecDepth 100000
set_option maxHeartbeats 4000000
namespace K05
open PySem PySem.Spec PyProof.Rows L2 Tk Ts CwR
local macro_rules | `(tactic| walk_at "rd1") => `(tactic| first
  | with_reducible refine r_seq ?_
  | ((with_reducible refine r_var (v := ?vv) ?hrv ?_); (case hrv => rfl))
  | with_reducible refine r_c ?_
  | with_reducible refine r_op ?_
  | ((with_reducible refine r_ixL (xs := ?xx) (v := ?vv) ?hh ?he ?_); (case hh => first | assumption | exact upd_same); (case he => rfl))
  | with_reducible refine r_asg ?_
  | with_reducible refine r_sub ?_
  | ((with_reducible refine r_gTup (xs := ?xx) ?hh ?he ?_); (case hh => assumption); (case he => rfl))
  | with_reducible refine r_gCons ?_
  | with_reducible refine r_gNil ?_
  | ((with_reducible refine r_setL (xs := ?xx) (j := ?vv) ?hh ?he ?_); (case hh => first | assumption | exact upd_same); (case he => rfl))
  | with_reducible refine r_pow15 ?_
  | with_reducible refine r_pow18 ?_
  | with_reducible refine r_repr ?_
  | with_reducible refine iteT ?_
  | with_reducible refine iteF ?_
  | with_reducible refine r_cons ?_
  | with_reducible refine r_nil ?_
  | with_reducible refine r_call ?_
  | with_reducible refine r_cb ?_
  | with_reducible refine r_ret ?_
  | with_reducible refine r_gName ?_
  | with_reducible refine r_next ?_
  | with_reducible refine r_ifS ?_
  | with_reducible refine r_un ?_
  | with_reducible refine r_U ?_
  | with_reducible refine r_max2 ?_
  | with_reducible refine r_min2 ?_
  | with_reducible refine r_sl ?_
  | with_reducible refine r_noPart ?_
  | with_reducible refine r_part ?_
  | with_reducible refine r_inti ?_
  | with_reducible refine r_lc ?_
  | with_reducible refine r_for ?_
  | with_reducible refine r_rng1 ?_
  | with_reducible refine r_iList ?_
  | with_reducible refine r_iTup ?_
  | with_reducible refine r_iStr ?_
  | with_reducible refine r_strx ?_
  | ((with_reducible refine r_j ?hh ?hi ?_); (case hh => omega); (case hi => omega))
  | with_reducible refine r_m1 ?_
  | with_reducible refine r_test ?_
  | with_reducible refine r_B ?_
  | with_reducible refine r_not ?_
  | with_reducible refine r_and ?_
  | with_reducible refine r_or ?_
  | with_reducible refine r_andV ?_
  | with_reducible refine r_orV ?_
  | with_reducible refine r_notV ?_
  | with_reducible refine r_if ?_
  | with_reducible refine r_chain ?_
  | with_reducible refine r_lst ?_
  | with_reducible refine r_tup ?_
  | with_reducible refine r_k ?_
  | ((with_reducible refine r_isiS (d := ?dd) ?hh ?_); (case hh => assumption))
  | ((with_reducible refine r_isiT (d := ?dd) ?hh ?_); (case hh => assumption))
  | ((with_reducible refine r_isiI (d := ?dd) ?hh ?_); (case hh => assumption))
  | ((with_reducible refine r_isiB (d := ?dd) ?hh ?_); (case hh => assumption))
  | ((with_reducible refine r_lenS ?hh ?_); (case hh => assumption))
  | ((with_reducible refine r_lenT (xs := ?dd) ?hh ?_); (case hh => assumption))
  | ((with_reducible refine r_ixT (xs := ?xx) (v := ?vv) ?hh ?he ?_); (case hh => assumption); (case he => rfl))
  | with_reducible refine r_isN ?_
  | with_reducible refine r_I0 ?_
  | with_reducible refine g_addI ?_
  | ((with_reducible refine r_mod ?hh ?_); (case hh => first | decide | omega))
  | ((with_reducible refine r_div ?hh ?hi ?_); (case hh => first | decide | omega); (case hi => first | decide | omega))
  | ((with_reducible refine g_mulB ?hh ?hi ?_); (case hh => omega); (case hi => omega))
  | with_reducible refine g_ltI ?_
  | with_reducible refine g_leI ?_
  | with_reducible refine g_gtI ?_
  | with_reducible refine g_geI ?_
  | with_reducible refine g_eqI ?_
  | with_reducible refine g_neI ?_
  | with_reducible refine g_eqS ?_
  | with_reducible refine g_neS ?_
  | with_reducible refine g_leS ?_
  | with_reducible refine g_ltS ?_)
local macro_rules | `(tactic| walk_at "rd") => `(tactic| repeat (walk_at "rd1"))
local macro_rules | `(tactic| walk_at "ed") => `(tactic| repeat first
  | exact ed_int
  | exact ed_str
  | exact ed_bl
  | exact ed_non
  | exact ed_nil
  | exact ed_dct
  | exact ed_neg
  | with_reducible apply ed_cons
  | with_reducible apply ed_tup
  | with_reducible apply ed_lst
  | exact Nat.le_of_ble_eq_true rfl)
local macro_rules | `(tactic| walk_at "tx1") => `(tactic| first
  | walk_at "rd1"
  | with_reducible refine r_callS ?_
  | with_reducible refine r_zipA ?_
  | with_reducible refine r_par ?_
  | with_reducible refine r_pair ?_
  | with_reducible refine r_pow6 ?_
  | with_reducible refine r_m0 ?_
  | with_reducible refine r_bm ?_
  | with_reducible refine r_isS ?_
  | with_reducible refine r_told ?_
  | with_reducible refine r_js ?_
  | with_reducible refine r_jsNil ?_
  | with_reducible refine r_repl ?_
  | ((with_reducible refine r_gLst (xs := ?xx) ?hh ?he ?_); (case hh => assumption); (case he => rfl))
  | ((with_reducible refine r_lenL (xs := ?xx) ?hh ?_); (case hh => assumption)))
local macro_rules | `(tactic| walk_at "tx") => `(tactic| repeat (walk_at "tx1"))
section
variable {t1 t2 t3 : Tok} {P : Program} {w : World} {K : PySem.W.Frag} {mg : Str → Option Value} {base : Heap}
def valOf : PyData → PyData
  | .tuple [_, _, v] => v
  | _ => .none
/-- stamp and value -/
def restD (e : PyData) : PyData := .tuple [stampOf e, valOf e]
def spLen (K : PySem.W.Frag) (C : Addr) : Sp := fun vs H Q _ => ∃ (a : Addr) (es : List PyData), vs = [.ref a] ∧ ContAt K C H a es ∧ Q (.int (es.length : Nat)) H
abbrev s_Content___len__ : Stmt := inClass (top 16) 2
abbrev n_Content___len__ : List Str := ["self"]
abbrev p_Content___len__ : List Str := ["self"]
theorem sc_Content___len__ : FnScope n_Content___len__ p_Content___len__ (defScope s_Content___len__) := ⟨rfl, rfl, rfl, by decide +kernel, rfl, by decide +kernel, by decide +kernel⟩
theorem ok_len {C : Addr} (CC : ContC K C) (T : Txt mg t1 t2 t3) {f : Addr} {fd : FuncData} (F : Fun K "__len__" "Content.__len__" s_Content___len__ f fd) : FnOk P w K mg base CX0 1 f fd p_Content___len__ (spLen K C) := by
  refine F.ok sc_Content___len__ (fun vs H Q E h => by obtain ⟨a, es, rfl, _⟩ := h; rfl) (fun cdv A outer s H vs Q E hr h => ?_)
  obtain ⟨a, es, rfl, ⟨dx, p, kvs, e1, e2, rows, hg, hl⟩, k⟩ := h
  have hu := hu_of hr
  refine ⟨_, (pss_one (ps_ret (pe_callB call_lenD (by rfl) T.z_len (by decide +kernel) (pa_cons (k_fld (pv 0)) pa_nil)))), ?_⟩
  walk_at "tx"
  refine r_fld ?_
  walk_at "tx"
  refine ⟨a, C, dx, _, _, rfl, e1, CC.cls, CC.no, tab_at p, ?_⟩
  walk_at "tx"
  refine ⟨p, kvs, rfl, e2, ?_⟩
  rw [rows.len]
  exact k
def spGet (K : PySem.W.Frag) (C CN : Addr) : Sp := fun vs H Q E => ∃ (a : Addr) (es : List PyData) (v : V) (d : PyData), vs = [.ref a, v] ∧ ContAt K C H a es ∧ Dd K H v d ∧
  (∀ k e, d = .str k → findE es k = some e → ∀ p H', Same H H' → Dd K H' p (restD e) → Q p H') ∧ (inD es d = false → raisedF CN v H E)
abbrev s_Content___getitem__ : Stmt := inClass (top 16) 3
abbrev n_Content___getitem__ : List Str := ["self", "at", "_", "stamp", "value"]
abbrev p_Content___getitem__ : List Str := ["self", "at"]
theorem sc_Content___getitem__ : FnScope n_Content___getitem__ p_Content___getitem__ (defScope s_Content___getitem__) := ⟨rfl, rfl, rfl, by decide +kernel, rfl, by decide +kernel, by decide +kernel⟩
theorem ok_get {C CN : Addr} (CC : ContC K C) (R_NoEntry : ErrC P w K mg base "NoEntry" CN ["self", "value"] (spI1 K CN)) (T : Txt mg t1 t2 t3) {f : Addr} {fd : FuncData} (F : Fun K "__getitem__" "Content.__getitem__" s_Content___getitem__ f fd) (K_contains : CalO P w K mg base CX0 C 1 "__contains__" (spIn K C)) : FnOk P w K mg base (L2.CX P w) 3 f fd p_Content___getitem__ (spGet K C CN) := by
  refine F.okX sc_Content___getitem__ (fun vs H Q E h => by obtain ⟨a, es, v, d, rfl, _⟩ := h; rfl) (fun cdv A outer s H vs Q E hr h => ?_)
  obtain ⟨a, es, v, d, rfl, ca, hd, k, kx⟩ := h
  have hu := hu_of hr
  refine ⟨_, (pss_cons (ps_if (pt_cmpR (k_notinO K_contains (hr.mono (by decide)) pass0) (pv 1) (pv 0) rfl) (pss_one (ps_raiseG R_NoEntry (takes_of rfl rfl rfl rfl) (hr.mono (by decide)) (pa_cons (pv 1) pa_nil))) pss_nil)
      (pss_cons (ps_asg (pe_dget (hu_of hr) (k_fld (pv 0)) (pv 1) (fun _ _ => rfl)) (k_gtup (n := 3) rfl (pgs_cons (pg_name (i := 2) sc_Content___getitem__.nd rfl (by first | exact Or.inl rfl | exact Or.inr rfl)) (pgs_cons (pg_name (i := 3) sc_Content___getitem__.nd rfl (by first | exact Or.inl rfl | exact Or.inr rfl)) (pgs_cons (pg_name (i := 4) sc_Content___getitem__.nd rfl (by first | exact Or.inl rfl | exact Or.inr rfl)) pgs_nil)))))
      (pss_one (ps_ret (pe_tup (pa_cons (pv 3) (pa_cons (pv 4) pa_nil))))))), ?_⟩
  walk_at "tx"
  have ca' := ca
  obtain ⟨dx, p, kvs, e1, e2, rows, hg, hl⟩ := ca'
  refine ⟨a, _, _, rfl, e1, a, es, v, d, rfl, ca.rd, hd, _, rfl, _, rfl, ?_⟩
  cases c : inD es d with
  | false =>
    refine iteT ?_
    refine r_raiseG ?_
    walk_at "tx"
    exact mk_one (kx c)
  | true =>
    refine iteF ?_
    obtain ⟨key, rfl⟩ : ∃ key, d = .str key := by
      cases d with
      | str x => exact ⟨x, rfl⟩
      | _ => cases c
    cases hd
    have c : (findE es key).isSome = true := c
    walk_at "tx"
    refine r_dget ?_
    refine r_fld ?_
    walk_at "tx"
    refine ⟨a, C, dx, _, _, rfl, e1, CC.cls, CC.no, tab_at p, ?_⟩
    walk_at "tx"
    rcases rows.val key with ⟨e, u, q1, q2, q3⟩ | ⟨q1, _⟩
    · have dg := DGet.k (k := Sum.inr key) e2
      rw [q2] at dg
      refine ⟨p, u, rfl, dg, ?_⟩
      have he := findE_good hg q1
      obtain ⟨k1, n, o, d3, rfl, _⟩ := entry_is he
      cases q3 with
      | tup eT al =>
      cases al with
      | cons h0 al =>
      cases al with
      | cons h1 al =>
      cases al with
      | cons h2 al =>
      cases al
      walk_at "tx"
      refine a_tup (by simp) fun T1 H1 n1 s1 g1 => ?_
      refine k key _ rfl q1 _ H1 s1 ?_
      exact .tup g1 (.cons (Dd.same s1 _ _ h1) (.cons (Dd.same s1 _ _ h2) .nil))
    · rw [q1] at c
      cases c
def showD (es : List PyData) (k : Str) : PyData := match findE es k with
  | some e => valOf e
  | none => .none
def spShows (K : PySem.W.Frag) (C CK : Addr) : Sp := fun vs H Q E => ∃ (a : Addr) (es : List PyData) (v : V) (d : PyData), vs = [.ref a, v] ∧ ContAt K C H a es ∧ Dd K H v d ∧ okD d ∧
  (wordD d = true → ∀ k u H', d = .str k → Same H H' → Dd K H' u (showD es k) → Q u H') ∧ (wordD d = false → raisedF CK v H E)
abbrev s_Content_shows : Stmt := inClass (top 16) 8
abbrev n_Content_shows : List Str := ["self", "key"]
abbrev p_Content_shows : List Str := ["self", "key"]
theorem sc_Content_shows : FnScope n_Content_shows p_Content_shows (defScope s_Content_shows) := ⟨rfl, rfl, rfl, by decide +kernel, rfl, by decide +kernel, by decide +kernel⟩
theorem ok_shows {C CK : Addr} (CC : ContC K C) (R_BadKey : ExcR P w K mg base "BadKey" CK) (T : Txt mg t1 t2 t3) {f : Addr} {fd : FuncData} (F : Fun K "shows" "Content.shows" s_Content_shows f fd) (K_is_word : Cal P w K mg base CX0 2 "is_word" p_is_word (spD K wordD)) (K_contains : CalO P w K mg base CX0 C 1 "__contains__" (spIn K C)) : FnOk P w K mg base (L2.CX P w) 3 f fd p_Content_shows (spShows K C CK) := by
  refine F.okX sc_Content_shows (fun vs H Q E h => by obtain ⟨a, es, v, d, rfl, _⟩ := h; rfl) (fun cdv A outer s H vs Q E hr h => ?_)
  obtain ⟨a, es, v, d, rfl, ca, hd, ho, k, kx⟩ := h
  have hu := hu_of hr
  refine ⟨_, (pss_cons (ps_if (pt_not (pt_val (pe_cal K_is_word (hr.mono (by decide)) pass0 (pa_cons (pv 1) pa_nil)))) (pss_one (ps_raiseV R_BadKey (takes_of rfl rfl rfl rfl) (hr.mono (by decide)) (pv 1))) pss_nil)
      (pss_cons (ps_if (pt_cmpR (k_notinO K_contains (hr.mono (by decide)) pass0) (pv 1) (pv 0) rfl) (pss_one (ps_ret pe_non)) pss_nil)
      (pss_one (ps_ret (pe_ix k_ix (pe_dget (hu_of hr) (k_fld (pv 0)) (pv 1) (fun _ _ => rfl)) pe_int (fun _ _ => rfl)))))), ?_⟩
  walk_at "tx"
  refine r_spD hd ho fun H1 s1 => ?_
  walk_at "tx"
  refine r_boolN (fun c => ?_) (fun c => ?_)
  · refine r_raise ?_
    walk_at "tx"
    exact mk_raisedF (kx c) s1
  obtain ⟨key, rfl⟩ : ∃ key, d = .str key := by
    cases d with
    | str x => exact ⟨x, rfl⟩
    | _ => cases c
  cases hd
  have ca1 := ca.same s1
  have ca' := ca1
  obtain ⟨dx, p, kvs, e1, e2, rows, hg, hl⟩ := ca'
  walk_at "tx"
  refine ⟨a, _, _, rfl, e1, a, es, _, _, rfl, ca1.rd, .str key, _, rfl, _, rfl, ?_⟩
  have kk := k c key
  show if (!(findE es key).isSome) = true then _ else _
  unfold showD at kk
  rcases rows.val key with ⟨e, u, q1, q2, q3⟩ | ⟨q1, _⟩
  · rw [q1] at kk ⊢
    refine iteF ?_
    walk_at "tx"
    refine r_dget ?_
    refine r_fld ?_
    walk_at "tx"
    refine ⟨a, C, dx, _, _, rfl, e1, CC.cls, CC.no, tab_at p, ?_⟩
    walk_at "tx"
    have dg := DGet.k (k := Sum.inr key) e2
    rw [q2] at dg
    refine ⟨p, u, rfl, dg, ?_⟩
    have he := findE_good hg q1
    obtain ⟨k1, n, o, d3, rfl, _⟩ := entry_is he
    cases q3 with
    | tup eT al =>
    cases al with
    | cons h0 al =>
    cases al with
    | cons h1 al =>
    cases al with
    | cons h2 al =>
    cases al
    walk_at "tx"
    exact kk _ H1 rfl s1 h2
  · rw [q1] at kk ⊢
    refine iteT ?_
    walk_at "tx"
    exact kk _ H1 rfl s1 .non
end
end K05

set_option Elab.async false
set_option linter.all false
set_option maxRecDepth 100000
set_option maxHeartbeats 4000000
/-! == with what is of another class; a lambda called in a try; C() by its default; methods of what a call gives -/
namespace Tk
open PySem PySem.Spec PyProof.Rows L2
section
variable {X : Cx} {CX : CXT} {n : Nat} {C : Addr} {sp : Sp} {E : XK} {K : PySem.W.Frag}
/-- a == y, a of the class at C that writes __eq__, y a list, a tuple or one of the class -/
def rEqAny (C : Addr) (sp : Sp) (E : XK) : R2 := fun x y H Q => ∃ (a b dx : Addr) (fs : List (Str × V)), x = .ref a ∧ y = .ref b ∧ H a = some (.ins C dx fs) ∧ ((∃ xs, H b = some (.lst xs)) ∨ (∃ xs, H b = some (.tup xs)) ∨ ∃ dy gs, H b = some (.ins C dy gs)) ∧ sp [.ref a, .ref b] H Q E
theorem k_eqAny (M : CalO X.prog X.w X.K X.mg X.base CX C n "__eq__" sp) (n1 : PySem.W.notFirst K C (.type "list") = true) (n2 : PySem.W.notFirst K C (.type "tuple") = true) (hr : Room n X.A) (hx : Passes CX X E) (e : X.K = K := by rfl) : OpR X (compareOp .Eq) (rEqAny C sp E) := by
  subst e
  obtain ⟨g, fd, ps, o, bd, F0⟩ := M.ex
  have F := raw0 F0 bd
  intro pn s σ H x y v u Q I rx ry h
  obtain ⟨a, b, dx, fs, rfl, rfl, ha, hb, q⟩ := h
  obtain rfl : v = Value.ref a := rx
  obtain rfl : u = Value.ref b := ry
  obtain ⟨od, J⟩ := ins_at I ha
  obtain ⟨m, fr⟩ := I.fr
  have back : wpAny (model X.prog X.w) X.A (call (.ref g) [.ref a, .ref b]) (PySem.W.CmpBack (EP X pn σ Q)) X.xe s := by
    refine wpAny_mono (wpAny_call (run_fnR (us := [.ref a, .ref b]) (vs := [.ref a, .ref b]) F hr hx I (.cons rfl (.cons rfl .nil)) q)) (fun w s' z => ?_) fun _ _ z => z
    obtain ⟨z', H', I', rz, qz⟩ := z
    exact SlX.cmpback rz ⟨z', H', I', rz, qz⟩
  rcases hb with ⟨xs, hb⟩ | ⟨xs, hb⟩ | ⟨dy, gs, hb⟩
  · obtain ⟨its, _, ⟨ob, _, ho, hc, _⟩, _⟩ := I.list (SqL.of hb)
    have L : PySem.W.Looks (model X.prog X.w) s.heap (typeOf (.ref b)) (.type "list") := fun A Q E s k q => wpAny_typeOf_ref (k _ _ ho) (by rw [hc]; exact q)
    exact PySem.W.cmp_K (op := .Eq) (tb := .type "list") hr.units0 fr I.ok.mod.kin J L n1 o.at_ o.fn back
  · obtain ⟨its, _, ⟨ob, ho, hc, _⟩, _⟩ := I.tuple (SqT.of hb)
    have L : PySem.W.Looks (model X.prog X.w) s.heap (typeOf (.ref b)) (.type "tuple") := fun A Q E s k q => wpAny_typeOf_ref (k _ _ ho) (by rw [hc]; exact q)
    exact PySem.W.cmp_K (op := .Eq) (tb := .type "tuple") hr.units0 fr I.ok.mod.kin J L n2 o.at_ o.fn back
  · obtain ⟨oe, J'⟩ := ins_at I hb
    exact PySem.W.cmp_K (op := .Eq) (tb := .ref C) hr.units0 fr I.ok.mod.kin J J'.type (by simp [PySem.W.notFirst]) o.at_ o.fn back
end
/-! ### len(a), a[k] by the class's own, told once -/
theorem k_lenO {X : Cx} {CX : CXT} {n : Nat} {C : Addr} {sp : Sp} {E : XK} (M : CalO X.prog X.w X.K X.mg X.base CX C n "__len__" sp) (hr : Room (n + 1) X.A) (hx : Passes CX X E) : CallR X (.builtin "len") (rLenOwn C sp E) := by
  obtain ⟨g, fd, ps, o, b, F⟩ := M.ex
  exact k_lenOwn o (raw0 F b) hr hx
structure CalI (P : Program) (w : World) (K : PySem.W.Frag) (mg : Str → Option Value) (base : Heap) (CX : CXT) (C : Addr) (k : Nat) (sp : Sp) : Prop where
  ex : ∃ (g : Addr) (fd : FuncData) (ps : List Str), Own K C "__getitem__" g ∧ PySem.W.fnIn K g = true ∧ Binds K fd ps [] ∧ FnOk P w K mg base CX k g fd ps sp
theorem CalI.mono {P : Program} {w : World} {K : PySem.W.Frag} {mg : Str → Option Value} {base : Heap} {CX : CXT} {C : Addr} {j k : Nat} {sp : Sp} (c : CalI P w K mg base CX C j sp) (h : j ≤ k) : CalI P w K mg base CX C k sp := by
  obtain ⟨g, fd, ps, o, i, b, F⟩ := c
  exact ⟨g, fd, ps, o, i, b, F.mono h⟩
theorem pe_subO {X : Cx} {CX : CXT} {n : Nat} {C : Addr} {sp : Sp} {E : XK} {e1 e2 : Expr} {s1 s2 : TE} {pos : Pos} (M : CalI X.prog X.w X.K X.mg X.base CX C n sp) (hr : Room (n + 1) X.A) (hx : Passes CX X E) (h1 : PE X e1 s1) (h2 : PE X e2 s2)
    (hs : ∀ v u, subscripted e2 true v u = runValue (.builtin "lifetime.subscript" ⟨[v, u], []⟩) := by intro _ _; rfl) : PE X (.Subscript e1 e2 pos) (tOp (rSubOwn C sp E) s1 s2) := by
  obtain ⟨g, fd, ps, o, i, b, F⟩ := M.ex
  exact pe_subOwn o i (raw0 F b) hr hx h1 h2 hs
/-! ### C(), its one default told -/
structure CalC0 (P : Program) (w : World) (K : PySem.W.Frag) (mg : Str → Option Value) (base : Heap) (CX : CXT) (x : Str) (C : Addr) (k : Nat) (ps : List Str) (dvs : List V) (sp : Sp) : Prop where
  at_ : mg x = some (.ref C)
  ex : ∃ (f : Addr) (fd : FuncData) (ds : List Value), Mk K C f ∧ Binds K fd ps ds ∧ Vals dvs ds ∧ FnOk P w K mg base CX k f fd ps sp
theorem CalC0.mono {P : Program} {w : World} {K : PySem.W.Frag} {mg : Str → Option Value} {base : Heap} {CX : CXT} {x : Str} {C : Addr} {j k : Nat} {ps : List Str} {dvs : List V} {sp : Sp} (c : CalC0 P w K mg base CX x C j ps dvs sp) (h : j ≤ k) : CalC0 P w K mg base CX x C k ps dvs sp := by
  obtain ⟨a, f, fd, ds, b1, b2, b3, F⟩ := c
  exact ⟨a, f, fd, ds, b1, b2, b3, F.mono h⟩
theorem pe_calC0 {X : Cx} {CX : CXT} {C : Addr} {k : Nat} {x : Str} {ps : List Str} {dvs : List V} {sp : Sp} {E : XK} {p pos : Pos} (M : CalC0 X.prog X.w X.K X.mg X.base CX x C k ps dvs sp) (hr : Room (k + 1) X.A) (hx : Passes CX X E) (hg : Gl X x := by rfl) (hdb : (x == ("__debug__" : Str)) = false := by decide) :
    PE X (.Call (.Name x p) [] [] pos) (tMake C sp dvs E tNil) := by
  obtain ⟨f, fd, ds, mk, bd, rv, F⟩ := M.ex
  exact pe_make0 mk F hr hg M.at_ bd rv hx hdb
theorem r_make0 {C : Addr} {sp : Sp} {dvs : List V} {E : XK} {σ : L2.St} {H : Hp} {Q : VK} (h : ∀ x dx, H x = none → H dx = none → dx ≠ x → sp (.ref x :: dvs) (upd (upd H dx (.own x)) x (.ins C dx [])) (fun v H2 => v = .non ∧ Q (.ref x) H2) E) : tMake C sp dvs E tNil σ H Q := h
/-! ### f(..).m(..) -/
theorem abase_callE {id attr : Str} {p pos : Pos} {es : List Expr} {env : Env} {whole : Sem Value} (h : (id != ("super" : Str)) = true) : attributeBase (.Call (.Name id p) es [] pos) attr env whole = whole := by
  unfold attributeBase
  first
    | (simp only [h, Bool.true_or, if_true, bind_pure]; done)
    | (simp [h]; done)
    | (cases es <;> simp [h]; done)
    | rfl
/-! ### a lambda, called -/
section
variable {X : Cx} {Ng : List Str} {x a q : Str} {sg : Scope} {g f c' : Addr} {cdg : Value} {s : Shared} {H0 : Hp} {tl : XK → Hp → VK → Prop} {W : WX} {pn : List (Addr × Obj)} {xe : Value → Shared → Prop} {p1 p2 p3 : Pos}
theorem takes_len {Y : Cx} {V : WX} (tk : Takes Y V) : Takes Y (fun cls d σ H => σ.length = Y.N.length → V cls d σ H) := by
  rintro u s' ⟨a, B, sI, pins, σ, H, cls, d, e, I, nb, up, sky, na, os, ag, w⟩
  exact tk u s' ⟨a, B, sI, pins, σ, H, cls, d, e, I, nb, up, sky, na, os, ag, w I.len⟩
def tAct (n : Nat) (f c' : Addr) (q : Str) (tl : XK → Hp → VK → Prop) (W : WX) : TS := fun D σ H => ∃ Ech : XK, (∀ cls d σ' H', σ'.length = n → Ech cls d H' → W cls d σ' H') ∧ σ[0]? = some (some (.ref f)) ∧ H c' = some (LamX.CodeO c' q) ∧ tl Ech H fun _ H' => D.nx σ H'
theorem pss_act (act : ∀ (W : WX) (pn : List (Addr × Obj)) (xe : Value → Shared → Prop) (E : XK) (p1 p2 : Pos), Takes ((cxOf C8.CX0 X.prog X.w X.K X.mg X.base Ng x sg g cdg X.A X.stack s H0 C8.E0).tr pn xe) W → (∀ cls d σ' H', E cls d H' → W cls d σ' H') →
      PE ((cxOf C8.CX0 X.prog X.w X.K X.mg X.base Ng x sg g cdg X.A X.stack s H0 C8.E0).tr pn xe) (.Call (.Name a p1) [] [] p2) (fun σZ HZ Q => σZ[0]? = some (some (.ref f)) ∧ HZ c' = some (LamX.CodeO c' q) ∧ tl E HZ Q))
    (tk : Takes ((cxOf C8.CX0 X.prog X.w X.K X.mg X.base Ng x sg g cdg X.A X.stack s H0 C8.E0).tr pn xe) W) :
    PSs ((cxOf C8.CX0 X.prog X.w X.K X.mg X.base Ng x sg g cdg X.A X.stack s H0 C8.E0).tr pn xe) [.Expr (.Call (.Name a p1) [] [] p2) p3] (tAct Ng.length f c' q tl W) := by
  constructor
  intro pins s' σ H D I h
  obtain ⟨Ech, hW, h1, h2, h3⟩ := h
  have hp := act _ pn xe Ech p1 p2 (takes_len tk) (fun cls d σ' H' e l => hW cls d σ' H' l e)
  exact (pss_one (ps_expr (pos := p3) hp)).run pins s' σ H D I ⟨h1, h2, h3⟩
end
end Tk

set_option Elab.async false
set_option linter.all false
set_option maxRecDepth 100000
set_option maxHeartbeats 4000000
namespace K05
open PySem PySem.Spec PyProof.Rows L2 Tk Ts CwR
local macro_rules | `(tactic| walk_at "rd1") => `(tactic| first
  | with_reducible refine r_seq ?_
  | ((with_reducible refine r_var (v := ?vv) ?hrv ?_); (case hrv => rfl))
  | with_reducible refine r_c ?_
  | with_reducible refine r_op ?_
  | ((with_reducible refine r_ixL (xs := ?xx) (v := ?vv) ?hh ?he ?_); (case hh => first | assumption | exact upd_same); (case he => rfl))
  | with_reducible refine r_asg ?_
  | with_reducible refine r_sub ?_
  | ((with_reducible refine r_gTup (xs := ?xx) ?hh ?he ?_); (case hh => assumption); (case he => rfl))
  | with_reducible refine r_gCons ?_
  | with_reducible refine r_gNil ?_
  | ((with_reducible refine r_setL (xs := ?xx) (j := ?vv) ?hh ?he ?_); (case hh => first | assumption | exact upd_same); (case he => rfl))
  | with_reducible refine r_pow15 ?_
  | with_reducible refine r_pow18 ?_
  | with_reducible refine r_repr ?_
  | with_reducible refine iteT ?_
  | with_reducible refine iteF ?_
  | with_reducible refine r_cons ?_
  | with_reducible refine r_nil ?_
  | with_reducible refine r_call ?_
  | with_reducible refine r_cb ?_
  | with_reducible refine r_ret ?_
  | with_reducible refine r_gName ?_
  | with_reducible refine r_next ?_
  | with_reducible refine r_ifS ?_
  | with_reducible refine r_un ?_
  | with_reducible refine r_U ?_
  | with_reducible refine r_max2 ?_
  | with_reducible refine r_min2 ?_
  | with_reducible refine r_sl ?_
  | with_reducible refine r_noPart ?_
  | with_reducible refine r_part ?_
  | with_reducible refine r_inti ?_
  | with_reducible refine r_lc ?_
  | with_reducible refine r_for ?_
  | with_reducible refine r_rng1 ?_
  | with_reducible refine r_iList ?_
  | with_reducible refine r_iTup ?_
  | with_reducible refine r_iStr ?_
  | with_reducible refine r_strx ?_
  | ((with_reducible refine r_j ?hh ?hi ?_); (case hh => omega); (case hi => omega))
  | with_reducible refine r_m1 ?_
  | with_reducible refine r_test ?_
  | with_reducible refine r_B ?_
  | with_reducible refine r_not ?_
  | with_reducible refine r_and ?_
  | with_reducible refine r_or ?_
  | with_reducible refine r_andV ?_
  | with_reducible refine r_orV ?_
  | with_reducible refine r_notV ?_
  | with_reducible refine r_if ?_
  | with_reducible refine r_chain ?_
  | with_reducible refine r_lst ?_
  | with_reducible refine r_tup ?_
  | with_reducible refine r_k ?_
  | ((with_reducible refine r_isiS (d := ?dd) ?hh ?_); (case hh => assumption))
  | ((with_reducible refine r_isiT (d := ?dd) ?hh ?_); (case hh => assumption))
  | ((with_reducible refine r_isiI (d := ?dd) ?hh ?_); (case hh => assumption))
  | ((with_reducible refine r_isiB (d := ?dd) ?hh ?_); (case hh => assumption))
  | ((with_reducible refine r_lenS ?hh ?_); (case hh => assumption))
  | ((with_reducible refine r_lenT (xs := ?dd) ?hh ?_); (case hh => assumption))
  | ((with_reducible refine r_ixT (xs := ?xx) (v := ?vv) ?hh ?he ?_); (case hh => assumption); (case he => rfl))
  | with_reducible refine r_isN ?_
  | with_reducible refine r_I0 ?_
  | with_reducible refine g_addI ?_
  | ((with_reducible refine r_mod ?hh ?_); (case hh => first | decide | omega))
  | ((with_reducible refine r_div ?hh ?hi ?_); (case hh => first | decide | omega); (case hi => first | decide | omega))
  | ((with_reducible refine g_mulB ?hh ?hi ?_); (case hh => omega); (case hi => omega))
  | with_reducible refine g_ltI ?_
  | with_reducible refine g_leI ?_
  | with_reducible refine g_gtI ?_
  | with_reducible refine g_geI ?_
  | with_reducible refine g_eqI ?_
  | with_reducible refine g_neI ?_
  | with_reducible refine g_eqS ?_
  | with_reducible refine g_neS ?_
  | with_reducible refine g_leS ?_
  | with_reducible refine g_ltS ?_)
local macro_rules | `(tactic| walk_at "rd") => `(tactic| repeat (walk_at "rd1"))
local macro_rules | `(tactic| walk_at "ed") => `(tactic| repeat first
  | exact ed_int
  | exact ed_str
  | exact ed_bl
  | exact ed_non
  | exact ed_nil
  | exact ed_dct
  | exact ed_neg
  | with_reducible apply ed_cons
  | with_reducible apply ed_tup
  | with_reducible apply ed_lst
  | exact Nat.le_of_ble_eq_true rfl)
local macro_rules | `(tactic| walk_at "tx1") => `(tactic| first
  | walk_at "rd1"
  | with_reducible refine r_callS ?_
  | with_reducible refine r_zipA ?_
  | with_reducible refine r_par ?_
  | with_reducible refine r_pair ?_
  | with_reducible refine r_pow6 ?_
  | with_reducible refine r_m0 ?_
  | with_reducible refine r_bm ?_
  | with_reducible refine r_isS ?_
  | with_reducible refine r_told ?_
  | with_reducible refine r_js ?_
  | with_reducible refine r_jsNil ?_
  | with_reducible refine r_repl ?_
  | ((with_reducible refine r_gLst (xs := ?xx) ?hh ?he ?_); (case hh => assumption); (case he => rfl))
  | ((with_reducible refine r_lenL (xs := ?xx) ?hh ?_); (case hh => assumption)))
local macro_rules | `(tactic| walk_at "tx") => `(tactic| repeat (walk_at "tx1"))
section
variable {t1 t2 t3 : Tok} {P : Program} {w : World} {K : PySem.W.Frag} {mg : Str → Option Value} {base : Heap}
/-! ### the default: the empty tuple of the module's own -/
theorem ty_sqT {H : Hp} {T : Addr} {xs : List V} (h : SqT K H T xs) : TyX K H (.ref T) (.type "tuple") := by
  rcases h with (h | ⟨o, h⟩) | ⟨o, it, n, h1, h2, _⟩
  · exact .base (.tup h)
  · exact .fTuple h
  · exact .kTuple h1 h2
theorem kit_tup : PySem.W.kitAny K (.type "tuple") [.type "list", .type "tuple"] = some true := by
  have a : PySem.W.kitOne K (.type "tuple") (.type "list") = some false := isOf_kit (K := K) (.tuple []) (T := "list") (by decide)
  have b : PySem.W.kitOne K (.type "tuple") (.type "tuple") = some true := isOf_kit (K := K) (.tuple []) (T := "tuple") (by decide)
  unfold PySem.W.kitAny
  rw [a]
  show PySem.W.kitAny K (.type "tuple") [.type "tuple"] = _
  unfold PySem.W.kitAny
  rw [b]
def spAre0 (K : PySem.W.Frag) : Sp := fun vs H Q _ => ∃ T : Addr, vs = [.ref T] ∧ SqT K H T [] ∧ ∀ H', Same H H' → Q (.bl true) H'
theorem ok_are0 (T : Txt mg t1 t2 t3) {f : Addr} {fd : FuncData} (F : Fun K "_are_entries" "_are_entries" s_are_entries f fd) (K_is_entry : Cal P w K mg base CX0 3 "is_entry" p_is_entry (spD K entryD)) : FnOk P w K mg base CX0 4 f fd p_are_entries (spAre0 K) := by
  refine F.ok sc_are_entries (fun vs H Q E h => by obtain ⟨v, rfl, _⟩ := h; rfl) (fun cdv A outer s H vs Q E hr h => ?_)
  obtain ⟨TT, rfl, hs, k⟩ := h
  have hu := hr.units
  refine ⟨_, (pss_cons (ps_if (pt_not (pt_val (pe_callB k_isiT (by rfl) T.z_isinstance (by decide +kernel) (pa_cons (pv 0) (pa_cons (pe_tup (pa_cons (pe_bltn (v := .ty "list") rfl T.z_list (by decide +kernel) rfl) (pa_cons (pe_bltn (v := .ty "tuple") rfl T.z_tuple (by decide +kernel) rfl) pa_nil))) pa_nil))))) (pss_one (ps_ret pe_bl)) pss_nil)
      (pss_cons (ps_if (pt_not (pt_val (pe_callB (k_all rfl) (by rfl) T.z_all (by decide +kernel) (pa_cons (pe_lc (own := [("entry", 1)]) rfl sc_are_entries.nd (k_seq (pv 0)) (blkOk_by (own := [("entry", 1)]) (N := n_are_entries) (sc := defScope s_are_entries) (by decide +kernel)) (fun _ _ _ _ _ => (pg_name (i := 1) sc_are_entries.nd rfl (by first | exact Or.inl rfl | exact Or.inr rfl))) (fun _ _ _ _ _ => pts_nil) (fun _ _ _ _ _ => (pe_cal K_is_entry (hr.mono (by decide)) pass0 (pa_cons (pv 1) pa_nil)))) pa_nil)))) (pss_one (ps_ret pe_bl)) pss_nil)
      (pss_one (ps_ret (pe_cmpR (k_eq hu) (pe_callB k_lenX (by rfl) T.z_len (by decide +kernel) (pa_cons (pe_scT (own := [("entry", 1)]) rfl sc_are_entries.nd (k_seq (pv 0)) (blkOk_by (own := [("entry", 1)]) (N := n_are_entries) (sc := defScope s_are_entries) (by decide +kernel)) (fun _ _ _ _ _ => (pg_name (i := 1) sc_are_entries.nd rfl (by first | exact Or.inl rfl | exact Or.inr rfl))) (fun _ _ _ _ _ => pts_nil) (fun _ _ _ _ _ => (pe_ix k_ix (pv 1) pe_int (fun _ _ => rfl)))) pa_nil)) (pe_callB k_len (by rfl) T.z_len (by decide +kernel) (pa_cons (pv 0) pa_nil)) (nomark _)))))), ?_⟩
  have sqS : ∀ {H' : Hp}, Same H H' → SqT K H' TT [] := fun s => by
    rcases hs with h | h
    · exact .inl (Rd.sameR h s)
    · exact .inr h
  walk_at "tx"
  refine a_tup (by simp) fun T0 H1 n1 s1 e1 => ?_
  walk_at "tx"
  refine ⟨.ref TT, T0, _, .type "tuple", [.type "list", .type "tuple"], true, rfl, e1, .cons (.ty _) (.cons (.ty _) .nil), ty_sqT (sqS s1), kit_tup, ?_⟩
  refine r_k ?_
  refine iteF ?_
  walk_at "tx"
  refine .inr ⟨_, rfl, TT, rfl, ⟨[], sqS s1⟩, ?_⟩
  refine lc_walkI (xs := []) walk_tup (fun H' s' => sqS (s1.trans s')) [] rfl (by simp) (fun i x r hx hr H2 R s2 q => by cases hx) (fun L H2 nL s2 eL => ?_)
  walk_at "tx"
  refine r_all (bs := []) eL ?_
  walk_at "tx"
  refine iteF ?_
  walk_at "tx"
  refine r_scT ?_
  refine .inr ⟨_, rfl, TT, rfl, ⟨[], sqS (s1.trans s2)⟩, ?_⟩
  refine sc_pure (items := []) walk_tup (fun H' s' => sqS ((s1.trans s2).trans s')) (by simp) [] rfl (fun i x z hx hz H3 R s3 q => by cases hx) (fun B H3 nB s3 eB => ?_)
  walk_at "tx"
  refine ⟨B, _, rfl, eB, ?_⟩
  walk_at "tx"
  refine ⟨_, _, rfl, .inr ⟨[], sqS ((s1.trans s2).trans s3), rfl⟩, ?_⟩
  refine g_eqI ?_
  exact k H3 ((s1.trans s2).trans s3)
def spInit0 (K : PySem.W.Frag) (C : Addr) : Sp := fun vs H Q E => ∃ (a dx TT : Addr), vs = [.ref a, .ref TT] ∧ H a = some (.ins C dx []) ∧ SqT K H TT [] ∧ ∀ H', (∀ b o, H b = some o → b ≠ a → H' b = some o) → ContAt K C H' a [] → Q .non H'
theorem ok_init0 {C CB : Addr} (CC : ContC K C) (R_BadEntries : ExcR P w K mg base "BadEntries" CB) (T : Txt mg t1 t2 t3) {f : Addr} {fd : FuncData} {dvs : List V} {kws : List (Str × V)} (F : FunD K "__init__" "Content.__init__" (defArgs s_Content___init__) (defBody s_Content___init__) (defScope s_Content___init__) dvs kws f fd) (K_are_entries : Cal P w K mg base CX0 4 "_are_entries" p_are_entries (spAre0 K)) : FnOk P w K mg base (L2.CX P w) 5 f fd p_Content___init__ (spInit0 K C) := by
  refine FunD.ok F sc_Content___init__ (fun vs H Q E h => by obtain ⟨a, dx, TT, rfl, _⟩ := h; rfl) (fun cdv A outer s H vs Q E hr h => ?_)
  obtain ⟨a, dx, TT, rfl, ea, hs, k⟩ := h
  have hu := hr.units
  have sqS : ∀ {H' : Hp}, Same H H' → SqT K H' TT [] := fun s => by
    rcases hs with h | h
    · exact .inl (Rd.sameR h s)
    · exact .inr h
  refine ⟨_, (pss_cons (ps_if (pt_not (pt_val (pe_cal K_are_entries (hr.mono (by decide)) pass0 (pa_cons (pv 1) pa_nil)))) (pss_one (ps_raiseV R_BadEntries (takes_of rfl rfl rfl rfl) (hr.mono (by decide)) (pv 1))) pss_nil)
      (pss_one (k_setF (pv 0) (pe_dc (own := [("entry", 2)]) rfl sc_Content___init__.nd (k_seq (pv 1)) (blkOk_by (own := [("entry", 2)]) (N := n_Content___init__) (sc := defScope s_Content___init__) (by decide +kernel)) (fun _ _ _ _ _ => (pg_name (i := 2) sc_Content___init__.nd rfl (by first | exact Or.inl rfl | exact Or.inr rfl))) (fun _ _ _ _ _ => pts_nil) (fun _ _ _ _ _ => (pe_ix k_ix (pv 2) pe_int (fun _ _ => rfl))) (fun _ _ _ _ _ => (pv 2)))))), ?_⟩
  walk_at "tx"
  refine ⟨TT, rfl, hs, fun H1 s1 => ?_⟩
  walk_at "tx"
  refine iteF ?_
  walk_at "tx"
  dsimp only
  refine r_setF ?_
  refine r_dc ?_
  refine .inr ⟨_, rfl, TT, rfl, ⟨[], sqS s1⟩, ?_⟩
  refine dc_pure (K := K) (xs := []) (es := []) walk_tup (fun H' s' => sqS (s1.trans s')) (by simp) .nil (by simp) (fun i x e hx he H2 R s2 q => by cases hx) (fun i x hx H2 R s2 q => by cases hx) (fun D H2 kvs nD s2 eD rows => ?_)
  walk_at "tx"
  have s02 := s1.trans s2
  refine ⟨a, C, dx, [], rfl, s02 _ _ ea, CC.cls, CC.no, by decide, ?_⟩
  have aD : a ≠ D := by
    rintro rfl
    rw [s1 _ _ ea] at nD
    cases nD
  have bt : But a H2 (upd H2 a (.ins C dx (putF "_table" (V.ref D) []))) := fun b o e n => by rw [upd_ne n]; exact e
  have g0 : Tk.GoodE [] := ⟨fun _ h => (nomatch h), by simp⟩
  exact k _ (fun b o e n => bt b o (s02 _ _ e) n) ⟨dx, D, kvs, upd_same, bt _ _ eD (Ne.symm aD), rows.stay g0 bt (fun xs z => by rw [s02 _ _ ea] at z; cases z), g0, by simp⟩
/-- C() -/
theorem mk0_at {C TT : Addr} {H1 : Hp} {Q : Addr → Hp → Prop} {E : XK} (hs : ∀ H, SqT K H TT []) (k : ∀ c H', Same H1 H' → ContAt K C H' c [] → Q c H') :
    ∀ x dx, H1 x = none → H1 dx = none → dx ≠ x → spInit0 K C (.ref x :: [.ref TT]) (upd (upd H1 dx (.own x)) x (.ins C dx [])) (fun v H2 => v = .non ∧ Q x H2) E := by
  intro x dx nx ndx ne
  have s1 : Same H1 (upd (upd H1 dx (.own x)) x (.ins C dx [])) := fun b o e => by
    rw [upd_ne (ne_of_none e nx), upd_ne (ne_of_none e ndx)]
    exact e
  exact ⟨x, dx, TT, rfl, upd_same, hs _, fun H' kept ct => ⟨rfl, k x H' (fun b o e => kept b o (s1 b o e) (ne_of_none e nx)) ct⟩⟩
/-! ### == -/
def spEqA (K : PySem.W.Frag) (C : Addr) : Sp := fun vs H Q _ => ∃ (a b : Addr) (es : List PyData), vs = [.ref a, .ref b] ∧ ContAt K C H a es ∧ ((∃ fs, ContAt K C H b fs ∧ Q (.bl (eqTab es fs)) H) ∨ ((∃ xs, H b = some (.lst xs)) ∧ Q (.bl false) H) ∨ ((∃ xs, H b = some (.tup xs)) ∧ Q (.bl false) H))
abbrev s_Content___eq__ : Stmt := inClass (top 16) 5
abbrev n_Content___eq__ : List Str := ["self", "other"]
abbrev p_Content___eq__ : List Str := ["self", "other"]
theorem sc_Content___eq__ : FnScope n_Content___eq__ p_Content___eq__ (defScope s_Content___eq__) := ⟨rfl, rfl, rfl, by decide +kernel, rfl, by decide +kernel, by decide +kernel⟩
theorem ok_eq {C CB : Addr} (CC : ContC K C) (CI : ContI K C) (i1 : PySem.W.kitOne K (.type "list") (.ref C) = some false) (i2 : PySem.W.kitOne K (.type "tuple") (.ref C) = some false) (T : Txt mg t1 t2 t3) {f : Addr} {fd : FuncData} (F : Fun K "__eq__" "Content.__eq__" s_Content___eq__ f fd) (K_Content : CalC P w K mg base (L2.CX P w) "Content" C 5 ["self", "entries"] (spInit K C CB)) : FnOk P w K mg base CX0 1 f fd p_Content___eq__ (spEqA K C) := by
  refine F.ok sc_Content___eq__ (fun vs H Q E h => by obtain ⟨a, b, es, rfl, _⟩ := h; rfl) (fun cdv A outer s H vs Q E hr h => ?_)
  obtain ⟨a, b, es, rfl, ⟨dx, p, kvs, e1, e2, rows, hg, hl⟩, h⟩ := h
  have hu : (A.deeper (envOfC (Str.ofString "Content.__eq__") (defScope s_Content___eq__) s.heap.objs.size f cdv)).units + 64 < cLine := by have := hr.units; omega
  refine ⟨_, (pss_one (ps_ret (pe_and (pe_callB call_isi (by rfl) T.z_isinstance (by decide +kernel) (pa_cons (pv 1) (pa_cons (pe_glob (v := V.ref C) rfl K_Content.at_ rfl) pa_nil))) (pe_one (pe_cmpR (k_eqT hu) (k_fld (pv 0)) (k_fld (pv 1)) (nomark _)))))), ?_⟩
  walk_at "tx"
  rcases h with ⟨fs, ⟨dx2, p2, kvs2, f1, f2, rows2, hg2, hl2⟩, k⟩ | ⟨⟨xs, eb⟩, k⟩ | ⟨⟨xs, eb⟩, k⟩
  · refine ⟨.ref b, .ref C, .ref C, .ref C, true, rfl, .own C, .base (.ins f1 CC.cls CI.ha CI.hn CI.ht CI.hm), by unfold PySem.W.kitOne; rw [beq_self_eq_true, if_pos rfl], ⟨true, rfl, ?_⟩⟩
    rw [if_pos rfl]
    walk_at "tx"
    refine r_fld ?_
    walk_at "tx"
    refine ⟨a, C, dx, _, _, rfl, e1, CC.cls, CC.no, tab_at p, ?_⟩
    refine r_fld ?_
    walk_at "tx"
    refine ⟨b, C, dx2, _, _, rfl, f1, CC.cls, CC.no, tab_at p2, ?_⟩
    refine ⟨p, p2, kvs, kvs2, es, fs, rfl, rfl, e2, f2, rows, rows2, fun e he => ?_, fun e he => ?_, k⟩
    · have z := entry_fl (hg.all e he)
      exact ⟨z.2.1, Nat.le_trans z.2.2 (by decide)⟩
    · exact (entry_fl (hg2.all e he)).2.1
  · refine ⟨.ref b, .ref C, .type "list", .ref C, false, rfl, .own C, .base (.lst eb), i1, ⟨false, rfl, ?_⟩⟩
    rw [if_neg (by decide)]
    exact k
  · refine ⟨.ref b, .ref C, .type "tuple", .ref C, false, rfl, .own C, .base (.tup eb), i2, ⟨false, rfl, ?_⟩⟩
    rw [if_neg (by decide)]
    exact k
end
end K05

set_option Elab.async false
set_option linter.all false
set_option maxRecDepth 100000
set_option maxHeartbeats 4000000
/-! a comprehension over the rows of a dict of entries -/
namespace Tk
open PySem PySem.Spec PyProof.Rows L2
theorem wipe_two (σ : L2.St) (s1 s2 : Nat) (x y : V) : wipe (((wipe σ [s1, s2]).set s1 (some x)).set s2 (some y)) [s1, s2] = wipe σ [s1, s2] := by
  simp only [wipe]
  apply List.ext_getElem?
  intro j
  simp only [List.getElem?_set, List.length_set]
  by_cases h1 : s1 = j <;> by_cases h2 : s2 = j <;> simp [h1, h2]
theorem slot_two (σ : L2.St) (s1 s2 : Nat) (x y : V) : ((wipe σ [s1, s2]).set s1 (some x)).set s2 (some y) = (σ.set s1 (some x)).set s2 (some y) := by
  simp only [wipe]
  apply List.ext_getElem?
  intro j
  simp only [List.getElem?_set, List.length_set]
  by_cases h1 : s1 = j <;> by_cases h2 : s2 = j <;> simp [h1, h2]
theorem lsAll_ff {l : List PyData} (h : ∀ d ∈ l, flatD d = true) : lsAll (fun _ => false) l = true := lsAll_iff.mpr h
theorem lc_items {K : PySem.W.Frag} {d : Addr} {od : Obj} {kvs : List (Key × V)} {es : List PyData} {s1 s2 : Nat} {tt : TT} {te : TE} {σ : L2.St} {H1 : Hp} {Qd : VK} (rows : RowsK K H1 kvs es) (hd0 : H1 d = some (.frz od (.dK kvs))) (hn : es.length ≤ 1000) (gb : PyData → Bool) (g : PyData → PyData) (fl : ∀ e ∈ es, gb e = true → flatD (g e) = true)
    (ht : ∀ e ∈ es, ∀ (x : V) (H2 : Hp) (R : Bool → Hp → Prop), Same H1 H2 → Dd K H2 x e → (∀ H3, Same H2 H3 → R (gb e) H3) → tt ((σ.set s1 (some (.str (keyD e)))).set s2 (some x)) H2 R)
    (he : ∀ e ∈ es, gb e = true → ∀ (x : V) (H2 : Hp) (R : VK), Same H1 H2 → Dd K H2 x e → (∀ r H3, Same H2 H3 → Dd K H3 r (g e) → R r H3) → te ((σ.set s1 (some (.str (keyD e)))).set s2 (some x)) H2 R)
    (hd : ∀ (D : Addr) (H' : Hp) (rs : List V), H1 D = none → Same H1 H' → H' D = some (.lst rs) → DdAll K H' rs ((es.filter gb).map g) → Qd (.ref D) H') :
    LcG (Iti d od kvs) (gTup K 2 (gCons (gName s1) (gCons (gName s2) gNil))) tt te [s1, s2] σ H1 Qd := by
  intro D nD
  have ll := rows.len
  refine lc_it (Qd := fun H' => Qd (.ref D) H') walk_items (fun i H' => Same H1 H' ∧ ∃ rs, H' D = some (.lst rs) ∧ DdAll K H' rs (((es.take i).filter gb).map g)) ⟨Same.new nD, [], upd_same, .nil⟩ (fun i H' _ p => p.1 _ _ hd0) ?_ (fun H' p => ?_)
  · rintro i v H2 H3 hi ⟨p1, rs, p2, p3⟩ ⟨TT, x1, y1, rfl, nT, rfl, hx, hy⟩
    obtain ⟨e, hei, rfl, dd, hkv⟩ := item_at (rows.same p1) hx hy
    have hm : e ∈ es := List.mem_of_getElem? hei
    have sT : Same H2 (upd H2 TT (.tup [.str (keyD e), y1])) := Same.new nT
    refine ⟨TT, [.str (keyD e), y1], rfl, SqT.of upd_same, rfl, _, [y1], rfl, y1, [], rfl, rfl, wipe_two σ s1 s2 _ _, ?_⟩
    rw [slot_two]
    have dd3 := Dd.same sT _ _ dd
    have p13 := p1.trans sT
    have e3 := sT _ _ p2
    have a3 := DdAll.same sT _ _ p3
    generalize upd H2 TT (.tup [.str (keyD e), y1]) = H3 at p13 dd3 e3 a3 sT ⊢
    have tk : es.take (i + 1) = es.take i ++ [e] := by rw [List.take_succ, hei]; rfl
    refine ht e hm y1 H3 _ p13 dd3 fun H4 s4 => ?_
    cases c : gb e with
    | false =>
      rw [if_neg (by decide)]
      refine ⟨p13.trans s4, rs, s4 _ _ e3, ?_⟩
      rw [tk, List.filter_append, List.filter_cons_of_neg (by rw [c]; decide), List.filter_nil, List.append_nil]
      exact DdAll.same s4 _ _ a3
    | true =>
      rw [if_pos rfl]
      refine he e hm c y1 H4 _ (p13.trans s4) (Dd.same s4 _ _ dd3) fun r H5 s5 dr => ?_
      have e5 := s5 _ _ (s4 _ _ e3)
      have lr : rs.length ≤ 1000 := by
        rw [p3.length, List.length_map]
        refine Nat.le_trans (List.length_filter_le _ _) ?_
        rw [List.length_take]
        omega
      refine ⟨rs, e5, sz_lt (by omega), Same.mut ((p13.trans s4).trans s5) nD, rs ++ [r], upd_same, ?_⟩
      rw [tk, List.filter_append, List.filter_cons_of_pos c, List.filter_nil, List.map_append]
      have bt : But D H5 (upd H5 D (.lst (rs ++ [r]))) := But.refl.set
      have nt : ∀ xs, H5 D ≠ some (.tup xs) := fun xs z => by rw [e5] at z; cases z
      have f1 : lsAll (fun _ => false) (((es.take i).filter gb).map g) = true := lsAll_ff fun y hy => by
        obtain ⟨z, hz, rfl⟩ := List.mem_map.mp hy
        obtain ⟨h1, h2⟩ := List.mem_filter.mp hz
        exact fl z (List.mem_of_mem_take h1) h2
      exact (DdAll.stay bt nt _ _ f1 (DdAll.same (s4.trans s5) _ _ a3)).append (.cons (Dd.stay bt nt _ _ (fl e hm c) dr) .nil)
  · obtain ⟨p1, rs, p2, p3⟩ := p
    rw [List.take_of_length_le (by omega)] at p3
    exact hd D H' rs nD p1 p2 p3
/-- a comprehension over things that are data, each result data -/
theorem lc_ents {K : PySem.W.Frag} {J : It} {G : Hp → Prop} {xs : List V} {es : List PyData} {s : Nat} {tt : TT} {te : TE} {σ : L2.St} {H1 : Hp} {Qd : VK} (wk : Walk J xs.length G (YAt xs)) (hG : ∀ H', Same H1 H' → G H') (al : DdAll K H1 xs es) (hn : xs.length ≤ 1000) (gb : PyData → Bool) (g : PyData → PyData) (fl : ∀ e ∈ es, gb e = true → flatD (g e) = true)
    (ht : ∀ e ∈ es, ∀ (x : V) (H2 : Hp) (R : Bool → Hp → Prop), Same H1 H2 → Dd K H2 x e → (∀ H3, Same H2 H3 → R (gb e) H3) → tt (σ.set s (some x)) H2 R)
    (he : ∀ e ∈ es, gb e = true → ∀ (x : V) (H2 : Hp) (R : VK), Same H1 H2 → Dd K H2 x e → (∀ r H3, Same H2 H3 → Dd K H3 r (g e) → R r H3) → te (σ.set s (some x)) H2 R)
    (hd : ∀ (D : Addr) (H' : Hp) (rs : List V), H1 D = none → Same H1 H' → H' D = some (.lst rs) → DdAll K H' rs ((es.filter gb).map g) → Qd (.ref D) H') :
    LcG J (gName s) tt te [s] σ H1 Qd := by
  intro D nD
  have ll := al.length
  refine lc_it (Qd := fun H' => Qd (.ref D) H') wk (fun i H' => Same H1 H' ∧ ∃ rs, H' D = some (.lst rs) ∧ DdAll K H' rs (((es.take i).filter gb).map g)) ⟨Same.new nD, [], upd_same, .nil⟩ (fun i H' _ p => hG H' p.1) ?_ (fun H' p => ?_)
  · rintro i x H2 H3 hi ⟨p1, rs, p2, p3⟩ ⟨rfl, hx⟩
    obtain ⟨e, hei, dd⟩ := dd_get al hx
    have hm : e ∈ es := List.mem_of_getElem? hei
    refine ⟨wipe_set σ s _, ?_⟩
    rw [wipe_slot]
    have dd3 := Dd.same p1 _ _ dd
    have tk : es.take (i + 1) = es.take i ++ [e] := by rw [List.take_succ, hei]; rfl
    refine ht e hm x _ _ p1 dd3 fun H4 s4 => ?_
    cases c : gb e with
    | false =>
      rw [if_neg (by decide)]
      refine ⟨p1.trans s4, rs, s4 _ _ p2, ?_⟩
      rw [tk, List.filter_append, List.filter_cons_of_neg (by rw [c]; decide), List.filter_nil, List.append_nil]
      exact DdAll.same s4 _ _ p3
    | true =>
      rw [if_pos rfl]
      refine he e hm c x H4 _ (p1.trans s4) (Dd.same s4 _ _ dd3) fun r H5 s5 dr => ?_
      have e5 := s5 _ _ (s4 _ _ p2)
      have lr : rs.length ≤ 1000 := by
        rw [p3.length, List.length_map]
        refine Nat.le_trans (List.length_filter_le _ _) ?_
        rw [List.length_take]
        omega
      refine ⟨rs, e5, sz_lt (by omega), Same.mut ((p1.trans s4).trans s5) nD, rs ++ [r], upd_same, ?_⟩
      rw [tk, List.filter_append, List.filter_cons_of_pos c, List.filter_nil, List.map_append]
      have bt : But D H5 (upd H5 D (.lst (rs ++ [r]))) := But.refl.set
      have nt : ∀ xs, H5 D ≠ some (.tup xs) := fun xs z => by rw [e5] at z; cases z
      have f1 : lsAll (fun _ => false) (((es.take i).filter gb).map g) = true := lsAll_ff fun y hy => by
        obtain ⟨z, hz, rfl⟩ := List.mem_map.mp hy
        obtain ⟨h1, h2⟩ := List.mem_filter.mp hz
        exact fl z (List.mem_of_mem_take h1) h2
      exact (DdAll.stay bt nt _ _ f1 (DdAll.same (s4.trans s5) _ _ p3)).append (.cons (Dd.stay bt nt _ _ (fl e hm c) dr) .nil)
  · obtain ⟨p1, rs, p2, p3⟩ := p
    rw [List.take_of_length_le (by omega)] at p3
    exact hd D H' rs nD p1 p2 p3
theorem r_iKeysK {td : TE} {σ : L2.St} {H : Hp} {R : It → Hp → Prop} (h : td σ H fun x H1 => ∃ d o kvs, x = .ref d ∧ H1 d = some (.frz o (.dK kvs)) ∧ R (Itk d o kvs) H1) (tm : ∀ {A B : VK}, (∀ v H, A v H → B v H) → td σ H A → td σ H B) : iKeys td σ H R := tm (fun _ _ z => by obtain ⟨d, o, kvs, e, h1, h2⟩ := z; exact ⟨d, o, e, .inl ⟨kvs, h1, h2⟩⟩) h
theorem walk_keysV {d : Addr} {o : Obj} {kvs : List (Key × V)} : Walk (Itk d o kvs) (kvs.map fun kv => kV kv.1).length (fun H => H d = some (.frz o (.dK kvs))) (YAt (kvs.map fun kv => kV kv.1)) := by
  rw [List.length_map]
  refine walk_keys.mono (fun _ h => h) fun i H x H' _ _ y => ?_
  obtain ⟨rfl, k, v, h1, rfl⟩ := y
  exact ⟨rfl, by rw [List.getElem?_map, h1]; rfl⟩
theorem andE_is (es fs : List PyData) : (es.filter fun e => (findE fs (keyD e)).isSome).map (fun e => olderD e ((findE fs (keyD e)).getD .none)) = andE es fs := by
  induction es with
  | nil => rfl
  | cons e es ih =>
    unfold andE at ih ⊢
    rw [List.filterMap_cons]
    cases q : findE fs (keyD e) with
    | none =>
      rw [List.filter_cons_of_neg (by rw [q]; decide)]
      exact ih
    | some f =>
      rw [List.filter_cons_of_pos (by rw [q]; rfl), List.map_cons, ih, q]
      rfl
end Tk

set_option Elab.async false
set_option linter.all false
set_option maxRecDepth 100000
set_option maxHeartbeats 4000000
/-! events as text: what is written, the quick reader, the law's own reader -/
namespace TkP
open PySem PySem.StrLaws PySem.Builtin PySem.Builtin.Str SX Tk L2 TkM
open TL (spl par joinL numL tl)
/-! ### split at most once, and not at all -/
theorem split0 (r : List Nat) {c : Nat} (hc : c < 256) : Txt.splitMax (S r) (S [c]) 0 = [S r] := by
  have lim : limitOf (S r) 0 = 0 := rfl
  have few : (occurrences (S r) (S [c]) 0 (S r).length 0).length ≤ 0 := occ_length_le _ _ _ _ _
  have key : occurrences (S r) (S [c]) 0 (S r).length 0 = [] := List.eq_nil_of_length_eq_zero (by omega)
  unfold Txt.splitMax
  rw [lim, key]
  simp
theorem split1 {p r : List Nat} {c : Nat} (hc : c < 256) (hp : c ∉ p) : Txt.splitMax (S (p ++ c :: r)) (S [c]) 1 = [S p, S r] := by
  obtain ⟨f, g, no⟩ := occ_two (S (p ++ c :: r)) (S [c]) 1 (Nat.le_refl _)
  have lim : limitOf (S (p ++ c :: r)) 1 = 1 := rfl
  have hl : (S (p ++ c :: r)).length = p.length + (r.length + 1) := by rw [S_len]; simp only [List.length_append, List.length_cons]
  have is : ∀ j, At (S (p ++ c :: r)) (S [c]) (S (p ++ c :: r)).length j ↔ (p ++ c :: r)[j]? = some c := subAt_one _ c
  have d1 : (p ++ c :: r).drop (p.length + 1) = r := by rw [← List.drop_drop, List.drop_left]; rfl
  have a1 : At (S (p ++ c :: r)) (S [c]) (S (p ++ c :: r)).length p.length := (is _).mpr (by rw [List.getElem?_append_right (Nat.le_refl _), Nat.sub_self]; rfl)
  have key : occurrences (S (p ++ c :: r)) (S [c]) 0 (S (p ++ c :: r)).length 1 = [p.length] := by
    have few : (occurrences (S (p ++ c :: r)) (S [c]) 0 (S (p ++ c :: r)).length 1).length ≤ 1 := occ_length_le _ _ _ _ _
    generalize occurrences (S (p ++ c :: r)) (S [c]) 0 (S (p ++ c :: r)).length 1 = cs at g no few
    match cs, g, no, few with
    | [], g, no, _ =>
      have e : f = 0 := g
      exact absurd a1 (no (by decide) _ (by omega))
    | [b], g, no, _ =>
      obtain ⟨g1, g2, g3, g4⟩ := g
      have eb := first_at (L := p ++ c :: r) (f := 0) (p := p) (r := r) _ rfl hp rfl g1 g2 g3
      rw [eb, Nat.zero_add]
    | _ :: _ :: _, _, _, few => simp at few
  unfold Txt.splitMax
  rw [lim, key, if_neg, if_neg (by simp), partsBetween_eq]
  · show [strSub _ 0 p.length, strSub _ (p.length + 1) (S (p ++ c :: r)).length] = _
    have e1 : strSub (S (p ++ c :: r)) 0 p.length = S p := TL.ext_tl (by rw [TL.tl_strSub]; show ((p ++ _).drop 0).take (p.length - 0) = p; rw [List.drop_zero, Nat.sub_zero, List.take_left])
    have e2 : strSub (S (p ++ c :: r)) (p.length + 1) (S (p ++ c :: r)).length = S r := TL.ext_tl (by
      rw [TL.tl_strSub_end]
      exact d1)
    rw [e1, e2]
  · rw [Bool.or_eq_true, decide_eq_true_eq, decide_eq_true_eq]
    rintro (z | z)
    · rw [hl] at z
      have : (S [c]).length = 1 := rfl
      omega
    · exact TL.kind_ok (all256 (b := [c]) (by simp [hc])) z
/-! ### what is written -/
def keysT (ds : List PyData) : List (List Nat) := ds.map fun d => tl (txtD d)
def partT (k : Str) : PyData → List Nat
  | .str x => if k = "value" then 34 :: (esc (tl x) ++ [34]) else tl x
  | .int i => numL i.toNat
  | .tuple ds => joinL [32] (keysT ds)
  | _ => [42]
def partsT : List Str → List PyData → List (List Nat)
  | k :: ks, d :: ds => partT k d :: partsT ks ds
  | _, _ => []
def evT : PyData → List Nat
  | .tuple (.str x :: rest) => joinL [32] (tl x :: partsT ((formsT.lookup x).getD []) rest)
  | _ => []
/-! ### the quick reader -/
def likK (x : Str) : PyData := if (x == S [42]) = true then .none else if (0 : Int) < (x.length : Int) then .tuple ((Txt.split x (S [32])).map .str) else .tuple []
def likP (k x : Str) : PyData := if k = "value" then .str (unq x) else if k = "number" ∨ k = "index" then likN x else if k = "keys" then likK x else .str x
def likPs : List Str → List Str → List PyData
  | k :: ks, x :: xs => likP k x :: likPs ks xs
  | _, _ => []
def likV (x : Str) : PyData :=
  match formsT.lookup (Txt.partition x (S [32])).1 with
  | none => .none
  | some f => .tuple (.str (Txt.partition x (S [32])).1 :: likPs f (Txt.splitMax (Txt.partition x (S [32])).2.2 (S [32]) ((f.length : Int) - 1)))
/-! ### the kinds of parts -/
def KW : Str := "word"
def shapes : List (List Str) := [["word", "word", "value"], ["word", "word"], ["word", "number"], ["word", "word", "keys"], ["word", "word", "index"], ["word"]]
theorem shape_of {x : Str} {f : List Str} (h : formsT.lookup x = some f) : f ∈ shapes := by
  have all : ∀ p ∈ formsT, p.2 ∈ shapes := by decide
  have : ∀ l : List (Str × List Str), (∀ p ∈ l, p.2 ∈ shapes) → l.lookup x = some f → f ∈ shapes := by
    intro l
    induction l with
    | nil => intro _ z; cases z
    | cons p r ih =>
      intro a z
      rw [List.lookup_cons] at z
      split at z
      · cases z
        exact a _ (List.mem_cons_self ..)
      · exact ih (fun q hq => a q (List.mem_cons_of_mem _ hq)) z
  exact this _ all h
theorem word_txt {d : PyData} (h : wordD d = true) : ∃ a, d = .str (S a) ∧ wordS (S a) = true := by
  cases d with
  | str x => exact ⟨x.cps.toList, by rw [S_tl], by rw [S_tl]; exact h⟩
  | _ => cases h
theorem lik_word {d : PyData} (h : wordD d = true) : likP "word" (S (partT "word" d)) = d := by
  obtain ⟨a, rfl, _⟩ := word_txt h
  unfold likP
  rw [if_neg (by decide), if_neg (by decide), if_neg (by decide)]
  rfl
theorem lik_value {d : PyData} (h : valueD d = true) : likP "value" (S (partT "value" d)) = d := by
  cases d with
  | str x =>
    unfold likP
    rw [if_pos rfl]
    show PyData.str (unq (S (34 :: (esc (tl x) ++ [34])))) = _
    rw [unq_told]
  | _ => cases h
theorem likN_num {n : Nat} (hi : n ≤ 1000000000000000) : likN (S (numL n)) = .int n := by
  unfold likN
  have al : (numL n).all digB = true := List.all_eq_true.mpr fun c hc => by
    have := TL.numL_digits n c hc
    unfold digB
    rw [Bool.and_eq_true, decide_eq_true_eq, decide_eq_true_eq]
    exact this
  have ne : (numL n).isEmpty = false := by
    cases z : numL n with
    | nil => exact absurd z (TL.numL_ne n)
    | cons _ _ => rfl
  have hl := num_len hi
  rw [digits_told, al, ne, if_neg]
  · show PyData.int (NumText.digitsVal (numL n)) = _
    rw [TL.numL_val]
  · rw [S_len]
    simp
    omega
theorem lik_number {d : PyData} (h : numD d = true) : likP "number" (S (partT "number" d)) = d := by
  cases d with
  | int i =>
    unfold numD at h
    rw [Bool.and_eq_true, decide_eq_true_eq, decide_eq_true_eq] at h
    unfold likP
    rw [if_neg (by decide), if_pos (.inl rfl)]
    show likN (S (numL i.toNat)) = _
    rw [likN_num (by omega), Int.toNat_of_nonneg (by omega)]
  | _ => cases h
theorem lik_index {d : PyData} (h : indexD d = true) : likP "index" (S (partT "index" d)) = d := by
  cases d with
  | int i =>
    unfold indexD at h
    rw [Bool.and_eq_true, decide_eq_true_eq, decide_eq_true_eq] at h
    unfold likP
    rw [if_neg (by decide), if_pos (.inr rfl)]
    show likN (S (numL i.toNat)) = _
    rw [likN_num (by omega), Int.toNat_of_nonneg (by omega)]
  | _ => cases h
theorem keys_free {ds : List PyData} (h : ds.all wordD = true) {c : Nat} (hc : c < 97) : ∀ p ∈ keysT ds, c ∉ p := by
  intro p hp
  unfold keysT at hp
  obtain ⟨d, hd, rfl⟩ := List.mem_map.mp hp
  obtain ⟨a, rfl, ha⟩ := word_txt (List.all_eq_true.mp h d hd)
  exact word_free ha hc
theorem keys_back {ds : List PyData} (h : ds.all wordD = true) : ((keysT ds).map S).map PyData.str = ds := by
  unfold keysT
  rw [List.map_map, List.map_map]
  refine (List.map_congr_left fun d hd => ?_).trans (List.map_id _)
  obtain ⟨a, rfl, ha⟩ := word_txt (List.all_eq_true.mp h d hd)
  rfl
theorem keys_head {ds : List PyData} (h : ds.all wordD = true) (ne : ds ≠ []) : ∃ c r, joinL [32] (keysT ds) = c :: r ∧ 97 ≤ c := by
  cases ds with
  | nil => exact absurd rfl ne
  | cons d ds =>
    rw [List.all_cons, Bool.and_eq_true] at h
    obtain ⟨a, rfl, ha⟩ := word_txt h.1
    have l := (word_len ha).1
    cases a with
    | nil => simp at l
    | cons c a =>
      have hc : 97 ≤ c := by
        unfold wordS at ha
        rw [Bool.and_eq_true] at ha
        have := List.all_eq_true.mp ha.2 c (List.mem_cons_self ..)
        unfold lowB at this
        rw [Bool.and_eq_true, decide_eq_true_eq] at this
        exact this.1
      cases ds with
      | nil => exact ⟨c, a, rfl, hc⟩
      | cons e ds => exact ⟨c, a ++ ([32] ++ joinL [32] (keysT (e :: ds))), rfl, hc⟩
theorem lik_keys {d : PyData} (h : (noneD d || ascD d) = true) : likP "keys" (S (partT "keys" d)) = d := by
  unfold likP
  rw [if_neg (by decide), if_neg (by decide), if_pos rfl]
  rw [Bool.or_eq_true] at h
  rcases h with h | h
  · cases d <;> first | rfl | cases h
  · cases d with
    | tuple ds =>
      unfold ascD at h
      rw [Bool.and_eq_true] at h
      by_cases e : ds = []
      · subst e; rfl
      · obtain ⟨c, r, e1, e2⟩ := keys_head h.1 e
        show likK (S (joinL [32] (keysT ds))) = _
        unfold likK
        rw [if_neg, if_pos, split_S (b := [32]) (by simp) (by decide), TL.spl_join _ (keys_free h.1 (by decide)), keys_back h.1]
        · intro z
          unfold keysT at z
          exact e (List.map_eq_nil_iff.mp z)
        · rw [e1, S_len, List.length_cons]; omega
        · rw [e1, S_beq]
          intro z
          have := eq_of_beq z
          injection this with q _
          omega
    | _ => cases h
/-! ### the quick reader reads what is written -/
theorem parts3 {a b c : Str} {ds : List PyData} (h : partsD [a, b, c] ds = true) : ∃ x y z, ds = [x, y, z] ∧ kindD a x = true ∧ kindD b y = true ∧ kindD c z = true := by
  have l : ds.length = 3 := partsD_len h
  match ds, l, h with
  | [x, y, z], _, h =>
    have e : partsD [a, b, c] [x, y, z] = (kindD a x && (kindD b y && (kindD c z && true))) := rfl
    rw [e, Bool.and_eq_true, Bool.and_eq_true, Bool.and_eq_true] at h
    exact ⟨x, y, z, rfl, h.1, h.2.1, h.2.2.1⟩
theorem parts2 {a b : Str} {ds : List PyData} (h : partsD [a, b] ds = true) : ∃ x y, ds = [x, y] ∧ kindD a x = true ∧ kindD b y = true := by
  have l : ds.length = 2 := partsD_len h
  match ds, l, h with
  | [x, y], _, h =>
    have e : partsD [a, b] [x, y] = (kindD a x && (kindD b y && true)) := rfl
    rw [e, Bool.and_eq_true, Bool.and_eq_true] at h
    exact ⟨x, y, rfl, h.1, h.2.1⟩
theorem parts1 {a : Str} {ds : List PyData} (h : partsD [a] ds = true) : ∃ x, ds = [x] ∧ kindD a x = true := by
  have l : ds.length = 1 := partsD_len h
  match ds, l, h with
  | [x], _, h =>
    have e : partsD [a] [x] = (kindD a x && true) := rfl
    rw [e, Bool.and_eq_true] at h
    exact ⟨x, rfl, h.1⟩
/-- the last part's kind -/
theorem lik_last {k : Str} {d : PyData} (hk : k ∈ ([("word" : Str), "value", "number", "index", "keys"] : List Str)) (h : kindD k d = true) : likP k (S (partT k d)) = d := by
  unfold kindD at h
  simp only [List.mem_cons, List.not_mem_nil, or_false] at hk
  rcases hk with rfl | rfl | rfl | rfl | rfl
  · rw [if_pos rfl] at h; exact lik_word h
  · rw [if_neg (by decide), if_pos rfl] at h; exact lik_value h
  · rw [if_neg (by decide), if_neg (by decide), if_pos rfl] at h; exact lik_number h
  · rw [if_neg (by decide), if_neg (by decide), if_neg (by decide), if_pos rfl] at h; exact lik_index h
  · rw [if_neg (by decide), if_neg (by decide), if_neg (by decide), if_neg (by decide)] at h; exact lik_keys h
theorem part_word {d : PyData} (h : kindD "word" d = true) : ∃ a, d = .str (S a) ∧ wordS (S a) = true ∧ partT "word" d = a := by
  unfold kindD at h
  rw [if_pos rfl] at h
  obtain ⟨a, rfl, w⟩ := word_txt h
  exact ⟨a, rfl, w, rfl⟩
/-- an event, told: its word, its form, its parts -/
theorem event_is {d : PyData} (h : eventD d = true) : ∃ (w : List Nat) (f : List Str) (rest : List PyData), d = .tuple (.str (S w) :: rest) ∧ wordS (S w) = true ∧ formsT.lookup (S w) = some f ∧ f ∈ shapes ∧ partsD f rest = true ∧ evT d = joinL [32] (w :: partsT f rest) := by
  cases d with
  | tuple ds =>
    cases ds with
    | nil => cases h
    | cons x rest =>
      cases x with
      | str x =>
        unfold eventD at h
        rw [Bool.and_eq_true] at h
        obtain ⟨h1, h2⟩ := h
        cases e : formsT.lookup x with
        | none => rw [e] at h2; cases h2
        | some f =>
          rw [e] at h2
          refine ⟨tl x, f, rest, by rw [show S (tl x) = x from S_tl x], by rw [show S (tl x) = x from S_tl x]; exact h1, by rw [show S (tl x) = x from S_tl x]; exact e, shape_of e, h2, ?_⟩
          show joinL [32] (tl x :: partsT ((formsT.lookup x).getD []) rest) = _
          rw [e]
          rfl
      | _ => cases h
  | _ => cases h
theorem lik_ev {d : PyData} (h : eventD d = true) : likV (S (evT d)) = d := by
  obtain ⟨w, f, rest, rfl, hw, hf, hs, hp, et⟩ := event_is h
  have w1 : 32 ∉ w := word_free hw (by decide)
  rw [et]
  have go : ∀ r : List Nat, joinL [32] (w :: partsT f rest) = w ++ 32 :: r → likPs f (Txt.splitMax (S r) (S [32]) ((f.length : Int) - 1)) = rest → likV (S (joinL [32] (w :: partsT f rest))) = .tuple (.str (S w) :: rest) := by
    intro r e1 e2
    rw [e1]
    have e3 : Txt.partition (S (w ++ 32 :: r)) (S [32]) = (S w, S [32], S r) := partition_some (by simp) (TL.par_part1 (S := []) (acc := []) w1)
    unfold likV
    rw [e3]
    show (match formsT.lookup (S w) with
      | none => PyData.none
      | some f => .tuple (.str (S w) :: likPs f (Txt.splitMax (S r) (S [32]) ((f.length : Int) - 1)))) = _
    rw [hf]
    show PyData.tuple (.str (S w) :: likPs f (Txt.splitMax (S r) (S [32]) ((f.length : Int) - 1))) = _
    rw [e2]
  unfold shapes at hs
  simp only [List.mem_cons, List.not_mem_nil, or_false] at hs
  rcases hs with rfl | rfl | rfl | rfl | rfl | rfl
  · obtain ⟨x, y, z, rfl, hx, hy, hz⟩ := parts3 hp
    obtain ⟨a, rfl, wa, ea⟩ := part_word hx
    obtain ⟨b, rfl, wb, eb⟩ := part_word hy
    refine go (a ++ 32 :: (b ++ 32 :: partT "value" z)) rfl ?_
    have e : Txt.splitMax (S (a ++ 32 :: (b ++ 32 :: partT "value" z))) (S [32]) 2 = [S a, S b, S (partT "value" z)] := split2 (by decide) (word_free wa (by decide)) (word_free wb (by decide))
    show likPs _ (Txt.splitMax (S (a ++ 32 :: (b ++ 32 :: partT "value" z))) (S [32]) 2) = _
    rw [e]
    show [likP "word" (S a), likP "word" (S b), likP "value" (S (partT "value" z))] = _
    rw [lik_last (by simp) hz]
    rfl
  · obtain ⟨x, y, rfl, hx, hy⟩ := parts2 hp
    obtain ⟨a, rfl, wa, ea⟩ := part_word hx
    refine go (a ++ 32 :: partT "word" y) rfl ?_
    have e : Txt.splitMax (S (a ++ 32 :: partT "word" y)) (S [32]) 1 = [S a, S (partT "word" y)] := split1 (by decide) (word_free wa (by decide))
    show likPs _ (Txt.splitMax (S (a ++ 32 :: partT "word" y)) (S [32]) 1) = _
    rw [e]
    show [likP "word" (S a), likP "word" (S (partT "word" y))] = _
    rw [lik_last (by simp) hy]
    rfl
  · obtain ⟨x, y, rfl, hx, hy⟩ := parts2 hp
    obtain ⟨a, rfl, wa, ea⟩ := part_word hx
    refine go (a ++ 32 :: partT "number" y) rfl ?_
    have e : Txt.splitMax (S (a ++ 32 :: partT "number" y)) (S [32]) 1 = [S a, S (partT "number" y)] := split1 (by decide) (word_free wa (by decide))
    show likPs _ (Txt.splitMax (S (a ++ 32 :: partT "number" y)) (S [32]) 1) = _
    rw [e]
    show [likP "word" (S a), likP "number" (S (partT "number" y))] = _
    rw [lik_last (by simp) hy]
    rfl
  · obtain ⟨x, y, z, rfl, hx, hy, hz⟩ := parts3 hp
    obtain ⟨a, rfl, wa, ea⟩ := part_word hx
    obtain ⟨b, rfl, wb, eb⟩ := part_word hy
    refine go (a ++ 32 :: (b ++ 32 :: partT "keys" z)) rfl ?_
    have e : Txt.splitMax (S (a ++ 32 :: (b ++ 32 :: partT "keys" z))) (S [32]) 2 = [S a, S b, S (partT "keys" z)] := split2 (by decide) (word_free wa (by decide)) (word_free wb (by decide))
    show likPs _ (Txt.splitMax (S (a ++ 32 :: (b ++ 32 :: partT "keys" z))) (S [32]) 2) = _
    rw [e]
    show [likP "word" (S a), likP "word" (S b), likP "keys" (S (partT "keys" z))] = _
    rw [lik_last (by simp) hz]
    rfl
  · obtain ⟨x, y, z, rfl, hx, hy, hz⟩ := parts3 hp
    obtain ⟨a, rfl, wa, ea⟩ := part_word hx
    obtain ⟨b, rfl, wb, eb⟩ := part_word hy
    refine go (a ++ 32 :: (b ++ 32 :: partT "index" z)) rfl ?_
    have e : Txt.splitMax (S (a ++ 32 :: (b ++ 32 :: partT "index" z))) (S [32]) 2 = [S a, S b, S (partT "index" z)] := split2 (by decide) (word_free wa (by decide)) (word_free wb (by decide))
    show likPs _ (Txt.splitMax (S (a ++ 32 :: (b ++ 32 :: partT "index" z))) (S [32]) 2) = _
    rw [e]
    show [likP "word" (S a), likP "word" (S b), likP "index" (S (partT "index" z))] = _
    rw [lik_last (by simp) hz]
    rfl
  · obtain ⟨x, rfl, hx⟩ := parts1 hp
    refine go (partT "word" x) rfl ?_
    have e : Txt.splitMax (S (partT "word" x)) (S [32]) 0 = [S (partT "word" x)] := split0 _ (by decide)
    show likPs _ (Txt.splitMax (S (partT "word" x)) (S [32]) 0) = _
    rw [e]
    show [likP "word" (S (partT "word" x))] = _
    rw [lik_last (by simp) hx]
end TkP

set_option Elab.async false
set_option linter.all false
set_option maxRecDepth 100000
set_option maxHeartbeats 4000000
/-! the law's own reader of events -/
namespace TkP
open PySem PySem.StrLaws PySem.Builtin PySem.Builtin.Str SX Tk L2 TkM
open TL (spl par joinL numL tl)
/-! ### a value read back by way of two signs that no value has -/
def m1 (v : List Nat) : List Nat := v.flatMap fun c => if c = 92 then [10] else if c = 34 then [92, 34] else [c]
def m2 (v : List Nat) : List Nat := v.flatMap fun c => if c = 92 then [10] else if c = 34 then [9] else [c]
theorem m1_cons (c : Nat) (v : List Nat) : m1 (c :: v) = (if c = 92 then [10] else if c = 34 then [92, 34] else [c]) ++ m1 v := by
  unfold m1
  rw [List.flatMap_cons]
theorem m2_cons (c : Nat) (v : List Nat) : m2 (c :: v) = (if c = 92 then [10] else if c = 34 then [9] else [c]) ++ m2 v := by
  unfold m2
  rw [List.flatMap_cons]
theorem there1 : ∀ v : List Nat, replL [92, 92] [10] (esc v) = m1 v
  | [] => replL_nil
  | c :: v => by
    have ih := there1 v
    rw [esc_cons, m1_cons]
    by_cases e : c = 92
    · subst e
      rw [if_pos (.inl rfl), if_pos rfl]
      show replL [92, 92] [10] (92 :: 92 :: esc v) = _
      rw [replL_hit (by simp) (by simp)]
      show [10] ++ replL [92, 92] [10] (esc v) = _
      rw [ih]
    · by_cases e2 : c = 34
      · subst e2
        rw [if_pos (.inr rfl), if_neg e, if_pos rfl]
        show replL [92, 92] [10] (92 :: 34 :: esc v) = 92 :: 34 :: m1 v
        rw [replL_miss (by simp), replL_miss (by
          intro h
          cases ev : esc v with
          | nil => rw [ev] at h; cases h
          | cons d r =>
            rw [ev] at h
            have h2 : [34, d] = [92, 92] := h
            injection h2 with h3 _
            cases h3), ih]
      · rw [if_neg (by omega), if_neg e, if_neg e2]
        show replL [92, 92] [10] (c :: esc v) = c :: m1 v
        rw [replL_miss (by
          intro h
          have h2 : c = 92 := by
            cases ev : esc v with
            | nil => rw [ev] at h; cases h
            | cons d r =>
              rw [ev] at h
              have h2 : [c, d] = [92, 92] := h
              injection h2
          exact e h2), ih]
theorem there2 : ∀ v : List Nat, replL [92, 34] [9] (m1 v) = m2 v
  | [] => replL_nil
  | c :: v => by
    have ih := there2 v
    rw [m1_cons, m2_cons]
    have miss : ∀ c : Nat, c ≠ 92 → replL [92, 34] [9] (c :: m1 v) = c :: m2 v := by
      intro c e
      rw [replL_miss (by
        intro h
        have h2 : c = 92 := by
          cases ev : m1 v with
          | nil => rw [ev] at h; cases h
          | cons d r =>
            rw [ev] at h
            have h2 : [c, d] = [92, 34] := h
            injection h2
        exact e h2), ih]
    by_cases e : c = 92
    · subst e
      rw [if_pos rfl, if_pos rfl]
      exact miss 10 (by decide)
    · by_cases e2 : c = 34
      · subst e2
        rw [if_neg e, if_pos rfl, if_neg e, if_pos rfl]
        show replL [92, 34] [9] (92 :: 34 :: m1 v) = _
        rw [replL_hit (by simp) (by simp)]
        show [9] ++ replL [92, 34] [9] (m1 v) = _
        rw [ih]
      · rw [if_neg e, if_neg e2, if_neg e, if_neg e2]
        exact miss c e
theorem there4 (v : List Nat) (h : ∀ c ∈ v, 32 ≤ c) : replL [9] [34] (replL [10] [92] (m2 v)) = v := by
  rw [repl1, repl1]
  unfold m2
  rw [List.flatMap_assoc, List.flatMap_assoc]
  induction v with
  | nil => rfl
  | cons c v ih =>
    rw [List.flatMap_cons, ih fun d hd => h d (List.mem_cons_of_mem _ hd)]
    have hc := h c (List.mem_cons_self ..)
    by_cases e : c = 92
    · subst e; rfl
    · by_cases e2 : c = 34
      · subst e2; rfl
      · rw [if_neg e, if_neg e2]
        have h10 : ¬ c = 10 := by omega
        have h9 : ¬ c = 9 := by omega
        simp [h10, h9]
def unqI (x : Str) : Str := Txt.replace (Txt.replace (Txt.replace (Txt.replace x (S [92, 92]) (S [10])) (S [92, 34]) (S [9])) (S [10]) (S [92])) (S [9]) (S [34])
def unqL (x : Str) : Str := unqI (cutS x (some 1) (some (-1)))
theorem cut_told (u : List Nat) : cutS (S (34 :: (u ++ [34]))) (some 1) (some (-1)) = S u := by
  refine TL.ext_tl ?_
  have l : (S (34 :: (u ++ [34]))).length = u.length + 2 := by rw [S_len]; simp
  have i1 : HT.sIx (S (34 :: (u ++ [34]))).length 0 (some 1) = 1 := by rw [l]; unfold HT.sIx; simp
  have i2 : HT.sIx (S (34 :: (u ++ [34]))).length (S (34 :: (u ++ [34]))).length (some (-1)) = u.length + 1 := by rw [l]; unfold HT.sIx; simp; omega
  unfold cutS
  rw [i1, i2]
  show (((34 :: (u ++ [34])).drop 1).take (u.length + 1 - 1)) = u
  rw [Nat.add_sub_cancel]
  show (u ++ [34]).take u.length = _
  rw [List.take_left]
theorem shown_lo {v : List Nat} (h : valueS (S v) = true) : ∀ c ∈ v, 32 ≤ c ∧ c ≤ 126 := by
  intro c hc
  unfold valueS at h
  rw [Bool.and_eq_true] at h
  have := List.all_eq_true.mp h.2 c hc
  unfold shownB at this
  rw [Bool.and_eq_true, decide_eq_true_eq, decide_eq_true_eq] at this
  exact this
theorem unqL_told {v : List Nat} (h : valueS (S v) = true) : unqL (S (34 :: (esc v ++ [34]))) = S v := by
  unfold unqL
  rw [cut_told]
  unfold unqI
  refine TL.ext_tl ?_
  show (Txt.replace (Txt.replace (Txt.replace (Txt.replace (S (esc v)) (S [92, 92]) (S [10])) (S [92, 34]) (S [9])) (S [10]) (S [92])) (S [9]) (S [34])).cps.toList = v
  rw [replace_list (by decide), replace_list (by decide), replace_list (by decide), replace_list (by decide)]
  show replL [9] [34] (replL [10] [92] (replL [92, 34] [9] (replL [92, 92] [10] (esc v)))) = v
  rw [there1, there2, there4 v fun c hc => (shown_lo h c hc).1]
/-! ### the reader -/
def strS (a : List Nat) : PyData := .str (S a)
def numR (a : List Nat) : PyData := if a = [] ∨ 16 < a.length ∨ a.all digB = false then .none else .int (NumText.digitsVal a)
def cWrite : List Nat := [119, 114, 105, 116, 101]
def cSend : List Nat := [115, 101, 110, 100]
def cPass : List Nat := [112, 97, 115, 115]
def cTake : List Nat := [116, 97, 107, 101]
def readH (h : List Nat) (r : List (List Nat)) : PyData :=
  if h = cWrite ∧ 3 ≤ r.length then .tuple [strS h, strS (r.getD 0 []), strS (r.getD 1 []), .str (unqL (S (joinL [32] (r.drop 2))))]
  else if h = cSend ∧ 3 ≤ r.length then .tuple [strS h, strS (r.getD 0 []), strS (r.getD 1 []), if r.drop 2 = [[42]] then .none else .tuple (((r.drop 2).filter fun p => !p.isEmpty).map strS)]
  else if h = cPass ∨ h = cTake then .tuple ((h :: r).dropLast.map strS ++ [numR ((h :: r).getLastD [])])
  else .tuple ((h :: r).map strS)
def readP : List (List Nat) → PyData
  | [] => .none
  | h :: r => readH h r
def readV (x : Str) : PyData := readP (spl [32] 0 [] (tl x))
theorem numR_num {n : Nat} (hi : n ≤ 1000000000000000) : numR (numL n) = .int n := by
  have al : (numL n).all digB = true := List.all_eq_true.mpr fun c hc => by
    have := TL.numL_digits n c hc
    unfold digB
    rw [Bool.and_eq_true, decide_eq_true_eq, decide_eq_true_eq]
    exact this
  have hl := num_len hi
  unfold numR
  rw [al, if_neg, TL.numL_val]
  rintro (z | z | z)
  · exact TL.numL_ne n z
  · omega
  · cases z
/-- which words have which forms -/
theorem look_all {Q : Str → List Str → Prop} : ∀ (l : List (Str × List Str)), (∀ p ∈ l, Q p.1 p.2) → ∀ {x : Str} {f : List Str}, l.lookup x = some f → Q x f
  | [], _, _, _, z => by cases z
  | p :: r, a, x, f, z => by
    rw [List.lookup_cons] at z
    split at z
    · rename_i e
      cases z
      rw [eq_of_beq e]
      exact a _ (List.mem_cons_self ..)
    · exact look_all r (fun q hq => a q (List.mem_cons_of_mem _ hq)) z
def isWr (x : Str) : Bool := tl x == cWrite
def isSe (x : Str) : Bool := tl x == cSend
def isPT (x : Str) : Bool := tl x == cPass || tl x == cTake
def FV : List Str := ["word", "word", "value"]
def FK : List Str := ["word", "word", "keys"]
def FN : List Str := ["word", "number"]
def FI : List Str := ["word", "word", "index"]
def formW (x : Str) (f : List Str) : Bool := (isWr x == decide (f = FV)) && (isSe x == decide (f = FK)) && (isPT x == (decide (f = FN) || decide (f = FI)))
theorem form_word {x : Str} {f : List Str} (h : formsT.lookup x = some f) : formW x f = true := look_all (Q := fun x f => formW x f = true) formsT (by decide) h
theorem read_write {w a b r : List Nat} (hw : w = cWrite) (w1 : 32 ∉ w) (a1 : 32 ∉ a) (b1 : 32 ∉ b) : readV (S (w ++ 32 :: (a ++ 32 :: (b ++ 32 :: r)))) = .tuple [strS w, strS a, strS b, .str (unqL (S r))] := by
  have e1 : spl [32] 0 [] (w ++ ([32] ++ (a ++ ([32] ++ (b ++ ([32] ++ r)))))) = w :: a :: b :: spl [32] 0 [] r := by
    rw [TL.spl_part1 w1, TL.spl_part1 a1, TL.spl_part1 b1]
    rfl
  have e2 := spl_joined 32 r []
  have ne := spl_ne [32] r []
  show readP (spl [32] 0 [] (w ++ ([32] ++ (a ++ ([32] ++ (b ++ ([32] ++ r))))))) = _
  rw [e1]
  show readH _ _ = _
  unfold readH
  have hl : 3 ≤ (a :: b :: spl [32] 0 [] r).length := by
    have : 0 < (spl [32] 0 [] r).length := List.length_pos_iff.mpr ne
    simp only [List.length_cons]
    omega
  rw [if_pos ⟨hw, hl⟩]
  show PyData.tuple [strS w, strS a, strS b, .str (unqL (S (joinL [32] (spl [32] 0 [] r))))] = _
  rw [e2]
  rfl
theorem read_send {w a b r : List Nat} (hw : w = cSend) (w1 : 32 ∉ w) (a1 : 32 ∉ a) (b1 : 32 ∉ b) : readV (S (w ++ 32 :: (a ++ 32 :: (b ++ 32 :: r)))) = .tuple [strS w, strS a, strS b, if spl [32] 0 [] r = [[42]] then .none else .tuple (((spl [32] 0 [] r).filter fun p => !p.isEmpty).map strS)] := by
  have e1 : spl [32] 0 [] (w ++ ([32] ++ (a ++ ([32] ++ (b ++ ([32] ++ r)))))) = w :: a :: b :: spl [32] 0 [] r := by
    rw [TL.spl_part1 w1, TL.spl_part1 a1, TL.spl_part1 b1]
    rfl
  have ne := spl_ne [32] r []
  show readP (spl [32] 0 [] (w ++ ([32] ++ (a ++ ([32] ++ (b ++ ([32] ++ r))))))) = _
  rw [e1]
  show readH _ _ = _
  unfold readH
  have hl : 3 ≤ (a :: b :: spl [32] 0 [] r).length := by
    have : 0 < (spl [32] 0 [] r).length := List.length_pos_iff.mpr ne
    simp only [List.length_cons]
    omega
  rw [if_neg (by rintro ⟨z, _⟩; rw [hw] at z; cases z), if_pos ⟨hw, hl⟩]
  rfl
theorem read_pt {w r : List Nat} {ps : List (List Nat)} {p : List Nat} (hw : w = cPass ∨ w = cTake) (e1 : spl [32] 0 [] r = w :: (ps ++ [p])) : readV (S r) = .tuple (strS w :: (ps.map strS ++ [numR p])) := by
  show readP (spl [32] 0 [] r) = _
  rw [e1]
  show readH _ _ = _
  unfold readH
  rw [if_neg (by rintro ⟨z, _⟩; rw [z] at hw; rcases hw with q | q <;> cases q), if_neg (by rintro ⟨z, _⟩; rw [z] at hw; rcases hw with q | q <;> cases q), if_pos hw]
  have e2 : (w :: (ps ++ [p])).dropLast = w :: ps := by
    rw [← List.cons_append, List.dropLast_concat]
  have e3 : (w :: (ps ++ [p])).getLastD [] = p := by
    rw [← List.cons_append, List.getLastD_eq_getLast?, List.getLast?_concat]
    rfl
  rw [e2, e3]
  rfl
theorem read_other {w r : List Nat} {ps : List (List Nat)} (h1 : w ≠ cWrite) (h2 : w ≠ cSend) (h3 : ¬ (w = cPass ∨ w = cTake)) (e1 : spl [32] 0 [] r = w :: ps) : readV (S r) = .tuple (strS w :: ps.map strS) := by
  show readP (spl [32] 0 [] r) = _
  rw [e1]
  show readH _ _ = _
  unfold readH
  rw [if_neg (fun z => h1 z.1), if_neg (fun z => h2 z.1), if_neg h3]
  rfl
theorem read_ev {d : PyData} (h : eventD d = true) : readV (S (evT d)) = d := by
  obtain ⟨w, f, rest, rfl, hw, hf, hs, hp, et⟩ := event_is h
  have w1 : 32 ∉ w := word_free hw (by decide)
  have fw := form_word hf
  unfold formW isWr isSe isPT at fw
  rw [Bool.and_eq_true, Bool.and_eq_true, beq_iff_eq, beq_iff_eq, beq_iff_eq] at fw
  obtain ⟨⟨q1, q2⟩, q3⟩ := fw
  have q1 : (w == cWrite) = decide (f = FV) := q1
  have q2 : (w == cSend) = decide (f = FK) := q2
  have q3 : (w == cPass || w == cTake) = (decide (f = FN) || decide (f = FI)) := q3
  rw [et]
  unfold shapes at hs
  simp only [List.mem_cons, List.not_mem_nil, or_false] at hs
  rcases hs with rfl | rfl | rfl | rfl | rfl | rfl
  · obtain ⟨x, y, z, rfl, hx, hy, hz⟩ := parts3 hp
    obtain ⟨a, rfl, wa, ea⟩ := part_word hx
    obtain ⟨b, rfl, wb, eb⟩ := part_word hy
    have ew : w = cWrite := eq_of_beq (q1.trans (by decide))
    have hz : valueD z = true := by
      unfold kindD at hz
      rw [if_neg (by decide), if_pos rfl] at hz
      exact hz
    cases z with
    | str x =>
      have vx : valueS (S (tl x)) = true := by rw [show S (tl x) = x from S_tl x]; exact hz
      have go := read_write (r := 34 :: (esc (tl x) ++ [34])) ew w1 (word_free wa (by decide)) (word_free wb (by decide))
      rw [unqL_told vx, show S (tl x) = x from S_tl x] at go
      exact go
    | _ => cases hz
  · obtain ⟨x, y, rfl, hx, hy⟩ := parts2 hp
    obtain ⟨a, rfl, wa, ea⟩ := part_word hx
    obtain ⟨b, rfl, wb, eb⟩ := part_word hy
    have n1 : w ≠ cWrite := ne_of_beq_false (q1.trans (by decide))
    have n2 : w ≠ cSend := ne_of_beq_false (q2.trans (by decide))
    have n3 : ¬ (w = cPass ∨ w = cTake) := by
      have z := q3.trans (show _ = false by decide)
      rw [Bool.or_eq_false_iff] at z
      rintro (u | u)
      · exact ne_of_beq_false z.1 u
      · exact ne_of_beq_false z.2 u
    exact read_other n1 n2 n3 (TL.spl_join (parts := [w, a, b]) (by simp) (by
      intro p hp
      simp only [List.mem_cons, List.not_mem_nil, or_false] at hp
      rcases hp with rfl | rfl | rfl
      · exact w1
      · exact word_free wa (by decide)
      · exact word_free wb (by decide)))
  · obtain ⟨x, y, rfl, hx, hy⟩ := parts2 hp
    obtain ⟨a, rfl, wa, ea⟩ := part_word hx
    have ew : w = cPass ∨ w = cTake := by
      have z := q3.trans (show _ = true by decide)
      rw [Bool.or_eq_true, beq_iff_eq, beq_iff_eq] at z
      exact z
    have hy : numD y = true := by
      unfold kindD at hy
      rw [if_neg (by decide), if_neg (by decide), if_pos rfl] at hy
      exact hy
    cases y with
    | int i =>
      unfold numD at hy
      rw [Bool.and_eq_true, decide_eq_true_eq, decide_eq_true_eq] at hy
      have go := read_pt (r := joinL [32] [w, a, numL i.toNat]) (ps := [a]) (p := numL i.toNat) ew (TL.spl_join (parts := [w, a, numL i.toNat]) (by simp) (by
        intro p hp
        simp only [List.mem_cons, List.not_mem_nil, or_false] at hp
        rcases hp with rfl | rfl | rfl
        · exact w1
        · exact word_free wa (by decide)
        · exact TL.numL_free (by decide)))
      rw [numR_num (by omega), Int.toNat_of_nonneg (by omega)] at go
      exact go
    | _ => cases hy
  · obtain ⟨x, y, z, rfl, hx, hy, hz⟩ := parts3 hp
    obtain ⟨a, rfl, wa, ea⟩ := part_word hx
    obtain ⟨b, rfl, wb, eb⟩ := part_word hy
    have ew : w = cSend := eq_of_beq (q2.trans (by decide))
    have hz : (noneD z || ascD z) = true := by
      unfold kindD at hz
      rw [if_neg (by decide), if_neg (by decide), if_neg (by decide), if_neg (by decide)] at hz
      exact hz
    have go := read_send (r := partT "keys" z) ew w1 (word_free wa (by decide)) (word_free wb (by decide))
    refine go.trans ?_
    rw [Bool.or_eq_true] at hz
    rcases hz with hz | hz
    · cases z <;> first | rfl | cases hz
    · cases z with
      | tuple ds =>
        unfold ascD at hz
        rw [Bool.and_eq_true] at hz
        by_cases e : ds = []
        · subst e; rfl
        · have ne : keysT ds ≠ [] := fun z => e (by unfold keysT at z; exact List.map_eq_nil_iff.mp z)
          have e3 : spl [32] 0 [] (joinL [32] (keysT ds)) = keysT ds := TL.spl_join ne (keys_free hz.1 (by decide))
          show PyData.tuple [strS w, strS a, strS b, if spl [32] 0 [] (joinL [32] (keysT ds)) = [[42]] then .none else .tuple (((spl [32] 0 [] (joinL [32] (keysT ds))).filter fun p => !p.isEmpty).map strS)] = _
          rw [e3, if_neg, List.filter_eq_self.mpr]
          · have kb := keys_back hz.1
            rw [List.map_map] at kb
            show PyData.tuple [strS w, strS a, strS b, .tuple ((keysT ds).map (PyData.str ∘ S))] = _
            rw [kb]
            rfl
          · intro p hp
            unfold keysT at hp
            obtain ⟨d, hd, rfl⟩ := List.mem_map.mp hp
            obtain ⟨c, rfl, hc⟩ := word_txt (List.all_eq_true.mp hz.1 d hd)
            have l := (word_len hc).1
            cases c with
            | nil => simp at l
            | cons _ _ => rfl
          · intro z
            have := keys_free hz.1 (c := 42) (by decide) [42] (by rw [z]; exact List.mem_cons_self ..)
            simp at this
      | _ => cases hz
  · obtain ⟨x, y, z, rfl, hx, hy, hz⟩ := parts3 hp
    obtain ⟨a, rfl, wa, ea⟩ := part_word hx
    obtain ⟨b, rfl, wb, eb⟩ := part_word hy
    have ew : w = cPass ∨ w = cTake := by
      have z := q3.trans (show _ = true by decide)
      rw [Bool.or_eq_true, beq_iff_eq, beq_iff_eq] at z
      exact z
    have hz : indexD z = true := by
      unfold kindD at hz
      rw [if_neg (by decide), if_neg (by decide), if_neg (by decide), if_pos rfl] at hz
      exact hz
    cases z with
    | int i =>
      unfold indexD at hz
      rw [Bool.and_eq_true, decide_eq_true_eq, decide_eq_true_eq] at hz
      have go := read_pt (r := joinL [32] [w, a, b, numL i.toNat]) (ps := [a, b]) (p := numL i.toNat) ew (TL.spl_join (parts := [w, a, b, numL i.toNat]) (by simp) (by
        intro p hp
        simp only [List.mem_cons, List.not_mem_nil, or_false] at hp
        rcases hp with rfl | rfl | rfl | rfl
        · exact w1
        · exact word_free wa (by decide)
        · exact word_free wb (by decide)
        · exact TL.numL_free (by decide)))
      rw [numR_num (by omega), Int.toNat_of_nonneg (by omega)] at go
      exact go
    | _ => cases hz
  · obtain ⟨x, rfl, hx⟩ := parts1 hp
    obtain ⟨a, rfl, wa, ea⟩ := part_word hx
    have n1 : w ≠ cWrite := ne_of_beq_false (q1.trans (by decide))
    have n2 : w ≠ cSend := ne_of_beq_false (q2.trans (by decide))
    have n3 : ¬ (w = cPass ∨ w = cTake) := by
      have z := q3.trans (show _ = false by decide)
      rw [Bool.or_eq_false_iff] at z
      rintro (u | u)
      · exact ne_of_beq_false z.1 u
      · exact ne_of_beq_false z.2 u
    exact read_other n1 n2 n3 (TL.spl_join (parts := [w, a]) (by simp) (by
      intro p hp
      simp only [List.mem_cons, List.not_mem_nil, or_false] at hp
      rcases hp with rfl | rfl
      · exact w1
      · exact word_free wa (by decide)))
end TkP

set_option Elab.async false
set_option linter.all false
set_option maxRecDepth 100000
set_option maxHeartbeats 4000000
/-! zip of a tuple and a list -/
namespace TkR
open PySem PySem.Spec PyProof.Rows L2 RZ Tk
open PySem.Sem (wp)
section
variable {prog : Program} {w : World} {A : Around} {E : Value → Shared → Prop} {s : Shared}
/-- the zip q with its places P (the iterators) and O (the pair given out), over the tuple a by i and the list b by j -/
structure Mz (h : Heap) (q P O i j a b : Addr) (f : Value) (m n : Nat) : Prop where
  z : IsZip h q P O f
  p : IsPair h P (.ref i) (.ref j)
  i : h.IsTupleIter i a m
  j : h.IsListIter j b n
theorem mz_item {q P O i j a b : Addr} {m n : Nat} {us vs : Array Value} {u v c d : Value} {Q : Value → Shared → Prop} (F : ZipApart q P O i j a b) (gm : Mz s.heap q P O i j a b .none m n) (gO : IsPair s.heap O c d)
    (ga : s.heap.IsTuple a us) (gb : s.heap.IsList b vs) (gu : us[m]? = some u) (gv : vs[n]? = some v)
    (go : ∀ t, Mz t q P O i j a b (rawInt s.heap.objs.size) (m + 1) (n + 1) → IsPair t O u v → IsPair t s.heap.objs.size u v → t.objs.size = s.heap.objs.size + 1 →
      (∀ x o, x ≠ q → x ≠ O → x ≠ i → x ≠ j → s.heap.get? x = some o → t.get? x = some o) → Q (.ref s.heap.objs.size) { s with heap := t }) :
    wpAny (model prog w) A (Builtin.«zip.__next__» ⟨[.ref q], []⟩) (fun fin s' => ∃ r, fin = .done (.ret r) ∧ Q r s') E s := by
  obtain ⟨gz, gP, gi, gj⟩ := gm
  show wpAny _ _ (field (.ref q) 2 >>= _) _ _ _
  refine wpAny_bind (wpAny_field gz rfl (x := .bool false) rfl ?_)
  show wpAny _ _ (field (.ref q) 3 >>= _) _ _ _
  refine wpAny_bind (wpAny_field gz rfl (x := .ref P) rfl (wpAny_bind (wpAny_seqItems gP rfl ?_)))
  show wpAny _ _ (Builtin.SmallTypes.ownedTupleIsFree (.ref q) >>= _) _ _ _
  refine wpAny_bind (by
    unfold Builtin.SmallTypes.ownedTupleIsFree
    refine wpAny_bind (wpAny_field gz rfl (x := .none) rfl (wpAny_pure ?_))
    simp only [↓reduceIte]
    refine wpAny_bind (wpAny_rule (wpAny_bind (wpAny_field gz rfl (x := .ref O) rfl ?_)))
    refine wpAny_bind (wpAny_setField_rec gz (by simp) fun t₁ z₁ e₁ => ?_)
    replace z₁ : IsZip t₁ q P O .ellipsis := z₁
    refine wpAny_bind ?_
    simp only [List.forIn_cons, List.forIn_nil, List.zipIdx_cons, List.zipIdx_nil]
    refine wpAny_bind (wpAny_bind (wpAny_onRaise ?_))
    show wpAny _ _ (Builtin.SmallTypes.nextOf (.ref i) >>= _) _ _ _
    refine wpAny_bind (nextOf_tuple_item (gi.extBut e₁.extBut F.i1z) (ga.extBut e₁.extBut F.l1z) gu fun t₂ i₂ e₂ => wpAny_pure ?_)
    have o₂ : IsPair t₂ O c d := e₂.extBut _ _ F.TOi1 (e₁.extBut _ _ F.TOz gO)
    refine wpAny_bind (wpAny_seqItems o₂ rfl (wpAny_bind (wpAny_updateSeq_pair o₂ fun t₃ o₃ e₃ => ?_)))
    replace o₃ : IsPair t₃ O u d := o₃
    refine wpAny_bind (wpAny_letGo (wpAny_pure (wpAny_bind (wpAny_bind (wpAny_onRaise ?_)))))
    show wpAny _ _ (Builtin.SmallTypes.nextOf (.ref j) >>= _) _ _ _
    refine wpAny_bind (wpAny_nextOf_list_item (((gj.extBut e₁.extBut F.i2z).extBut e₂.extBut F.i12.symm).extBut e₃.extBut F.TOi2.symm)
      (((gb.extBut e₁.extBut F.l2z).extBut e₂.extBut F.l2i1).extBut e₃.extBut F.l2TO) gv fun t₄ j₄ e₄ => wpAny_pure ?_)
    have o₄ : IsPair t₄ O u d := e₄.extBut _ _ F.TOi2 o₃
    refine wpAny_bind (wpAny_seqItems o₄ rfl (wpAny_bind (wpAny_updateSeq_pair o₄ fun t₅ o₅ e₅ => ?_)))
    replace o₅ : IsPair t₅ O u v := o₅
    refine wpAny_bind (wpAny_letGo (wpAny_pure (wpAny_pure (wpAny_bind (wpAny_seqItems o₅ rfl (wpAny_bind (wpAny_newTuple ?_)))))))
    have ez : t₅.objs.size = s.heap.objs.size := by rw [e₅.1, e₄.1, e₃.1, e₂.1, e₁.1]
    have z₅ : IsZip t₅ q P O .ellipsis := e₅.extBut _ _ F.TOz.symm (e₄.extBut _ _ F.i2z.symm (e₃.extBut _ _ F.TOz.symm (e₂.extBut _ _ F.i1z.symm z₁)))
    have k₅ : ∀ x o, x ≠ q → x ≠ O → x ≠ i → x ≠ j → s.heap.get? x = some o → t₅.get? x = some o := fun x o n1 n2 n3 n4 e =>
      e₅.extBut _ _ n2 (e₄.extBut _ _ n4 (e₃.extBut _ _ n2 (e₂.extBut _ _ n3 (e₁.extBut _ _ n1 e))))
    have i₅ : t₅.IsTupleIter i a (m + 1) := ((i₂.extBut e₃.extBut F.TOi1.symm).extBut e₄.extBut F.i12).extBut e₅.extBut F.TOi1.symm
    have j₅ : t₅.IsListIter j b (n + 1) := j₄.extBut e₅.extBut F.TOi2.symm
    have lq : q < t₅.objs.size := Heap.lt_size z₅
    show wpAny _ _ (Builtin.SmallTypes.ownedTupleHandOut (.ref q) (.ref t₅.objs.size) >>= _) _ _ _
    refine wpAny_bind (by
      unfold Builtin.SmallTypes.ownedTupleHandOut
      have z₆ : IsZip (t₅.push { cls := .type "tuple", data := .seq #[u, v] }) q P O .ellipsis := Heap.get?_push_of_some _ z₅
      refine wpAny_bind (wpAny_setField_rec z₆ (by simp) fun t₇ z₇ e₇ => ?_)
      replace z₇ : IsZip t₇ q P O (rawInt t₅.objs.size) := z₇
      refine wpAny_setField_rec z₇ (by simp) fun t₈ z₈ e₈ => ?_
      replace z₈ : IsZip t₈ q P O (rawInt t₅.objs.size) := z₈
      have on : ∀ x o, x ≠ q → t₅.get? x = some o → t₈.get? x = some o := fun x o n1 e => e₈.extBut _ _ n1 (e₇.extBut _ _ n1 (Heap.get?_push_of_some _ e))
      have pr : IsPair t₈ t₅.objs.size u v := e₈.extBut _ _ (Nat.ne_of_gt lq) (e₇.extBut _ _ (Nat.ne_of_gt lq) (Heap.get?_push_size _ rfl))
      have sz8 : t₈.objs.size = t₅.objs.size + 1 := by rw [e₈.1, e₇.1, Heap.size_push]
      have p₅ : IsPair t₅ P (.ref i) (.ref j) := k₅ _ _ F.TIz F.TITO F.TIi1 F.TIi2 gP
      rw [ez] at z₈ pr sz8
      refine wpAny_pure ⟨_, rfl, ?_⟩
      show Q (.ref t₅.objs.size) _
      rw [ez]
      exact go t₈ ⟨z₈, on _ _ F.TIz p₅, i₅.at fun o e => on _ o F.i1z e, j₅.at fun o e => on _ o F.i2z e⟩ (on _ _ F.TOz o₅) pr sz8 fun x o n1 n2 n3 n4 e => on x o n1 (k₅ x o n1 n2 n3 n4 e)))
theorem mz_end {q P O i j a b : Addr} {m n : Nat} {us vs : Array Value} {c d : Value} {Q : Fin → Shared → Prop} (hh : A.handled = none) (F : ZipApart q P O i j a b) (gm : Mz s.heap q P O i j a b .none m n) (gO : IsPair s.heap O c d)
    (ga : s.heap.IsTuple a us) (gb : s.heap.IsList b vs) (fin : us[m]? = none ∨ vs[n]? = none)
    (go : ∀ t e, (∀ x o, x ≠ q → x ≠ O → x ≠ i → x ≠ j → s.heap.get? x = some o → t.get? x = some o) → (∃ o, t.get? e = some o ∧ o.cls = .type "StopIteration") → E (.ref e) { s with heap := t }) :
    wpAny (model prog w) A (Builtin.«zip.__next__» ⟨[.ref q], []⟩) Q E s := by
  obtain ⟨gz, gP, gi, gj⟩ := gm
  show wpAny _ _ (field (.ref q) 2 >>= _) _ _ _
  refine wpAny_bind (wpAny_field gz rfl (x := .bool false) rfl ?_)
  show wpAny _ _ (field (.ref q) 3 >>= _) _ _ _
  refine wpAny_bind (wpAny_field gz rfl (x := .ref P) rfl (wpAny_bind (wpAny_seqItems gP rfl ?_)))
  show wpAny _ _ (Builtin.SmallTypes.ownedTupleIsFree (.ref q) >>= _) _ _ _
  refine wpAny_bind (by
    unfold Builtin.SmallTypes.ownedTupleIsFree
    refine wpAny_bind (wpAny_field gz rfl (x := .none) rfl (wpAny_pure ?_))
    simp only [↓reduceIte]
    refine wpAny_bind (wpAny_rule (wpAny_bind (wpAny_field gz rfl (x := .ref O) rfl ?_)))
    refine wpAny_bind (wpAny_setField_rec gz (by simp) fun t₁ z₁ e₁ => ?_)
    replace z₁ : IsZip t₁ q P O .ellipsis := z₁
    refine wpAny_bind ?_
    simp only [List.forIn_cons, List.forIn_nil, List.zipIdx_cons, List.zipIdx_nil]
    refine wpAny_bind (wpAny_bind (wpAny_onRaise ?_))
    show wpAny _ _ (Builtin.SmallTypes.nextOf (.ref i) >>= _) _ _ _
    cases gu : us[m]? with
    | none =>
      refine wpAny_bind (nextOf_tuple_end hh (gi.extBut e₁.extBut F.i1z) (ga.extBut e₁.extBut F.l1z) gu fun t₂ e e₂ ⟨oe, he, ce⟩ => ?_)
      have z₂ : IsZip t₂ q P O .ellipsis := e₂ _ _ F.i1z.symm z₁
      have ne : e ≠ q := fun x => by
        subst x
        rw [z₂] at he
        cases he
        simp at ce
      exact wpAny_setField_rec z₂ (by simp) fun t₃ _ e₃ => go t₃ e (fun x o n1 _ n3 _ y => e₃.extBut _ _ n1 (e₂ _ _ n3 (e₁.extBut _ _ n1 y))) ⟨oe, e₃.extBut _ _ ne he, ce⟩
    | some u =>
      have gv : vs[n]? = none := by
        rcases fin with y | y
        · rw [gu] at y; cases y
        · exact y
      refine wpAny_bind (nextOf_tuple_item (gi.extBut e₁.extBut F.i1z) (ga.extBut e₁.extBut F.l1z) gu fun t₂ i₂ e₂ => wpAny_pure ?_)
      have o₂ : IsPair t₂ O c d := e₂.extBut _ _ F.TOi1 (e₁.extBut _ _ F.TOz gO)
      refine wpAny_bind (wpAny_seqItems o₂ rfl (wpAny_bind (wpAny_updateSeq_pair o₂ fun t₃ o₃ e₃ => ?_)))
      refine wpAny_bind (wpAny_letGo (wpAny_pure (wpAny_bind (wpAny_bind (wpAny_onRaise ?_)))))
      show wpAny _ _ (Builtin.SmallTypes.nextOf (.ref j) >>= _) _ _ _
      refine wpAny_bind (wpAny_nextOf_list_end hh (((gj.extBut e₁.extBut F.i2z).extBut e₂.extBut F.i12.symm).extBut e₃.extBut F.TOi2.symm)
        (((gb.extBut e₁.extBut F.l2z).extBut e₂.extBut F.l2i1).extBut e₃.extBut F.l2TO) gv fun t₄ e e₄ ⟨oe, he, ce⟩ => ?_)
      have z₄ : IsZip t₄ q P O .ellipsis := e₄ _ _ F.i2z.symm (e₃.extBut _ _ F.TOz.symm (e₂.extBut _ _ F.i1z.symm z₁))
      have ne : e ≠ q := fun x => by
        subst x
        rw [z₄] at he
        cases he
        simp at ce
      exact wpAny_setField_rec z₄ (by simp) fun t₅ _ e₅ => go t₅ e (fun x o n1 n2 n3 n4 y => e₅.extBut _ _ n1 (e₄ _ _ n4 (e₃.extBut _ _ n2 (e₂.extBut _ _ n3 (e₁.extBut _ _ n1 y))))) ⟨oe, e₅.extBut _ _ ne he, ce⟩)
theorem mz_next {q P O i j a b : Addr} {m n : Nat} {us vs : Array Value} {u v c d : Value} {Q : Option Value → Shared → Prop} (F : ZipApart q P O i j a b) (gm : Mz s.heap q P O i j a b .none m n) (gO : IsPair s.heap O c d)
    (ga : s.heap.IsTuple a us) (gb : s.heap.IsList b vs) (gu : us[m]? = some u) (gv : vs[n]? = some v)
    (go : ∀ t, Mz t q P O i j a b (rawInt s.heap.objs.size) (m + 1) (n + 1) → IsPair t O u v → IsPair t s.heap.objs.size u v → t.objs.size = s.heap.objs.size + 1 →
      (∀ x o, x ≠ q → x ≠ O → x ≠ i → x ≠ j → s.heap.get? x = some o → t.get? x = some o) → Q (some (.ref s.heap.objs.size)) { s with heap := t }) : wpAny (model prog w) A (pyNext (.ref q)) Q E s := by
  have ty : s.TypeIs (.ref q) "zip" := ⟨_, gm.z, rfl⟩
  unfold pyNext
  exact wpAny_bind (wpAny_attempt (wpAny_callSpecial?_slot (name := Str.ofString "__next__") ty PySem.F.slot_zip_next (wpAny_call_entry PySem.F.slot_zip_next ty PySem.F.entry_zip_next
    (mz_item F gm gO ga gb gu gv fun t b1 b2 b3 b4 b5 => wpAny_pure (go t b1 b2 b3 b4 b5)) (PySem.F.args_zip_next_1 _))))
theorem mz_stop {q P O i j a b : Addr} {m n : Nat} {us vs : Array Value} {c d : Value} {Q : Option Value → Shared → Prop} (hh : A.handled = none) (F : ZipApart q P O i j a b) (gm : Mz s.heap q P O i j a b .none m n) (gO : IsPair s.heap O c d)
    (ga : s.heap.IsTuple a us) (gb : s.heap.IsList b vs) (fin : us[m]? = none ∨ vs[n]? = none)
    (go : ∀ t, (∀ x o, x ≠ q → x ≠ O → x ≠ i → x ≠ j → s.heap.get? x = some o → t.get? x = some o) → Q none { s with heap := t }) : wpAny (model prog w) A (pyNext (.ref q)) Q E s := by
  have ty : s.TypeIs (.ref q) "zip" := ⟨_, gm.z, rfl⟩
  unfold pyNext
  refine wpAny_bind (wpAny_attempt (wpAny_callSpecial?_slot (name := Str.ofString "__next__") ty PySem.F.slot_zip_next (wpAny_call_entry PySem.F.slot_zip_next ty PySem.F.entry_zip_next
    (mz_end hh F gm gO ga gb fin fun t e k ⟨o, ho, co⟩ => ?_) (PySem.F.args_zip_next_1 _))))
  exact wpAny_bind (wpAny_isInstance (T := "StopIteration") (b := true) ⟨o, ho, co⟩ isSubtype_stop (wpAny_pure (go _ k)))
end
/-! ### zip(tuple, list) made -/
abbrev mz1 (h : Heap) (a : Addr) : Heap := h.push { cls := .type "tuple_iterator", data := .fields #[.ref a, .int 0 0] }
abbrev mz2 (h : Heap) (a b : Addr) : Heap := (mz1 h a).push { cls := .type "list_iterator", data := .fields #[.ref b, .int 0 0] }
abbrev mz3 (h : Heap) (a b : Addr) : Heap := (mz2 h a b).push { cls := .type "tuple", data := .seq #[.ref h.objs.size, .ref (mz1 h a).objs.size] }
abbrev mz4 (h : Heap) (a b : Addr) : Heap := (mz3 h a b).push { cls := .type "tuple", data := .seq #[.none, .none] }
abbrev mz5 (h : Heap) (a b : Addr) : Heap := (mz4 h a b).push { cls := .type "zip", data := .fields #[.none, .bool false, .bool false, .ref (mz2 h a b).objs.size, .ref (mz3 h a b).objs.size] }
theorem mz_new (a b : Addr) (us vs : Array Value) :
    Meets (Builtin.«zip.__new__» ⟨[.type "zip", .ref a, .ref b], []⟩) (fun _ R s => s.heap.IsTuple a us ∧ s.heap.IsList b vs ∧ R (.ok (.ret (.ref (mz4 s.heap a b).objs.size))) { s with heap := mz5 s.heap a b }) :=
  .of_wp fun prog w A R s h => by
    obtain ⟨hp, g, d, tk, os⟩ := s
    obtain ⟨ga, gb, h⟩ := h
    have sub := sub_zip
    have g1 : Heap.IsTuple (Shared.heap ⟨hp, g, d, tk, os⟩) a us := ga
    have g2 : Heap.IsList (Shared.heap ⟨hp.push { cls := .type "tuple_iterator", data := .fields #[.ref a, .int 0 0] }, g, d, tk, os⟩) b vs := Heap.IsList.push gb _
    wp_walk using wpAny_pyIter_tuple g1, wpAny_pyIter_list g2
    exact ⟨_, rfl, h⟩
section
variable {prog : Program} {w : World} {A : Around} {E : Value → Shared → Prop} {s : Shared}
theorem mz_call {a b : Addr} {us vs : Array Value} {Q : Value → Shared → Prop} (ga : s.heap.IsTuple a us) (gb : s.heap.IsList b vs)
    (go : ∀ t, Mz t (s.heap.objs.size + 4) (s.heap.objs.size + 2) (s.heap.objs.size + 3) s.heap.objs.size (s.heap.objs.size + 1) a b .none 0 0 → IsPair t (s.heap.objs.size + 3) .none .none →
      (∀ c o, s.heap.get? c = some o → t.get? c = some o) → Q (.ref (s.heap.objs.size + 4)) { s with heap := t }) : wpAny (model prog w) A (call (.type "zip") [.ref a, .ref b]) Q E s := by
  refine callType_new F.called_zip (by decide) (F.typeCall_zip_2 _ _) (F.newCall_zip_2 _ _) (fun o => F.args_object_init_3 o _ _) F.entry_zip_new (mz_new a b us vs) ⟨ga, gb, ?_⟩
  have n1 : (mz1 s.heap a).objs.size = s.heap.objs.size + 1 := Heap.size_push ..
  have n2 : (mz2 s.heap a b).objs.size = s.heap.objs.size + 2 := by rw [Heap.size_push, n1]
  have n3 : (mz3 s.heap a b).objs.size = s.heap.objs.size + 3 := by rw [Heap.size_push, n2]
  have n4 : (mz4 s.heap a b).objs.size = s.heap.objs.size + 4 := by rw [Heap.size_push, n3]
  have up : ∀ {h : Heap} {c : Addr} {o o' : Obj}, h.get? c = some o → (h.push o').get? c = some o := fun e => Heap.get?_push_of_some _ e
  have r5 : (mz5 s.heap a b).get? (mz4 s.heap a b).objs.size = some _ := Heap.get?_push_size _ rfl
  have r4 : (mz5 s.heap a b).get? (mz3 s.heap a b).objs.size = some _ := up (Heap.get?_push_size _ rfl)
  have r3 : (mz5 s.heap a b).get? (mz2 s.heap a b).objs.size = some _ := up (up (Heap.get?_push_size _ rfl))
  have r2 : (mz5 s.heap a b).get? (mz1 s.heap a).objs.size = some _ := up (up (up (Heap.get?_push_size _ rfl)))
  have r1 : (mz5 s.heap a b).get? s.heap.objs.size = some _ := up (up (up (up (Heap.get?_push_size _ rfl))))
  show _ ∧ _
  rw [n2, n3, n4] at r5
  rw [n1, n2] at r3
  rw [n3] at r4
  rw [n1] at r2
  rw [n4]
  exact ⟨⟨_, r5, rfl⟩, go _ ⟨r5, r3, ⟨_, r1, rfl, rfl⟩, ⟨_, r2, rfl, rfl⟩⟩ r4 fun c o x => up (up (up (up (up x))))⟩
end
/-! ### as an iterator of the rules -/
/-- the tuple at a and the list at b as they stand at each turn, the items in new pairs -/
def ItzM (K : PySem.W.Frag) (a b : Addr) : It :=
  ⟨fun i H => ∃ (xs ys : List V) (x y : V), SqT K H a xs ∧ SqL K H b ys ∧ xs[i]? = some x ∧ ys[i]? = some y,
    fun i H v H' => ∃ T x y, v = .ref T ∧ H T = none ∧ H' = upd H T (.tup [x, y]) ∧ (∀ xs, SqT K H a xs → xs[i]? = some x) ∧ ∀ ys, SqL K H b ys → ys[i]? = some y,
    fun i H => ∃ xs ys : List V, SqT K H a xs ∧ SqL K H b ys ∧ (xs.length ≤ i ∨ ys.length ≤ i)⟩
theorem turn_zipM {P : Program} {w : World} {K : PySem.W.Frag} {elts : List Expr} {kk : Nat} {tpos : Pos} {a b q p o i1 i2 : Addr} (ap : ZipApart q p o i1 i2 a b) :
    Turn P w K (.Tuple elts kk tpos) (ItzM K a b) [q, p, o, i1, i2] q (fun i h => Mz h q p o i1 i2 a b .none i i ∧ ∃ x y, IsPair h o x y) where
  mem := by simp
  obj := fun i h st c hc => by
    obtain ⟨⟨gz, gp, ⟨o1, e1, _, d1⟩, ⟨o2, e2, _, d2⟩⟩, ⟨x, y, go⟩⟩ := st
    simp only [List.mem_cons, List.not_mem_nil, or_false] at hc
    rcases hc with rfl | rfl | rfl | rfl | rfl
    · exact ⟨_, gz, fun v z => nomatch z⟩
    · exact ⟨_, gp, fun v z => nomatch z⟩
    · exact ⟨_, go, fun v z => nomatch z⟩
    · exact ⟨o1, e1, fun v z => by rw [d1] at z; cases z⟩
    · exact ⟨o2, e2, fun v z => by rw [d2] at z; cases z⟩
  keep := fun i h h' st k => by
    obtain ⟨⟨gz, gp, gi, gj⟩, ⟨x, y, go⟩⟩ := st
    exact ⟨⟨k q (by simp) _ gz, k p (by simp) _ gp, gi.at fun u z => k i1 (by simp) u z, gj.at fun u z => k i2 (by simp) u z⟩, x, y, k o (by simp) _ go⟩
  item := by
    intro X hP hw hK hc i pins s σ H E I hf st hg
    subst hP hw hK
    obtain ⟨gm, ⟨x0, y0, go⟩⟩ := st
    obtain ⟨xs, ys, x, y, qx, qy, hx, hy⟩ := hg
    obtain ⟨its, rv, pa, _⟩ := I.tuple qx
    obtain ⟨its2, rv2, pb, _⟩ := I.list qy
    obtain ⟨u, hu, ru⟩ := rv.get hx
    obtain ⟨u2, hu2, ru2⟩ := rv2.get hy
    have lq : q < s.heap.objs.size := Heap.lt_size gm.z
    refine mz_next ap gm go pa pb.isList (u := u) (v := u2) (by simpa using hu) (by simpa using hu2) fun t mt ot pt sz kt => ?_
    refine ⟨_, rfl, wpAny_letOwnedTupleGo_zip (s := { s with heap := t }) mt.z fun t2 z2 sb => ?_⟩
    have pt2 : t2.get? s.heap.objs.size = some { cls := .type "tuple", data := .seq #[u, u2] } := (sb.2 _ (Nat.ne_of_gt lq)).trans pt
    have nw : ObjOk X.prog X.w (upd H s.heap.objs.size (.tup [x, y])) t2 s.heap.objs.size (.tup [x, y]) :=
      ⟨by show 2 ≤ sizeLine; decide, [u, u2], .cons ru (.cons ru2 .nil), ⟨_, pt2, rfl, _, rfl⟩⟩
    have I1 : Inv X pins σ (upd H s.heap.objs.size (.tup [x, y])) { s with heap := t2 } :=
      I.turnedNew (t' := s.toks) (ch := [q, p, o, i1, i2]) (fun c e hb z => (sb.2 c (fun v => hb (by simp [v]))).trans (kt c e (fun v => hb (by simp [v])) (fun v => hb (by simp [v])) (fun v => hb (by simp [v])) (fun v => hb (by simp [v])) z)) hf (Nat.le_refl _) nw
    refine ⟨.ref s.heap.objs.size, _, I1, rfl, ⟨_, x, y, rfl, I.hok.fresh (Nat.le_refl _), rfl, fun l hl => by rw [I.tuple_inj hl qx]; exact hx, fun l hl => by rw [I.list_inj hl qy]; exact hy⟩, ⟨⟨z2, ?_, ?_, ?_⟩, ⟨u, u2, ?_⟩⟩, fun c hcm => ?_⟩
    · exact (sb.2 _ ap.TIz).trans mt.p
    · exact mt.i.at fun e z => (sb.2 _ ap.i1z).trans z
    · exact mt.j.at fun e z => (sb.2 _ ap.i2z).trans z
    · exact (sb.2 _ ap.TOz).trans ot
    · have lt : c < s.heap.objs.size := by
        simp only [List.mem_cons, List.not_mem_nil, or_false] at hcm
        rcases hcm with rfl | rfl | rfl | rfl | rfl
        · exact lq
        · exact Heap.lt_size gm.p
        · exact Heap.lt_size go
        · obtain ⟨_, e1, _⟩ := gm.i; exact Heap.lt_size e1
        · obtain ⟨_, e2, _⟩ := gm.j; exact Heap.lt_size e2
      rw [upd_ne (Nat.ne_of_lt lt)]
      exact (hf c hcm).1
  done := by
    intro X hP hw hK hc i pins s σ H E I hf st hg
    subst hP hw hK
    obtain ⟨gm, ⟨x0, y0, go⟩⟩ := st
    obtain ⟨xs, ys, qx, qy, fin⟩ := hg
    obtain ⟨its, rv, pa, _⟩ := I.tuple qx
    obtain ⟨its2, rv2, pb, _⟩ := I.list qy
    have l1 := rv.length
    have l2 := rv2.length
    have he : its.toArray[i]? = none ∨ its2.toArray[i]? = none := by
      rcases fin with z | z
      · left
        simp
        omega
      · right
        simp
        omega
    exact mz_stop (I.ok.hd hc) ap gm go pa pb.isList he fun t kt => ⟨rfl, I.turnedL (t' := s.toks) (ch := [q, p, o, i1, i2]) (fun c e hb z =>
      kt c e (fun v => hb (by simp [v])) (fun v => hb (by simp [v])) (fun v => hb (by simp [v])) (fun v => hb (by simp [v])) z) hf⟩
  self := fun A i s Q E st h => wpAny_pyIter_zip st.1.z h
def iZipM (K : PySem.W.Frag) (ta : TA) : L2.TI := fun σ H R => ta σ H fun vs H1 => ∃ a b xs ys, vs = [.ref a, .ref b] ∧ SqT K H1 a xs ∧ SqL K H1 b ys ∧ R (ItzM K a b) H1
theorem k_zipM {X : Cx} {K : PySem.W.Frag} {e e2 : Expr} {ta : TA} {p pos tpos : Pos} {elts : List Expr} {kk : Nat} (hg : Gl X "zip") (hm : X.mg "zip" = none) (ha : PA X [e, e2] ta) (ek : X.K = K := by rfl)
    (hs : starEach [e, e2] X.env = (false, eval e X.env) :: starEach [e2] X.env := by rfl) (hpl : (backTo pos (starEach [e2] X.env)).any (·.1) = false := by rfl) : PI X (.Tuple elts kk tpos) (.Call (.Name "zip" p) [e, e2] [] pos) (iZipM K ta) := by
  subst ek
  refine ⟨fun pins s σ H R I h => ?_⟩
  refine Call_ (ld_blt I hg hm PyProof.Rows.boot_zip (PyProof.Rows.callWith_type1 (thn (ha.run pos pins s σ H _ I h) fun us s1 ⟨vs, H1, I1, r1, a, b, xs, ys, ex, qx, qy, go⟩ => ?_) hs hpl))
  subst ex
  obtain ⟨ua, ub, rfl, ra, rb⟩ := vals2 r1
  obtain rfl : ua = Value.ref a := ra
  obtain rfl : ub = Value.ref b := rb
  obtain ⟨its, rv, pa, _⟩ := I1.tuple qx
  obtain ⟨its2, rv2, pb, _⟩ := I1.list qy
  obtain ⟨oa, ha, _⟩ := id pa
  have fresh : ∀ c, c ∈ [s1.heap.objs.size + 4, s1.heap.objs.size + 2, s1.heap.objs.size + 3, s1.heap.objs.size, s1.heap.objs.size + 1] → FpOk X pins H1 c := fun c hc => by
    have le : s1.heap.objs.size ≤ c := by
      simp only [List.mem_cons, List.not_mem_nil, or_false] at hc
      rcases hc with z | z | z | z | z
      · rw [z]; exact Nat.le_add_right _ _
      · rw [z]; exact Nat.le_add_right _ _
      · rw [z]; exact Nat.le_add_right _ _
      · rw [z]; exact Nat.le_refl _
      · rw [z]; exact Nat.le_add_right _ _
    exact I1.fpOk le (I1.hok.fresh le)
  refine mz_call (show s1.heap.IsTuple a its.toArray from pa) pb.isList fun t gm go4 kt => wpAny_pyIter_zip gm.z ?_
  have I2 : Inv X pins σ H1 { s1 with heap := t } := I1.kept (t' := s1.toks) kt
  exact ⟨s1.heap.objs.size + 4, [s1.heap.objs.size + 4, s1.heap.objs.size + 2, s1.heap.objs.size + 3, s1.heap.objs.size, s1.heap.objs.size + 1], _, _, H1, rfl, I2, turn_zipM (PySem.W.ktu_apart s1.heap.objs.size a b (Heap.lt_size ha) pb.lt), ⟨gm, _, _, go4⟩, fresh, go⟩
theorem walk_zipM {K : PySem.W.Frag} {a b : Addr} {xs ys : List V} {n : Nat} (hn : n = min xs.length ys.length) : Walk (ItzM K a b) n (fun H => SqT K H a xs ∧ SqL K H b ys) (YPair (fun i => xs[i]?) (fun i => ys[i]?)) := by
  subst hn
  constructor
  · intro i H hi q
    exact ⟨xs, ys, xs[i]'(by omega), ys[i]'(by omega), q.1, q.2, List.getElem?_eq_getElem _, List.getElem?_eq_getElem _⟩
  · exact fun H q => ⟨xs, ys, q.1, q.2, by omega⟩
  · rintro i H v H' _ q ⟨T, x, z, h1, h2, h3, h4, h5⟩
    exact ⟨T, x, z, h1, h2, h3, h4 xs q.1, h5 ys q.2⟩
theorem r_zipM {K : PySem.W.Frag} {ta : TA} {σ : L2.St} {H : Hp} {R : It → Hp → Prop} (h : ta σ H fun vs H1 => ∃ a b xs ys, vs = [.ref a, .ref b] ∧ SqT K H1 a xs ∧ SqL K H1 b ys ∧ R (ItzM K a b) H1) : iZipM K ta σ H R := h
/-- a comprehension over zip of a tuple and a list: as many as the shorter one has -/
theorem lc_zipM {K : PySem.W.Frag} {a b : Addr} {xs ys : List V} {s1 s2 : Nat} (hne : s1 ≠ s2) {te : TE} {σ : L2.St} {H1 : Hp} {Qd : VK} (rs : List V) (hl : rs.length = min xs.length ys.length) (hn : rs.length ≤ 100000) (ha : ∀ H', Same H1 H' → SqT K H' a xs) (hb : ∀ H', Same H1 H' → SqL K H' b ys)
    (he : ∀ (i : Nat) (x y r : V), xs[i]? = some x → ys[i]? = some y → rs[i]? = some r → ∀ (H2 : Hp) (R : VK), Same H1 H2 → (∀ H3, Same H2 H3 → R r H3) → te ((σ.set s1 (some x)).set s2 (some y)) H2 R)
    (hd : ∀ (D : Addr) (H' : Hp), H1 D = none → Same H1 H' → H' D = some (.lst rs) → Qd (.ref D) H') :
    LcG (ItzM K a b) (gTup K 2 (gCons (gName s1) (gCons (gName s2) gNil))) tYes te [s1, s2] σ H1 Qd := by
  intro D hD
  refine lc_it (Qd := fun H' => Qd (.ref D) H') (walk_zipM (n := rs.length) hl) (fun i H' => Same H1 H' ∧ H' D = some (.lst (rs.take i))) ⟨Same.new hD, upd_same⟩ (fun i H' _ p => ⟨ha H' p.1, hb H' p.1⟩) ?_ (fun H' p => hd D H' hD p.1 (by rw [p.2, List.take_length]))
  rintro i v H2 H2' hi ⟨p1, p2⟩ ⟨T, x, y, rfl, hT, rfl, hx, hy⟩
  have hr : rs[i]? = some rs[i] := List.getElem?_eq_getElem hi
  refine ⟨T, [x, y], rfl, SqT.of upd_same, rfl, x, [y], rfl, y, [], rfl, rfl, ?_, ?_⟩
  · show wipe (((wipe σ [s1, s2]).set s1 (some x)).set s2 (some y)) [s1, s2] = wipe σ [s1, s2]
    simp only [wipe]
    apply List.ext_getElem?
    intro j
    simp only [List.getElem?_set, List.length_set]
    by_cases h1 : s1 = j <;> by_cases h2 : s2 = j <;> simp [h1, h2]
  · have e1 : ((wipe σ [s1, s2]).set s1 (some x)).set s2 (some y) = (σ.set s1 (some x)).set s2 (some y) := by
      simp only [wipe]
      apply List.ext_getElem?
      intro j
      simp only [List.getElem?_set, List.length_set]
      by_cases h1 : s1 = j <;> by_cases h2 : s2 = j <;> simp [h1, h2]
    simp only [tYes, reduceIte]
    rw [e1]
    refine he i x y _ hx hy hr _ _ (p1.trans (Same.new hT)) fun H3 s3 => ?_
    have e4 := s3 _ _ (Same.new (o := .tup [x, y]) hT _ _ p2)
    refine ⟨_, e4, sz_lt (by rw [List.length_take]; omega), Same.mut ((p1.trans (Same.new hT)).trans s3) hD, ?_⟩
    rw [upd_same, List.take_add_one, hr]
    rfl
end TkR

set_option Elab.async false
set_option linter.all false
set_option maxRecDepth 100000
set_option maxHeartbeats 4000000
/-! str(x) of a number or a text; lengths of what is written -/
namespace Tk
open PySem PySem.Spec PyProof.Rows L2 SX
def rStrX : List V → Hp → VK → Prop := fun xs H Q => (∃ i : Int, xs = [.int i] ∧ i.natAbs.log2 < 1920 ∧ Q (.str (toString i)) H) ∨ ∃ a : Str, xs = [.str a] ∧ Q (.str a) H
theorem k_strX {X : Cx} : CallR X (.type "str") rStrX := by
  intro pins s σ H xs us Q I r h
  rcases h with h | h
  · exact call_str_int pins s σ H xs us Q I r h
  · exact SkE.call_str_str pins s σ H xs us Q I r h
/-! tuple(xs) -/
def rTupOf (K : PySem.W.Frag) : List V → Hp → VK → Prop := fun xs H Q => ∃ p ys, xs = [.ref p] ∧ ((SqL K H p ys ∧ ∀ l, H l = none → Q (.ref l) (upd H l (.tup ys))) ∨ (SqT K H p ys ∧ Q (.ref p) H))
theorem k_tupOf {X : Cx} {K : PySem.W.Frag} (e : X.K = K := by rfl) : CallR X (.type "tuple") (rTupOf K) := by
  subst e
  exact call_tuple_of
theorem r_tupOf {K : PySem.W.Frag} {p : Addr} {xs : List V} {H : Hp} {Q : VK} (h : H p = some (.lst xs)) (q : ∀ l H2, H l = none → Same H H2 → H2 l = some (.tup xs) → Q (.ref l) H2) : rTupOf K [.ref p] H Q :=
  ⟨p, xs, rfl, .inl ⟨SqL.of h, fun l hl => q l _ hl (Same.new hl) upd_same⟩⟩
theorem g_catL {K : PySem.W.Frag} {l b : Addr} {xs zs : List V} {H : Hp} {Q : VK} (e1 : H l = some (.lst xs)) (e2 : H b = some (.lst zs)) (hl : xs.length + zs.length ≤ 100000) (q : ∀ p H', H p = none → Same H H' → H' p = some (.lst (xs ++ zs)) → Q (.ref p) H') : GAdd K (.ref l) (.ref b) H Q :=
  .inr (.inr (.inl ⟨l, b, xs, zs, rfl, rfl, e1, e2, by unfold sizeLine; omega, fun p hp => q p _ hp (Same.new hp) upd_same⟩))
/-! a comprehension over zip of a tuple and a list that makes data -/
open TkR in
theorem lc_zipMD {K : PySem.W.Frag} {a b : Addr} {xs ys : List V} {s1 s2 : Nat} {te : TE} {σ : L2.St} {H1 : Hp} {Qd : VK} (ds : List PyData) (hl : ds.length = min xs.length ys.length) (hn : ds.length ≤ 100000) (fl : lsAll (fun _ => false) ds = true) (ha : ∀ H', Same H1 H' → SqT K H' a xs) (hb : ∀ H', Same H1 H' → SqL K H' b ys)
    (he : ∀ (i : Nat) (x y : V) (d : PyData), xs[i]? = some x → ys[i]? = some y → ds[i]? = some d → ∀ (H2 : Hp) (R : VK), Same H1 H2 → (∀ r H3, Same H2 H3 → Dd K H3 r d → R r H3) → te ((σ.set s1 (some x)).set s2 (some y)) H2 R)
    (hd : ∀ (D : Addr) (H' : Hp) (rs : List V), H1 D = none → Same H1 H' → H' D = some (.lst rs) → DdAll K H' rs ds → Qd (.ref D) H') :
    LcG (ItzM K a b) (gTup K 2 (gCons (gName s1) (gCons (gName s2) gNil))) tYes te [s1, s2] σ H1 Qd := by
  intro D hD
  refine lc_it (Qd := fun H' => Qd (.ref D) H') (walk_zipM (n := ds.length) hl) (fun i H' => Same H1 H' ∧ ∃ rs, H' D = some (.lst rs) ∧ DdAll K H' rs (ds.take i)) ⟨Same.new hD, [], upd_same, .nil⟩ (fun i H' _ p => ⟨ha H' p.1, hb H' p.1⟩) ?_
    (fun H' ⟨p1, rs, p2, p3⟩ => hd D H' rs hD p1 p2 (by rw [List.take_length] at p3; exact p3))
  rintro i v H2 H2' hi ⟨p1, rs, p2, p3⟩ ⟨T, x, y, rfl, hT, rfl, hx, hy⟩
  have hr : ds[i]? = some ds[i] := List.getElem?_eq_getElem hi
  have lk := p3.length
  refine ⟨T, [x, y], rfl, SqT.of upd_same, rfl, x, [y], rfl, y, [], rfl, rfl, ?_, ?_⟩
  · show wipe (((wipe σ [s1, s2]).set s1 (some x)).set s2 (some y)) [s1, s2] = wipe σ [s1, s2]
    simp only [wipe]
    apply List.ext_getElem?
    intro j
    simp only [List.getElem?_set, List.length_set]
    by_cases h1 : s1 = j <;> by_cases h2 : s2 = j <;> simp [h1, h2]
  · have e1 : ((wipe σ [s1, s2]).set s1 (some x)).set s2 (some y) = (σ.set s1 (some x)).set s2 (some y) := by
      simp only [wipe]
      apply List.ext_getElem?
      intro j
      simp only [List.getElem?_set, List.length_set]
      by_cases h1 : s1 = j <;> by_cases h2 : s2 = j <;> simp [h1, h2]
    simp only [tYes, reduceIte]
    rw [e1]
    refine he i x y _ hx hy hr _ _ (p1.trans (Same.new hT)) fun r H3 s3 dr => ?_
    have s23 : Same H2 H3 := (Same.new hT).trans s3
    have e4 := s23 _ _ p2
    have bt : But D H3 (upd H3 D (.lst (rs ++ [r]))) := fun c o e n => by rw [upd_ne n]; exact e
    have fi : lsAll (fun _ => false) (ds.take i) = true := lsAll_iff.mpr fun d hd => lsAll_iff.mp fl d (List.mem_of_mem_take hd)
    have fd : lsD (fun _ => false) ds[i] = true := lsAll_iff.mp fl _ (List.getElem_mem hi)
    refine ⟨_, e4, sz_lt (by rw [lk, List.length_take]; omega), Same.mut (p1.trans s23) hD, rs ++ [r], upd_same, ?_⟩
    rw [List.take_add_one, hr]
    exact (DdAll.chg bt ⟨_, e4⟩ (fun _ _ _ _ => rfl) _ _ fi (DdAll.same s23 _ _ p3)).append (.cons (Dd.chg bt ⟨_, e4⟩ (fun _ _ _ _ => rfl) _ _ fd dr) .nil)
end Tk

set_option Elab.async false
set_option linter.all false
set_option maxRecDepth 100000
set_option maxHeartbeats 4000000
namespace K05
open PySem PySem.Spec PyProof.Rows L2 Tk Ts CwR
local macro_rules | `(tactic| walk_at "rd1") => `(tactic| first
  | with_reducible refine r_seq ?_
  | ((with_reducible refine r_var (v := ?vv) ?hrv ?_); (case hrv => rfl))
  | with_reducible refine r_c ?_
  | with_reducible refine r_op ?_
  | ((with_reducible refine r_ixL (xs := ?xx) (v := ?vv) ?hh ?he ?_); (case hh => first | assumption | exact upd_same); (case he => rfl))
  | with_reducible refine r_asg ?_
  | with_reducible refine r_sub ?_
  | ((with_reducible refine r_gTup (xs := ?xx) ?hh ?he ?_); (case hh => assumption); (case he => rfl))
  | with_reducible refine r_gCons ?_
  | with_reducible refine r_gNil ?_
  | ((with_reducible refine r_setL (xs := ?xx) (j := ?vv) ?hh ?he ?_); (case hh => first | assumption | exact upd_same); (case he => rfl))
  | with_reducible refine r_pow15 ?_
  | with_reducible refine r_pow18 ?_
  | with_reducible refine r_repr ?_
  | with_reducible refine iteT ?_
  | with_reducible refine iteF ?_
  | with_reducible refine r_cons ?_
  | with_reducible refine r_nil ?_
  | with_reducible refine r_call ?_
  | with_reducible refine r_cb ?_
  | with_reducible refine r_ret ?_
  | with_reducible refine r_gName ?_
  | with_reducible refine r_next ?_
  | with_reducible refine r_ifS ?_
  | with_reducible refine r_un ?_
  | with_reducible refine r_U ?_
  | with_reducible refine r_max2 ?_
  | with_reducible refine r_min2 ?_
  | with_reducible refine r_sl ?_
  | with_reducible refine r_noPart ?_
  | with_reducible refine r_part ?_
  | with_reducible refine r_inti ?_
  | with_reducible refine r_lc ?_
  | with_reducible refine r_for ?_
  | with_reducible refine r_rng1 ?_
  | with_reducible refine r_iList ?_
  | with_reducible refine r_iTup ?_
  | with_reducible refine r_iStr ?_
  | with_reducible refine r_strx ?_
  | ((with_reducible refine r_j ?hh ?hi ?_); (case hh => omega); (case hi => omega))
  | with_reducible refine r_m1 ?_
  | with_reducible refine r_test ?_
  | with_reducible refine r_B ?_
  | with_reducible refine r_not ?_
  | with_reducible refine r_and ?_
  | with_reducible refine r_or ?_
  | with_reducible refine r_andV ?_
  | with_reducible refine r_orV ?_
  | with_reducible refine r_notV ?_
  | with_reducible refine r_if ?_
  | with_reducible refine r_chain ?_
  | with_reducible refine r_lst ?_
  | with_reducible refine r_tup ?_
  | with_reducible refine r_k ?_
  | ((with_reducible refine r_isiS (d := ?dd) ?hh ?_); (case hh => assumption))
  | ((with_reducible refine r_isiT (d := ?dd) ?hh ?_); (case hh => assumption))
  | ((with_reducible refine r_isiI (d := ?dd) ?hh ?_); (case hh => assumption))
  | ((with_reducible refine r_isiB (d := ?dd) ?hh ?_); (case hh => assumption))
  | ((with_reducible refine r_lenS ?hh ?_); (case hh => assumption))
  | ((with_reducible refine r_lenT (xs := ?dd) ?hh ?_); (case hh => assumption))
  | ((with_reducible refine r_ixT (xs := ?xx) (v := ?vv) ?hh ?he ?_); (case hh => assumption); (case he => rfl))
  | with_reducible refine r_isN ?_
  | with_reducible refine r_I0 ?_
  | with_reducible refine g_addI ?_
  | ((with_reducible refine r_mod ?hh ?_); (case hh => first | decide | omega))
  | ((with_reducible refine r_div ?hh ?hi ?_); (case hh => first | decide | omega); (case hi => first | decide | omega))
  | ((with_reducible refine g_mulB ?hh ?hi ?_); (case hh => omega); (case hi => omega))
  | with_reducible refine g_ltI ?_
  | with_reducible refine g_leI ?_
  | with_reducible refine g_gtI ?_
  | with_reducible refine g_geI ?_
  | with_reducible refine g_eqI ?_
  | with_reducible refine g_neI ?_
  | with_reducible refine g_eqS ?_
  | with_reducible refine g_neS ?_
  | with_reducible refine g_leS ?_
  | with_reducible refine g_ltS ?_)
local macro_rules | `(tactic| walk_at "rd") => `(tactic| repeat (walk_at "rd1"))
local macro_rules | `(tactic| walk_at "ed") => `(tactic| repeat first
  | exact ed_int
  | exact ed_str
  | exact ed_bl
  | exact ed_non
  | exact ed_nil
  | exact ed_dct
  | exact ed_neg
  | with_reducible apply ed_cons
  | with_reducible apply ed_tup
  | with_reducible apply ed_lst
  | exact Nat.le_of_ble_eq_true rfl)
local macro_rules | `(tactic| walk_at "tx1") => `(tactic| first
  | walk_at "rd1"
  | with_reducible refine r_callS ?_
  | with_reducible refine r_drop ?_
  | with_reducible refine r_zipA ?_
  | with_reducible refine r_par ?_
  | with_reducible refine r_pair ?_
  | with_reducible refine r_pow6 ?_
  | with_reducible refine r_m0 ?_
  | with_reducible refine r_bm ?_
  | with_reducible refine r_isS ?_
  | with_reducible refine r_told ?_
  | with_reducible refine r_js ?_
  | with_reducible refine r_jsNil ?_
  | with_reducible refine r_repl ?_
  | ((with_reducible refine r_gLst (xs := ?xx) ?hh ?he ?_); (case hh => assumption); (case he => rfl))
  | ((with_reducible refine r_lenL (xs := ?xx) ?hh ?_); (case hh => assumption)))
local macro_rules | `(tactic| walk_at "tx") => `(tactic| repeat (walk_at "tx1"))
section
variable {t1 t2 t3 : Tok} {P : Program} {w : World} {K : PySem.W.Frag} {mg : Str → Option Value} {base : Heap}
/-- the law's keys -/
def keysL : List Str := [Str.ofString "k", Str.ofString "l", Str.ofString "m", Str.ofString "ka", Str.ofString "zz", Str.ofString "abcdefgh"]
def homesL : List Str := [Str.ofString "ann", Str.ofString "bob"]
def valsL : List PyData := [.none, .str "x", .str "", .str "a\"b"]
theorem keys_ok : ∀ k ∈ keysL, (wordS k && (shownS k && decide (k.length ≤ 8))) = true := by decide +kernel
theorem homes_ok : ∀ k ∈ homesL, (wordS k && (shownS k && decide (k.length ≤ 3))) = true := by decide +kernel
theorem vals_ok : ∀ v ∈ valsL, ((noneD v || valueD v) && (tame v && decide (wt v ≤ 20))) = true := by decide +kernel
/-- an entry as it is drawn -/
def DrE (e : PyData) : Prop := entryD e = true ∧ tame e = true ∧ wt e ≤ 100 ∧ keyD e ∈ keysL ∧ ∃ (k o : Str) (n : Int) (v : PyData), e = .tuple [.str k, .tuple [.int n, .str o], v] ∧ o ∈ homesL ∧ v ∈ valsL
theorem dr_mk {k o : Str} {n : Int} {v : PyData} (hk : k ∈ keysL) (ho : o ∈ homesL) (h1 : 1 ≤ n) (h2 : n ≤ 1000000000000000) (hv : v ∈ valsL) : DrE (.tuple [.str k, .tuple [.int n, .str o], v]) := by
  have wn : numD (.int n) = true := by
    show (decide (1 ≤ n) && decide (n ≤ 1000000000000000)) = true
    rw [decide_eq_true h1, decide_eq_true h2]; rfl
  have tn : tame (.int n) = true := by
    show (decide (n = -1) || (decide (0 ≤ n) && decide (n < 10000000000000000))) = true
    rw [decide_eq_true (show 0 ≤ n by omega), decide_eq_true (show n < 10000000000000000 by omega), Bool.and_self, Bool.or_true]
  have kk := keys_ok k hk
  have oo := homes_ok o ho
  have vv := vals_ok v hv
  simp only [Bool.and_eq_true, decide_eq_true_eq] at kk oo vv
  refine ⟨?_, ?_, ?_, hk, k, o, n, v, rfl, ho, hv⟩
  · show (wordS k && ((numD (.int n) && wordS o) && (noneD v || valueD v))) = true
    rw [kk.1, wn, oo.1, vv.1]; rfl
  · show (shownS k && ((tame (.int n) && (shownS o && true)) && (tame v && true))) = true
    rw [kk.2.1, tn, oo.2.1, vv.2.1]; rfl
  · show ((2 * k.length + 2) + 2) + ((((17 + 2) + (((2 * o.length + 2) + 2) + 0)) + 3 + 2) + ((wt v + 2) + 0)) + 3 ≤ 100
    omega
theorem dr_flat {e : PyData} (h : DrE e) : flatD e = true := (entry_fl h.1).1
theorem filt_one {key : Str} : ∀ {ls : List Str}, ls.Nodup → key ∈ ls → (ls.filter fun z => !decide (z = key)).length + 1 = ls.length
  | [], _, h => by cases h
  | z :: ls, nd, h => by
    rw [List.nodup_cons] at nd
    rw [List.filter_cons]
    by_cases c : z = key
    · subst c
      have e : ls.filter (fun y => !decide (y = z)) = ls := List.filter_eq_self.mpr fun y hy => by
        rw [Bool.not_eq_true', decide_eq_false_iff_not]
        rintro rfl
        exact nd.1 hy
      rw [e, decide_eq_true rfl]
      rfl
    · have h' : key ∈ ls := by
        rcases List.mem_cons.mp h with h | h
        · exact absurd h.symm c
        · exact h
      have ih := filt_one nd.2 h'
      rw [decide_eq_false c]
      show (z :: _).length + 1 = _
      rw [List.length_cons, List.length_cons, ih]
def spEnts (K : PySem.W.Frag) : Sp := fun vs H Q _ => ∃ p, vs = [.ref p] ∧ PoolAt H p ∧ ∀ (L : Addr) (xs : List V) (es : List PyData) (H' : Hp), GoodE es → (∀ e ∈ es, DrE e) → es.length ≤ 6 → Drawn p H H' → H' L = some (.lst xs) → H L = none → DdAll K H' xs es → Q (.ref L) H'
abbrev s_L_entries : Stmt := top 23
abbrev n_L_entries : List Str := ["_law_pool_here", "_law_found", "_law_left", "_law_turn", "_law_key", "_law_one", "_law_stamp"]
abbrev p_L_entries : List Str := ["_law_pool_here"]
theorem sc_L_entries : FnScope n_L_entries p_L_entries (defScope s_L_entries) := ⟨rfl, rfl, rfl, by decide +kernel, rfl, by decide +kernel, by decide +kernel⟩
theorem ok_L_entries (T : Txt mg t1 t2 t3) {f : Addr} {fd : FuncData} (F : Fun K "_law_entries" "_law_entries" s_L_entries f fd) (K_L_take : Cal P w K mg base CX0 1 "_law_take" p_L_take spTake) : FnOk P w K mg base CX0 2 f fd p_L_entries (spEnts K) := by
  refine F.ok sc_L_entries (fun vs H Q E h => by obtain ⟨p, rfl, _⟩ := h; rfl) (fun cdv A outer s H vs Q E hr h => ?_)
  obtain ⟨p, rfl, hp, k⟩ := h
  have hu := hr.units
  refine ⟨_, (pss_cons (ps_par (i := 1) (j := 2) rfl sc_L_entries.nd rfl rfl (by decide) rfl rfl (pa_cons (pe_lst pa_nil) (pa_cons (pe_lst (pa_cons pe_str (pa_cons pe_str (pa_cons pe_str (pa_cons pe_str (pa_cons pe_str (pa_cons pe_str pa_nil))))))) pa_nil)) (by rfl))
      (pss_cons (ps_for PassesOwn.never rfl (pi_range1 rfl T.z_range (pa_cons (pe_cal K_L_take (hr.mono (by decide)) pass0 (pa_cons (pv 0) (pa_cons pe_int pa_nil))) pa_nil)) (pg_name (i := 3) sc_L_entries.nd rfl (by first | exact Or.inl rfl | exact Or.inr rfl))
      (pss_cons (ps_set (i := 4) sc_L_entries.nd rfl (by first | exact Or.inl rfl | exact Or.inr rfl) (pe_ix k_ix (pv 2) (pe_cal K_L_take (hr.mono (by decide)) pass0 (pa_cons (pv 0) (pa_cons (pe_callB k_len (by rfl) T.z_len (by decide +kernel) (pa_cons (pv 2) pa_nil)) pa_nil))) (fun _ _ => rfl)))
      (pss_cons (ps_setLc (i := 2) (own := [("_law_one", 5)]) rfl sc_L_entries.nd rfl rfl (sw_true rfl rfl rfl (by decide +kernel)) (k_list (pv 2)) (blkOk_by (own := [("_law_one", 5)]) (N := n_L_entries) (sc := defScope s_L_entries) (by decide +kernel)) (fun _ _ _ _ _ => (pg_name (i := 5) sc_L_entries.nd rfl (by first | exact Or.inl rfl | exact Or.inr rfl))) (fun _ _ _ _ _ => (pts_one (pt_cmpR (k_ne hu) (pv 5) (pv 4) (nomark _)))) (fun _ _ _ _ _ => (pv 5)))
      (pss_cons (ps_set (i := 6) sc_L_entries.nd rfl (by first | exact Or.inl rfl | exact Or.inr rfl) (pe_tup (pa_cons (pe_op k_add pe_int (pe_cal K_L_take (hr.mono (by decide)) pass0 (pa_cons (pv 0) (pa_cons (pe_op op_pow pe_int pe_int) pa_nil)))) (pa_cons (pe_ix k_ix (pe_lst (pa_cons pe_str (pa_cons pe_str pa_nil))) (pe_cal K_L_take (hr.mono (by decide)) pass0 (pa_cons (pv 0) (pa_cons pe_int pa_nil))) (fun _ _ => rfl)) pa_nil))))
      (pss_one (ps_expr (pe_bm PySem.F.plainAttrs_list PySem.F.slot_list_append PySem.F.type_list_append mt_append (pv 1) (pa_cons (pe_tup (pa_cons (pv 4) (pa_cons (pv 6) (pa_cons (pe_ix k_ix (pe_lst (pa_cons pe_non (pa_cons pe_str (pa_cons pe_str (pa_cons pe_str pa_nil))))) (pe_cal K_L_take (hr.mono (by decide)) pass0 (pa_cons (pv 0) (pa_cons pe_int pa_nil))) (fun _ _ => rfl)) pa_nil)))) pa_nil))))))))
      (pss_one (ps_ret (pv 1))))), ?_⟩
  walk_at "tx"
  refine a_lst (by simp) fun F1 H1 n1 s1 e1 => ?_
  walk_at "tx"
  refine a_lst (by simp) fun L1 H2 n2 s2 e2 => ?_
  walk_at "tx"
  have hp2 := (hp.same s1).same s2
  refine r_take hp2 (by decide) (by decide) fun rn H3 m0 m1 D3 => ?_
  have nF : F1 ≠ p := (hp.ne' n1)
  have nL : L1 ≠ p := ((hp.same s1).ne' n2)
  have nFL : L1 ≠ F1 := by rintro rfl; rw [e1] at n2; cases n2
  have e1' := D3.kept _ _ (s2 _ _ e1) nF
  have e2' := D3.kept _ _ e2 nL
  have D03 : Drawn p H H3 := ⟨fun b o e n => D3.kept b o (s2 b o (s1 b o e)) n, D3.pool⟩
  walk_at "tx"
  refine for_range (lo := 0) (n := rn.toNat) (fun i σ H' => ∃ (o3 o4 o5 o6 : Option V) (LL : Addr) (ls : List Str) (xs : List V) (es : List PyData), σ = [some (.ref p), some (.ref F1), some (.ref LL), o3, o4, o5, o6] ∧ Drawn p H H' ∧ H' F1 = some (.lst xs) ∧ DdAll K H' xs es ∧ LL ≠ F1 ∧ LL ≠ p ∧ H' LL = some (.lst (ls.map V.str)) ∧
      Tk.GoodE es ∧ (∀ e ∈ es, DrE e) ∧ es.length = i ∧ ls.Nodup ∧ (∀ k ∈ ls, k ∈ keysL) ∧ ls.length = 6 - i ∧ ∀ e ∈ es, keyD e ∉ ls) ⟨_, _, _, _, L1, keysL, [], [], rfl, D03, e1', .nil, nFL, nL, e2', ⟨fun _ h => (nomatch h), by simp⟩, fun _ h => (nomatch h), rfl, by decide +kernel, fun k h => h, rfl, fun _ h => (nomatch h)⟩ ?_ ?_
  · rintro i σ H4 hi ⟨o3, o4, o5, o6, LL, ls, xs, es, rfl, D04, eF, al, ne1, ne2, eL, hg, hdr, hl, nd, sub, hls, far⟩
    have hi6 : i < 6 := by omega
    have lpos : 0 < ls.length := by omega
    walk_at "tx"
    refine r_take D04.pool (by rw [List.length_map]; omega) (by rw [List.length_map]; omega) fun ra H5 a0 a1 D5 => ?_
    rw [List.length_map] at a1
    walk_at "tx"
    obtain ⟨v1, hv1, m1⟩ := at_drawn (xs := ls.map V.str) a0 (by rw [List.length_map]; exact a1)
    have eL5 := D5.kept _ _ eL ne2
    have eF5 := D5.kept _ _ eF nF
    refine r_ixL eL5 hv1 ?_
    obtain ⟨key, mk, rfl⟩ := List.mem_map.mp m1
    walk_at "tx"
    refine ⟨LL, rfl, ⟨_, SqL.of eL5⟩, ?_⟩
    refine lc_pure walk_list (fun H' s' => SqL.of (s' _ _ eL5)) (by rw [List.length_map]; omega) (fun v => !decide (v = V.str key)) id (fun x hx H6 R s6 q => ?_) (fun x hx _ H6 R s6 q => ?_) (fun L2 H6 nL2 s6 eL6 => ?_)
    · obtain ⟨z, hz, rfl⟩ := List.mem_map.mp hx
      walk_at "tx"
      have e : decide (V.str z = V.str key) = decide (z = key) := by simp
      have q' := q H6 (Same.refl H6)
      rw [e] at q'
      exact q'
    · walk_at "tx"
      exact q H6 (Same.refl H6)
    have ef : ((ls.map V.str).filter fun v => !decide (v = V.str key)).map id = (ls.filter fun z => !decide (z = key)).map V.str := by
      rw [List.map_id, List.filter_map]
      congr 1
      refine List.filter_congr fun z _ => ?_
      show (!decide (V.str z = V.str key)) = !decide (z = key)
      simp
    rw [ef] at eL6
    have p6 : PoolAt H6 p := D5.pool.same s6
    walk_at "tx"
    refine r_take p6 (by decide) (by decide) fun rb H7 b0 b1 D7 => ?_
    walk_at "tx"
    refine a_lst (by simp) fun L3 H8 n8 s8 e8 => ?_
    have p8 := D7.pool.same s8
    walk_at "tx"
    refine r_take p8 (by decide) (by decide) fun rc H9 c0 c1 D9 => ?_
    walk_at "tx"
    obtain ⟨v2, hv2, m2⟩ := at_drawn (xs := [V.str "ann", V.str "bob"]) c0 (by show rc < ((2 : Nat) : Int); omega)
    refine r_ixL (D9.kept _ _ e8 (D7.pool.ne' n8)) hv2 ?_
    obtain ⟨o, rfl, mo⟩ : ∃ o : Str, v2 = .str o ∧ o ∈ homesL := by
      simp only [List.mem_cons, List.not_mem_nil, or_false] at m2
      rcases m2 with rfl | rfl
      · exact ⟨_, rfl, by simp [homesL]⟩
      · exact ⟨_, rfl, by simp [homesL]⟩
    walk_at "tx"
    refine a_tup (by simp) fun T1 H10 n10 s10 e10 => ?_
    dsimp only
    walk_at "tx"
    have eF9 : H9 F1 = some (.lst xs) := D9.kept _ _ (s8 _ _ (D7.kept _ _ (s6 _ _ eF5) nF)) nF
    have eF10 := s10 _ _ eF9
    refine ⟨.inl ⟨rfl, _, .inl (.inl eF10)⟩, ?_⟩
    have p10 := D9.pool.same s10
    walk_at "tx"
    refine a_lst (by simp) fun L4 H11 n11 s11 e11 => ?_
    have p11 := p10.same s11
    walk_at "tx"
    refine r_take p11 (by decide) (by decide) fun rd H12 d0 d1 D12 => ?_
    walk_at "tx"
    obtain ⟨v3, hv3, m3⟩ := at_drawn (xs := [V.non, V.str "x", V.str "", V.str "a\"b"]) d0 (by show rd < ((4 : Nat) : Int); omega)
    refine r_ixL (D12.kept _ _ e11 (p10.ne' n11)) hv3 ?_
    obtain ⟨d3, dd3, md⟩ : ∃ d : PyData, (∀ H, Dd K H v3 d) ∧ d ∈ valsL := by
      simp only [List.mem_cons, List.not_mem_nil, or_false] at m3
      rcases m3 with rfl | rfl | rfl | rfl
      · exact ⟨_, fun _ => .non, by simp [valsL]⟩
      · exact ⟨_, fun _ => .str _, by simp [valsL]⟩
      · exact ⟨_, fun _ => .str _, by simp [valsL]⟩
      · exact ⟨_, fun _ => .str _, by simp [valsL]⟩
    walk_at "tx"
    refine a_tup (by simp) fun T2 H13 n13 s13 e13 => ?_
    have eF13 := s13 _ _ (D12.kept _ _ (s11 _ _ eF10) nF)
    have DT : Drawn p H4 H13 := (((((((D5.same s6).trans D7).same s8).trans D9).same s10).same s11).trans D12).same s13
    walk_at "tx"
    have al13 : DdAll K H13 xs es := DdAll.stay (L := p) (fun c q e z => DT.kept c q e z) (fun ys z => by obtain ⟨_, _, q, _⟩ := D04.pool; rw [q] at z; cases z) _ _ hg.flat al
    have lx : xs.length = es.length := al.length
    refine ⟨F1, xs, .ref T2, rfl, rfl, eF13, sz_lt (by omega), ?_⟩
    have de := dr_mk (n := 1 + rb) (sub _ mk) mo (by omega) (by omega) md
    have eT1 : H13 T1 = some (.tup [.int (1 + rb), .str o]) := s13 _ _ (D12.tup p11 (s11 _ _ e10))
    have d13 : Dd K H13 (.ref T2) (.tuple [.str key, .tuple [.int (1 + rb), .str o], d3]) := .tup e13 (.cons (.str _) (.cons (.tup eT1 (.cons (.int _) (.cons (.str _) .nil))) (.cons (dd3 _) .nil)))
    have bF : But F1 H13 (upd H13 F1 (.lst (xs ++ [.ref T2]))) := But.refl.set
    have nFt : ∀ ys, H13 F1 ≠ some (.tup ys) := fun ys z => by rw [eF13] at z; cases z
    have nL2F : L2 ≠ F1 := by rintro rfl; rw [eF5] at nL2; cases nL2
    have nL2p : L2 ≠ p := D5.pool.ne' nL2
    have eL13 := s13 _ _ (D12.kept _ _ (s11 _ _ (s10 _ _ (D9.kept _ _ (s8 _ _ (D7.kept _ _ eL6 nL2p)) nL2p))) nL2p)
    have DF : Drawn p H (upd H13 F1 (.lst (xs ++ [.ref T2]))) := by
      have z := D04.trans DT
      refine ⟨fun c q e ne => ?_, ?_⟩
      · rw [upd_ne (ne_of_none e n1)]
        exact z.kept c q e ne
      · obtain ⟨x, y, hx, r⟩ := z.pool
        exact ⟨x, y, by rw [upd_ne (Ne.symm nF)]; exact hx, r⟩
    refine ⟨_, _, _, _, L2, ls.filter fun z => !decide (z = key), xs ++ [.ref T2], es ++ [.tuple [.str key, .tuple [.int (1 + rb), .str o], d3]], rfl, DF, upd_same, ?_, nL2F, nL2p, bF _ _ eL13 nL2F, ⟨?_, ?_⟩, ?_, by simp [hl], nd.filter _, fun z hz => sub z (List.mem_filter.mp hz).1, ?_, ?_⟩
    · exact (DdAll.stay bF nFt _ _ hg.flat al13).append (.cons (Dd.stay bF nFt _ _ (dr_flat de) d13) .nil)
    · intro e he
      rcases List.mem_append.mp he with he | he
      · exact hg.all e he
      · rw [List.mem_singleton.mp he]; exact de.1
    · rw [List.map_append, List.nodup_append]
      refine ⟨hg.nd, by simp, fun x hx y hy => ?_⟩
      obtain ⟨e, he, rfl⟩ := List.mem_map.mp hx
      rintro rfl
      have ey : keyD e = key := by
        rw [List.map_cons, List.map_nil, List.mem_singleton] at hy
        exact hy
      exact far e he (ey ▸ mk)
    · intro e he
      rcases List.mem_append.mp he with he | he
      · exact hdr e he
      · rw [List.mem_singleton.mp he]; exact de
    · have z := filt_one nd mk
      omega
    · intro e he hm
      obtain ⟨h1, h2⟩ := List.mem_filter.mp hm
      rcases List.mem_append.mp he with he | he
      · exact far e he h1
      · rw [List.mem_singleton.mp he] at h2
        simp [keyD] at h2
  · rintro σ H4 ⟨o3, o4, o5, o6, LL, ls, xs, es, rfl, D04, eF, al, ne1, ne2, eL, hg, hdr, hl, nd, sub, hls, far⟩
    walk_at "tx"
    exact k F1 xs es H4 hg hdr (by omega) D04 eF n1 al
end
end K05

set_option Elab.async false
set_option linter.all false
set_option maxRecDepth 100000
set_option maxHeartbeats 4000000
namespace K05
open PySem PySem.Spec PyProof.Rows L2 Tk Ts CwR
local macro_rules | `(tactic| walk_at "rd1") => `(tactic| first
  | with_reducible refine r_seq ?_
  | ((with_reducible refine r_var (v := ?vv) ?hrv ?_); (case hrv => rfl))
  | with_reducible refine r_c ?_
  | with_reducible refine r_op ?_
  | ((with_reducible refine r_ixL (xs := ?xx) (v := ?vv) ?hh ?he ?_); (case hh => first | assumption | exact upd_same); (case he => rfl))
  | with_reducible refine r_asg ?_
  | with_reducible refine r_sub ?_
  | ((with_reducible refine r_gTup (xs := ?xx) ?hh ?he ?_); (case hh => assumption); (case he => rfl))
  | with_reducible refine r_gCons ?_
  | with_reducible refine r_gNil ?_
  | ((with_reducible refine r_setL (xs := ?xx) (j := ?vv) ?hh ?he ?_); (case hh => first | assumption | exact upd_same); (case he => rfl))
  | with_reducible refine r_pow15 ?_
  | with_reducible refine r_pow18 ?_
  | with_reducible refine r_repr ?_
  | with_reducible refine iteT ?_
  | with_reducible refine iteF ?_
  | with_reducible refine r_cons ?_
  | with_reducible refine r_nil ?_
  | with_reducible refine r_call ?_
  | with_reducible refine r_cb ?_
  | with_reducible refine r_ret ?_
  | with_reducible refine r_gName ?_
  | with_reducible refine r_next ?_
  | with_reducible refine r_ifS ?_
  | with_reducible refine r_un ?_
  | with_reducible refine r_U ?_
  | with_reducible refine r_max2 ?_
  | with_reducible refine r_min2 ?_
  | with_reducible refine r_sl ?_
  | with_reducible refine r_noPart ?_
  | with_reducible refine r_part ?_
  | with_reducible refine r_inti ?_
  | with_reducible refine r_lc ?_
  | with_reducible refine r_for ?_
  | with_reducible refine r_rng1 ?_
  | with_reducible refine r_iList ?_
  | with_reducible refine r_iTup ?_
  | with_reducible refine r_iStr ?_
  | with_reducible refine r_strx ?_
  | ((with_reducible refine r_j ?hh ?hi ?_); (case hh => omega); (case hi => omega))
  | with_reducible refine r_m1 ?_
  | with_reducible refine r_test ?_
  | with_reducible refine r_B ?_
  | with_reducible refine r_not ?_
  | with_reducible refine r_and ?_
  | with_reducible refine r_or ?_
  | with_reducible refine r_andV ?_
  | with_reducible refine r_orV ?_
  | with_reducible refine r_notV ?_
  | with_reducible refine r_if ?_
  | with_reducible refine r_chain ?_
  | with_reducible refine r_lst ?_
  | with_reducible refine r_tup ?_
  | with_reducible refine r_k ?_
  | ((with_reducible refine r_isiS (d := ?dd) ?hh ?_); (case hh => assumption))
  | ((with_reducible refine r_isiT (d := ?dd) ?hh ?_); (case hh => assumption))
  | ((with_reducible refine r_isiI (d := ?dd) ?hh ?_); (case hh => assumption))
  | ((with_reducible refine r_isiB (d := ?dd) ?hh ?_); (case hh => assumption))
  | ((with_reducible refine r_lenS ?hh ?_); (case hh => assumption))
  | ((with_reducible refine r_lenT (xs := ?dd) ?hh ?_); (case hh => assumption))
  | ((with_reducible refine r_ixT (xs := ?xx) (v := ?vv) ?hh ?he ?_); (case hh => assumption); (case he => rfl))
  | with_reducible refine r_isN ?_
  | with_reducible refine r_I0 ?_
  | with_reducible refine g_addI ?_
  | ((with_reducible refine r_mod ?hh ?_); (case hh => first | decide | omega))
  | ((with_reducible refine r_div ?hh ?hi ?_); (case hh => first | decide | omega); (case hi => first | decide | omega))
  | ((with_reducible refine g_mulB ?hh ?hi ?_); (case hh => omega); (case hi => omega))
  | with_reducible refine g_ltI ?_
  | with_reducible refine g_leI ?_
  | with_reducible refine g_gtI ?_
  | with_reducible refine g_geI ?_
  | with_reducible refine g_eqI ?_
  | with_reducible refine g_neI ?_
  | with_reducible refine g_eqS ?_
  | with_reducible refine g_neS ?_
  | with_reducible refine g_leS ?_
  | with_reducible refine g_ltS ?_)
local macro_rules | `(tactic| walk_at "rd") => `(tactic| repeat (walk_at "rd1"))
local macro_rules | `(tactic| walk_at "ed") => `(tactic| repeat first
  | exact ed_int
  | exact ed_str
  | exact ed_bl
  | exact ed_non
  | exact ed_nil
  | exact ed_dct
  | exact ed_neg
  | with_reducible apply ed_cons
  | with_reducible apply ed_tup
  | with_reducible apply ed_lst
  | exact Nat.le_of_ble_eq_true rfl)
local macro_rules | `(tactic| walk_at "tx1") => `(tactic| first
  | walk_at "rd1"
  | with_reducible refine r_callS ?_
  | with_reducible refine r_drop ?_
  | with_reducible refine r_zipA ?_
  | with_reducible refine r_par ?_
  | with_reducible refine r_pair ?_
  | with_reducible refine r_pow6 ?_
  | with_reducible refine r_m0 ?_
  | with_reducible refine r_bm ?_
  | with_reducible refine r_isS ?_
  | with_reducible refine r_told ?_
  | with_reducible refine r_js ?_
  | with_reducible refine r_jsNil ?_
  | with_reducible refine r_repl ?_
  | ((with_reducible refine r_gLst (xs := ?xx) ?hh ?he ?_); (case hh => assumption); (case he => rfl))
  | ((with_reducible refine r_lenL (xs := ?xx) ?hh ?_); (case hh => assumption)))
local macro_rules | `(tactic| walk_at "tx") => `(tactic| repeat (walk_at "tx1"))
section
variable {t1 t2 t3 : Tok} {P : Program} {w : World} {K : PySem.W.Frag} {mg : Str → Option Value} {base : Heap}
theorem plainAll_of : ∀ {ds : List PyData}, (∀ d ∈ ds, d.plain = true) → PyData.plainAll ds = true
  | [], _ => rfl
  | d :: ds, h => by
    show (d.plain && PyData.plainAll ds) = true
    rw [h d List.mem_cons_self, plainAll_of fun x hx => h x (List.mem_cons_of_mem _ hx)]
    rfl
theorem depthAll_of {n : Nat} : ∀ {ds : List PyData}, (∀ d ∈ ds, d.depth ≤ n) → PyData.depthAll ds ≤ n
  | [], _ => Nat.zero_le _
  | d :: ds, h => Nat.max_le.mpr ⟨h d List.mem_cons_self, depthAll_of fun x hx => h x (List.mem_cons_of_mem _ hx)⟩
theorem tup_cmp {ds : List PyData} (h : ∀ d ∈ ds, d.plain = true ∧ d.depth ≤ 10) : (PyData.tuple ds).plain = true ∧ (PyData.tuple ds).depth ≤ 60 :=
  ⟨plainAll_of fun d hd => (h d hd).1, Nat.le_trans (Nat.succ_le_succ (depthAll_of fun d hd => (h d hd).2)) (by decide)⟩
theorem lst_cmp {ds : List PyData} (h : ∀ d ∈ ds, d.plain = true ∧ d.depth ≤ 10) : (PyData.list ds).plain = true ∧ (PyData.list ds).depth ≤ 60 :=
  ⟨plainAll_of fun d hd => (h d hd).1, Nat.le_trans (Nat.succ_le_succ (depthAll_of fun d hd => (h d hd).2)) (by decide)⟩
theorem ent_cmp {es : List PyData} (g : Tk.GoodE es) : ∀ d ∈ es, d.plain = true ∧ d.depth ≤ 10 := fun d hd => ⟨(entry_fl (g.all d hd)).2.1, Nat.le_trans (entry_fl (g.all d hd)).2.2 (by decide)⟩
def kStr (k : Str) : PyData := .str k
theorem dd_mem {H : Hp} : ∀ {xs : List V} {es : List PyData} {v : V}, DdAll K H xs es → v ∈ xs → ∃ e ∈ es, Dd K H v e
  | _, _, _, .nil, h => by cases h
  | _, _, v, .cons h t, m => by
    rcases List.mem_cons.mp m with e | m
    · subst e
      exact ⟨_, List.mem_cons_self, h⟩
    · obtain ⟨e, he, d⟩ := dd_mem t m
      exact ⟨e, List.mem_cons_of_mem _ he, d⟩
theorem dd_sstr {H : Hp} : ∀ ys : List Str, DdAll K H (ys.map V.str) (ys.map PyData.str)
  | [] => .nil
  | _ :: ys => .cons (.str _) (dd_sstr ys)
theorem str_cmp (ys : List Str) : ∀ d ∈ ys.map PyData.str, d.plain = true ∧ d.depth ≤ 10 := fun d hd => by
  obtain ⟨y, _, rfl⟩ := List.mem_map.mp hd
  exact ⟨rfl, show 0 ≤ 10 by decide⟩
theorem sort_pm {fs es x : List PyData} (h : SortE fs x) (pm : fs.Perm es) : SortE es x := ⟨h.1.trans pm, h.2⟩
theorem key_sort {es x : List PyData} {ys : List Str} (h : SortE es x) (pm : ys.Perm (es.map keyD)) (st : ys.Pairwise ltS) : ys = x.map keyD := by
  have z : (ys.Perm (x.map keyD)) := pm.trans (h.1.map keyD).symm
  exact List.Perm.eq_of_pairwise (le := ltS) (fun p q _ _ h g => absurd (ltS_tr h g) (ltS_irr _)) st h.2 z
theorem rest_cmp {e : PyData} (h : entryD e = true) : (restD e).plain = true ∧ (restD e).depth ≤ 60 ∧ (valOf e).plain = true ∧ (valOf e).depth ≤ 60 := by
  obtain ⟨k, n, o, v, rfl, _, _, _, _, hv⟩ := entry_is h
  have z : v.plain = true ∧ v.depth = 0 := by
    rcases hv with hv | hv
    · cases v <;> first | exact ⟨rfl, rfl⟩ | cases hv
    · cases v <;> first | exact ⟨rfl, rfl⟩ | cases hv
  refine ⟨?_, ?_, z.1, by show v.depth ≤ 60; omega⟩
  · show ((true && (true && true)) && (v.plain && true)) = true
    rw [z.1]; rfl
  · show max (max 0 (max 0 0) + 1) (max v.depth 0) + 1 ≤ 60
    rw [z.2]
    decide
theorem other_not : (Str.ofString "other") ∉ keysL := by decide +kernel
theorem other_word : wordD (.str (Str.ofString "other")) = true := by decide +kernel
theorem word_len {k : Str} (h : wordS k = true) : k.length ≤ 100000 := by
  unfold wordS at h
  rw [Bool.and_eq_true, Bool.and_eq_true, decide_eq_true_eq, decide_eq_true_eq] at h
  omega
def spTold (K : PySem.W.Frag) (C : Addr) : Sp := fun vs H Q _ => ∃ (a L : Addr) (fs es : List PyData) (xs : List V), vs = [.ref a, .ref L] ∧ ContAt K C H a fs ∧ H L = some (.lst xs) ∧ DdAll K H xs es ∧ Tk.GoodE es ∧ (∀ e ∈ es, DrE e) ∧ es.length ≤ 6 ∧ fs.Perm es ∧ ∀ H', Same H H' → Q (.bl true) H'
abbrev s_L_told : Stmt := top 25
abbrev n_L_told : List Str := ["_law_content", "_law_entries_here", "_law_ordered", "_law_entry", "_law_keys", "_law_key", "_law_stamp", "_law_text"]
abbrev p_L_told : List Str := ["_law_content", "_law_entries_here"]
theorem sc_L_told : FnScope n_L_told p_L_told (defScope s_L_told) := ⟨rfl, rfl, rfl, by decide +kernel, rfl, by decide +kernel, by decide +kernel⟩
theorem ok_L_told {C CK CN : Addr} (T : Txt mg t1 t2 t3) {f : Addr} {fd : FuncData} (F : Fun K "_law_told" "_law_told" s_L_told f fd) (K_Content_entries : CalM P w K mg base CX0 C 2 "entries" p_Content_entries (spEntries K C)) (K_Content_key_list : CalM P w K mg base CX0 C 1 "key_list" p_Content_key_list (spKeys K C)) (K_Content_shows : CalM P w K mg base (L2.CX P w) C 3 "shows" p_Content_shows (spShows K C CK))
    (K_contains : CalO P w K mg base CX0 C 1 "__contains__" (spIn K C)) (K_len : CalO P w K mg base CX0 C 1 "__len__" (spLen K C)) (K_getitem : CalI P w K mg base (L2.CX P w) C 3 (spGet K C CN)) : FnOk P w K mg base CX0 5 f fd p_L_told (spTold K C) := by
  refine F.ok sc_L_told (fun vs H Q E h => by obtain ⟨a, L, fs, es, xs, rfl, _⟩ := h; rfl) (fun cdv A outer s H vs Q E hr h => ?_)
  obtain ⟨a, L, fs, es, xs, rfl, ca, eL, al, hg, hdr, hl, pm, k⟩ := h
  have hu := hr.units
  refine ⟨_, (pss_cons (ps_set (i := 2) sc_L_told.nd rfl (by first | exact Or.inl rfl | exact Or.inr rfl) (pe_callB k_sortE (by rfl) T.z_sorted (by decide +kernel) (pa_cons (pv 1) pa_nil)))
      (pss_cons (ps_if (PW.pt (pw_or (pt_cmpR (k_neP hu) (pe_calm0 K_Content_entries (hr.mono (by decide)) pass0 (pv 0)) (pe_callTy k_tupOf (by rfl) T.z_tuple (by decide +kernel) (pa_cons (pv 2) pa_nil)) (nomark _)) (pw_or1 (pt_cmpR (k_neP hu) (pe_calm0 K_Content_key_list (hr.mono (by decide)) pass0 (pv 0)) (pe_lc (own := [("_law_entry", 3)]) rfl sc_L_told.nd (k_list (pv 2)) (blkOk_by (own := [("_law_entry", 3)]) (N := n_L_told) (sc := defScope s_L_told) (by decide +kernel)) (fun _ _ _ _ _ => (pg_name (i := 3) sc_L_told.nd rfl (by first | exact Or.inl rfl | exact Or.inr rfl))) (fun _ _ _ _ _ => pts_nil) (fun _ _ _ _ _ => (pe_ix k_ix (pv 3) pe_int (fun _ _ => rfl)))) (nomark _))))) (pss_one (ps_ret pe_bl)) pss_nil)
      (pss_cons (ps_set (i := 4) sc_L_told.nd rfl (by first | exact Or.inl rfl | exact Or.inr rfl) (pe_calm0 K_Content_key_list (hr.mono (by decide)) pass0 (pv 0)))
      (pss_cons (ps_expr (pe_bm PySem.F.plainAttrs_list PySem.F.slot_list_append PySem.F.type_list_append mt_append (pv 4) (pa_cons pe_str pa_nil)))
      (pss_cons (ps_if (PW.pt (pw_or (pt_cmpR (k_ne hu) (pe_callB (k_lenO K_len (hr.mono (by decide)) pass0) (by rfl) T.z_len (by decide +kernel) (pa_cons (pv 0) pa_nil)) (pe_callB k_len (by rfl) T.z_len (by decide +kernel) (pa_cons (pv 1) pa_nil)) (nomark _)) (pw_or1 (pt_cmpR (k_neP hu) (pe_calm0 K_Content_key_list (hr.mono (by decide)) pass0 (pv 0)) (pe_lc (own := [("_law_entry", 3)]) rfl sc_L_told.nd (k_list (pv 2)) (blkOk_by (own := [("_law_entry", 3)]) (N := n_L_told) (sc := defScope s_L_told) (by decide +kernel)) (fun _ _ _ _ _ => (pg_name (i := 3) sc_L_told.nd rfl (by first | exact Or.inl rfl | exact Or.inr rfl))) (fun _ _ _ _ _ => pts_nil) (fun _ _ _ _ _ => (pe_ix k_ix (pv 3) pe_int (fun _ _ => rfl)))) (nomark _))))) (pss_one (ps_ret pe_bl)) pss_nil)
      (pss_cons (ps_for PassesOwn.never rfl (k_list (pv 1)) (k_gtup (n := 3) rfl (pgs_cons (pg_name (i := 5) sc_L_told.nd rfl (by first | exact Or.inl rfl | exact Or.inr rfl)) (pgs_cons (pg_name (i := 6) sc_L_told.nd rfl (by first | exact Or.inl rfl | exact Or.inr rfl)) (pgs_cons (pg_name (i := 7) sc_L_told.nd rfl (by first | exact Or.inl rfl | exact Or.inr rfl)) pgs_nil))))
      (pss_one (ps_if (PW.pt (pw_or (pt_cmpR (k_neP hu) (pe_subO K_getitem (hr.mono (by decide)) (passOut (E := E0) takes0) (pv 0) (pv 5)) (pe_tup (pa_cons (pv 6) (pa_cons (pv 7) pa_nil))) (nomark _)) (pw_or (pt_cmpR (k_neP hu) (pe_calm K_Content_shows (hr.mono (by decide)) (passOut (E := E0) takes0) (pv 0) (pa_cons (pv 5) pa_nil)) (pv 7) (nomark _)) (pw_or1 (pt_cmpR op_isnot_bl (pe_cmpR (k_inO K_contains (hr.mono (by decide)) pass0) (pv 5) (pv 0) rfl) pe_bl (nomark _)))))) (pss_one (ps_ret pe_bl)) pss_nil)))
      (pss_one (ps_ret (pe_and (pe_cmpR (k_notinO K_contains (hr.mono (by decide)) pass0) pe_str (pv 0) rfl) (pe_one (pe_cmpR o_isN (pe_calm K_Content_shows (hr.mono (by decide)) (passOut (E := E0) takes0) (pv 0) (pa_cons pe_str pa_nil)) pe_non (nomark _)))))))))))), ?_⟩
  walk_at "tx"
  refine ⟨L, xs, es, rfl, eL, al, hg, fun ys gs p so1 al1 np => ?_⟩
  have s1 : Same H (upd H p (.lst ys)) := Same.new np
  have e1 : (upd H p (.lst ys)) p = some (.lst ys) := upd_same
  have al2 : DdAll K (upd H p (.lst ys)) ys gs := DdAll.same s1 _ _ al1
  generalize upd H p (.lst ys) = H1 at s1 e1 al2 ⊢
  have gg := so1.good hg
  have lg := so1.1.length_eq
  walk_at "tx"
  have ca1 := ca.same s1
  have cax := ca1
  obtain ⟨dx, d, kvs, c1, c2, rows, hgf, hlf⟩ := cax
  refine r_meth ?_
  walk_at "tx"
  refine ⟨a, dx, _, rfl, c1, tab_no d (by decide), ?_⟩
  walk_at "tx"
  refine ⟨a, fs, rfl, ca1, fun v es' H2 so2 s2 d2 => ?_⟩
  have ee : es' = gs := (sort_pm so2 pm).uniq so1
  subst ee
  walk_at "tx"
  refine ⟨p, ys, rfl, .inl ⟨SqL.of (s2 _ _ e1), fun T1 nT => ?_⟩⟩
  have s3 : Same H2 (upd H2 T1 (.tup ys)) := Same.new nT
  have dT : Dd K (upd H2 T1 (.tup ys)) (.ref T1) (.tuple es') := .tup upd_same (DdAll.same (s2.trans s3) _ _ al2)
  generalize upd H2 T1 (.tup ys) = H3 at s3 dT ⊢
  have cm := tup_cmp (ent_cmp gg)
  refine r_neSame (Dd.same s3 _ _ d2) dT cm.1 cm.2 ?_
  walk_at "tx"
  have s13 := s2.trans s3
  refine r_meth ?_
  walk_at "tx"
  refine ⟨a, dx, _, rfl, s13 _ _ c1, tab_no d (by decide), ?_⟩
  walk_at "tx"
  refine ⟨a, fs, rfl, ca1.same s13, fun ks L4 H4 pm4 st4 n4 s4 e4 => ?_⟩
  have ek : ks = es'.map keyD := key_sort so2 pm4 st4
  subst ek
  have s14 := s13.trans s4
  walk_at "tx"
  refine ⟨p, rfl, ⟨_, SqL.of (s14 _ _ e1)⟩, ?_⟩
  have keysL : ∀ {HH : Hp}, Same H1 HH → ∀ {Qd : VK}, (∀ (D : Addr) (H' : Hp) (rs : List V), HH D = none → Same HH H' → H' D = some (.lst rs) → DdAll K H' rs (es'.map fun e => PyData.str (keyD e)) → Qd (.ref D) H') → ∀ σ : L2.St, 3 < σ.length → LcG (Itl K p) (gName 3) tYes (tOp (rIx K) (tVar 3) (tC (V.int 0))) [3] σ HH Qd := by
    intro HH sH Qd hd σ hσ
    refine lc_ents (K := K) walk_list (fun H' s' => SqL.of (s' _ _ (sH _ _ e1))) (DdAll.same sH _ _ al2) (by rw [al2.length]; omega) (fun _ => true) (fun e => .str (keyD e)) (fun _ _ _ => rfl) (fun e he x H2 R s2 dd q => q H2 (Same.refl H2)) (fun e he _ x H2 R s2 dd q => ?_) (fun D H' rs n s e a => hd D H' rs n s e (by rw [List.filter_eq_self.mpr fun _ _ => rfl] at a; exact a))
    obtain ⟨b1, p1, k1, n, o, v, d, E1⟩ := ent_at dd (gg.all e he)
    have x1 := E1.x
    subst x1
    have w1 := E1.at_
    have ek := E1.key
    rw [ek] at q
    refine r_op (r_var (List.getElem?_set_self hσ) (r_c (r_ixT w1 (at0 _ _) ?_)))
    exact q _ H2 (Same.refl H2) (.str _)
  refine keysL s14 (fun D H5 rs n5 s5 e5 al5 => ?_) _ (by show 3 < 8; decide)
  have mm : (es'.map fun e => PyData.str (keyD e)) = (es'.map keyD).map PyData.str := by rw [List.map_map]; rfl
  have kc := lst_cmp (str_cmp (es'.map keyD))
  rw [mm] at al5
  refine r_neSame (.lst (s5 _ _ e4) (dd_sstr _)) (.lst e5 al5) kc.1 kc.2 ?_
  walk_at "tx"
  have s15 := s14.trans s5
  refine r_meth ?_
  walk_at "tx"
  refine ⟨a, dx, _, rfl, s15 _ _ c1, tab_no d (by decide), ?_⟩
  walk_at "tx"
  refine ⟨a, fs, rfl, ca1.same s15, fun ks6 L6 H6 pm6 st6 n6 s6 e6 => ?_⟩
  have ek6 : ks6 = es'.map keyD := key_sort so2 pm6 st6
  subst ek6
  dsimp only
  walk_at "tx"
  refine ⟨.inl ⟨rfl, _, .inl (.inl e6)⟩, ?_⟩
  walk_at "tx"
  have lks : ((es'.map keyD).map V.str).length ≤ 100 := by rw [List.length_map, List.length_map]; omega
  refine ⟨L6, _, _, rfl, rfl, e6, sz_lt (by omega), ?_⟩
  have s17 : Same H1 (upd H6 L6 (.lst ((es'.map keyD).map V.str ++ [V.str "k"]))) := by
    refine Same.mut (s15.trans s6) ?_
    cases z : H1 L6 with
    | none => rfl
    | some o => rw [s15 _ _ z] at n6; cases n6
  generalize upd H6 L6 (.lst ((es'.map keyD).map V.str ++ [V.str "k"])) = H7 at s17 ⊢
  dsimp only
  walk_at "tx"
  refine ⟨a, dx, _, rfl, s17 _ _ c1, a, fs, rfl, ca1.same s17, fs.length, rfl, by omega, ?_⟩
  walk_at "tx"
  have eL7 : H7 L = some (.lst xs) := s17 _ _ (s1 _ _ eL)
  walk_at "tx"
  have le : fs.length = xs.length := by rw [pm.length_eq, al.length]
  rw [le, decide_eq_true rfl]
  refine iteF ?_
  walk_at "tx"
  refine r_meth ?_
  walk_at "tx"
  refine ⟨a, dx, _, rfl, s17 _ _ c1, tab_no d (by decide), ?_⟩
  walk_at "tx"
  refine ⟨a, fs, rfl, ca1.same s17, fun ks8 L8 H8 pm8 st8 n8 s8 e8 => ?_⟩
  have ek8 : ks8 = es'.map keyD := key_sort so2 pm8 st8
  subst ek8
  have s18 := s17.trans s8
  walk_at "tx"
  refine ⟨p, rfl, ⟨_, SqL.of (s18 _ _ e1)⟩, ?_⟩
  refine keysL s18 (fun D9 H9 rs9 n9 s9 e9 al9 => ?_) _ (by show 3 < 8; decide)
  rw [mm] at al9
  refine r_neSame (.lst (s9 _ _ e8) (dd_sstr _)) (.lst e9 al9) kc.1 kc.2 ?_
  walk_at "tx"
  have s19 := s18.trans s9
  have eL9 : H9 L = some (.lst xs) := s19 _ _ (s1 _ _ eL)
  have al19 : DdAll K H9 xs es := DdAll.same (s1.trans s19) _ _ al
  have ca9 := ca1.same s19
  have a9 := s19 _ _ c1
  have findG : ∀ e ∈ es, findE fs (keyD e) = some e := fun e he => findE_mem hgf.nd (pm.mem_iff.mpr he)
  refine ⟨L, rfl, ⟨_, SqL.of eL9⟩, ?_⟩
  refine for_data eL9 (fun σ => ∃ o3 o4 o5 o6 o7 : Option V, σ = [some (.ref a), some (.ref L), some (.ref p), o3, o4, o5, o6, o7]) ⟨_, _, _, _, _, rfl⟩ (fun v hv σ H10 hσ s10 => ?_) (fun σ H10 hσ s10 => ?_)
  · obtain ⟨o3, o4, o5, o6, o7, rfl⟩ := hσ
    obtain ⟨e, he, dd⟩ := dd_mem (DdAll.same s10 _ _ al19) hv
    have hee := hg.all e he
    obtain ⟨b1, p1, k1, n, o, v1, d1, E1⟩ := ent_at dd hee
    have x1 := E1.x
    subst x1
    have w1 := E1.at_
    have ek := E1.key
    have fe := findG e he
    rw [ek] at fe
    have ew : wordS k1 = true := by
      obtain ⟨k2, _, _, _, rfl, hk, _⟩ := entry_is hee
      rw [← ek]
      exact hk
    have rc := rest_cmp hee
    have re : restD e = .tuple [.tuple [.int n, .str o], d1] := by rw [E1.e]; rfl
    have ve : valOf e = d1 := by rw [E1.e]; rfl
    have ca10 := ca9.same s10
    walk_at "tx"
    refine ⟨a, dx, _, rfl, s10 _ _ a9, a, fs, .str k1, .str k1, rfl, ca10, .str k1, fun k' e' hk hf q H11 s11 d11 => ?_, fun c => ?_⟩
    · cases hk
      rw [fe] at hf
      cases hf
      walk_at "tx"
      refine a_tup (by simp) fun T12 H12 n12 s12 e12 => ?_
      have d12 : Dd K H12 (.ref T12) (restD e) := by
        rw [re]
        exact .tup e12 (.cons (.tup ((s11.trans s12) _ _ E1.st) (.cons (.int _) (.cons (.str _) .nil))) (.cons (Dd.same (s11.trans s12) _ _ E1.val) .nil))
      refine r_neSame (Dd.same s12 _ _ d11) d12 rc.1 rc.2.1 ?_
      walk_at "tx"
      have s112 := s11.trans s12
      refine r_meth ?_
      walk_at "tx"
      refine ⟨a, dx, _, rfl, s112 _ _ (s10 _ _ a9), tab_no d (by decide), ?_⟩
      walk_at "tx"
      refine ⟨a, fs, .str k1, .str k1, rfl, ca10.same s112, .str k1, word_len ew, fun _ k' u H13 hk s13 d13 => ?_, fun c => ?_⟩
      · cases hk
        have sh : showD fs k1 = d1 := by
          unfold showD
          rw [fe]
          exact ve
        rw [sh] at d13
        rw [ve] at rc
        walk_at "tx"
        refine r_neSame d13 (Dd.same (s112.trans s13) _ _ E1.val) rc.2.2.1 rc.2.2.2 ?_
        walk_at "tx"
        have s113 := s112.trans s13
        refine ⟨a, dx, _, rfl, s113 _ _ (s10 _ _ a9), a, fs, .str k1, .str k1, rfl, (ca10.same s113).rd, .str k1, _, rfl, ?_⟩
        walk_at "tx"
        refine ⟨_, _, rfl, rfl, ?_⟩
        have hin : inD fs (.str k1) = true := by
          show (findE fs k1).isSome = true
          rw [fe]; rfl
        rw [hin, decide_eq_true rfl]
        walk_at "tx"
        exact ⟨⟨_, _, _, _, _, rfl⟩, s10.trans s113⟩
      · have c : wordS k1 = false := c
        rw [ew] at c
        cases c
    · have c : (findE fs k1).isSome = false := c
      rw [fe] at c
      cases c
  · obtain ⟨o3, o4, o5, o6, o7, rfl⟩ := hσ
    have ca10 := ca9.same s10
    have fo : findE fs (Str.ofString "other") = none := by
      cases q : findE fs (Str.ofString "other") with
      | none => rfl
      | some e =>
        obtain ⟨m1, m2⟩ := findE_some q
        have := (hdr e (pm.mem_iff.mp m1)).2.2.2.1
        rw [m2] at this
        exact absurd this other_not
    walk_at "tx"
    refine ⟨a, dx, _, rfl, s10 _ _ a9, a, fs, .str (Str.ofString "other"), .str (Str.ofString "other"), rfl, ca10.rd, .str _, _, rfl, ?_⟩
    have hin : inD fs (.str (Str.ofString "other")) = false := by
      show (findE fs (Str.ofString "other")).isSome = false
      rw [fo]; rfl
    rw [hin]
    refine ⟨_, rfl, ?_⟩
    refine iteT ?_
    walk_at "tx"
    refine r_meth ?_
    walk_at "tx"
    refine ⟨a, dx, _, rfl, s10 _ _ a9, tab_no d (by decide), ?_⟩
    walk_at "tx"
    refine ⟨a, fs, .str (Str.ofString "other"), .str (Str.ofString "other"), rfl, ca10, .str _, word_len other_word, fun _ k' u H13 hk s13 d13 => ?_, fun c => ?_⟩
    · cases hk
      have sh : showD fs (Str.ofString "other") = .none := by
        unfold showD
        rw [fo]
      rw [sh] at d13
      cases d13
      walk_at "tx"
      exact k H13 (s1.trans (s19.trans (s10.trans s13)))
    · rw [other_word] at c
      cases c
end
end K05

set_option Elab.async false
set_option linter.all false
set_option maxRecDepth 100000
set_option maxHeartbeats 4000000
namespace K05
open PySem PySem.Spec PyProof.Rows L2 Tk Ts CwR
local macro_rules | `(tactic| walk_at "rd1") => `(tactic| first
  | with_reducible refine r_seq ?_
  | ((with_reducible refine r_var (v := ?vv) ?hrv ?_); (case hrv => rfl))
  | with_reducible refine r_c ?_
  | with_reducible refine r_op ?_
  | ((with_reducible refine r_ixL (xs := ?xx) (v := ?vv) ?hh ?he ?_); (case hh => first | assumption | exact upd_same); (case he => rfl))
  | with_reducible refine r_asg ?_
  | with_reducible refine r_sub ?_
  | ((with_reducible refine r_gTup (xs := ?xx) ?hh ?he ?_); (case hh => assumption); (case he => rfl))
  | with_reducible refine r_gCons ?_
  | with_reducible refine r_gNil ?_
  | ((with_reducible refine r_setL (xs := ?xx) (j := ?vv) ?hh ?he ?_); (case hh => first | assumption | exact upd_same); (case he => rfl))
  | with_reducible refine r_pow15 ?_
  | with_reducible refine r_pow18 ?_
  | with_reducible refine r_repr ?_
  | with_reducible refine iteT ?_
  | with_reducible refine iteF ?_
  | with_reducible refine r_cons ?_
  | with_reducible refine r_nil ?_
  | with_reducible refine r_call ?_
  | with_reducible refine r_cb ?_
  | with_reducible refine r_ret ?_
  | with_reducible refine r_gName ?_
  | with_reducible refine r_next ?_
  | with_reducible refine r_ifS ?_
  | with_reducible refine r_un ?_
  | with_reducible refine r_U ?_
  | with_reducible refine r_max2 ?_
  | with_reducible refine r_min2 ?_
  | with_reducible refine r_sl ?_
  | with_reducible refine r_noPart ?_
  | with_reducible refine r_part ?_
  | with_reducible refine r_inti ?_
  | with_reducible refine r_lc ?_
  | with_reducible refine r_for ?_
  | with_reducible refine r_rng1 ?_
  | with_reducible refine r_iList ?_
  | with_reducible refine r_iTup ?_
  | with_reducible refine r_iStr ?_
  | with_reducible refine r_strx ?_
  | ((with_reducible refine r_j ?hh ?hi ?_); (case hh => omega); (case hi => omega))
  | with_reducible refine r_m1 ?_
  | with_reducible refine r_test ?_
  | with_reducible refine r_B ?_
  | with_reducible refine r_not ?_
  | with_reducible refine r_and ?_
  | with_reducible refine r_or ?_
  | with_reducible refine r_andV ?_
  | with_reducible refine r_orV ?_
  | with_reducible refine r_notV ?_
  | with_reducible refine r_if ?_
  | with_reducible refine r_chain ?_
  | with_reducible refine r_lst ?_
  | with_reducible refine r_tup ?_
  | with_reducible refine r_k ?_
  | ((with_reducible refine r_isiS (d := ?dd) ?hh ?_); (case hh => assumption))
  | ((with_reducible refine r_isiT (d := ?dd) ?hh ?_); (case hh => assumption))
  | ((with_reducible refine r_isiI (d := ?dd) ?hh ?_); (case hh => assumption))
  | ((with_reducible refine r_isiB (d := ?dd) ?hh ?_); (case hh => assumption))
  | ((with_reducible refine r_lenS ?hh ?_); (case hh => assumption))
  | ((with_reducible refine r_lenT (xs := ?dd) ?hh ?_); (case hh => assumption))
  | ((with_reducible refine r_ixT (xs := ?xx) (v := ?vv) ?hh ?he ?_); (case hh => assumption); (case he => rfl))
  | with_reducible refine r_isN ?_
  | with_reducible refine r_I0 ?_
  | with_reducible refine g_addI ?_
  | ((with_reducible refine r_mod ?hh ?_); (case hh => first | decide | omega))
  | ((with_reducible refine r_div ?hh ?hi ?_); (case hh => first | decide | omega); (case hi => first | decide | omega))
  | ((with_reducible refine g_mulB ?hh ?hi ?_); (case hh => omega); (case hi => omega))
  | with_reducible refine g_ltI ?_
  | with_reducible refine g_leI ?_
  | with_reducible refine g_gtI ?_
  | with_reducible refine g_geI ?_
  | with_reducible refine g_eqI ?_
  | with_reducible refine g_neI ?_
  | with_reducible refine g_eqS ?_
  | with_reducible refine g_neS ?_
  | with_reducible refine g_leS ?_
  | with_reducible refine g_ltS ?_)
local macro_rules | `(tactic| walk_at "rd") => `(tactic| repeat (walk_at "rd1"))
local macro_rules | `(tactic| walk_at "ed") => `(tactic| repeat first
  | exact ed_int
  | exact ed_str
  | exact ed_bl
  | exact ed_non
  | exact ed_nil
  | exact ed_dct
  | exact ed_neg
  | with_reducible apply ed_cons
  | with_reducible apply ed_tup
  | with_reducible apply ed_lst
  | exact Nat.le_of_ble_eq_true rfl)
local macro_rules | `(tactic| walk_at "tx1") => `(tactic| first
  | walk_at "rd1"
  | with_reducible refine r_callS ?_
  | with_reducible refine r_drop ?_
  | with_reducible refine r_zipA ?_
  | with_reducible refine r_par ?_
  | with_reducible refine r_pair ?_
  | with_reducible refine r_pow6 ?_
  | with_reducible refine r_m0 ?_
  | with_reducible refine r_bm ?_
  | with_reducible refine r_isS ?_
  | with_reducible refine r_told ?_
  | with_reducible refine r_js ?_
  | with_reducible refine r_jsNil ?_
  | with_reducible refine r_repl ?_
  | ((with_reducible refine r_gLst (xs := ?xx) ?hh ?he ?_); (case hh => assumption); (case he => rfl))
  | ((with_reducible refine r_lenL (xs := ?xx) ?hh ?_); (case hh => assumption)))
local macro_rules | `(tactic| walk_at "tx") => `(tactic| repeat (walk_at "tx1"))
/-- what a clause asks of the error's class -/
structure ExcV (K : PySem.W.Frag) (mg : Str → Option Value) (x : Str) (C : Addr) : Prop where
  gC : mg x = some (.ref C)
  xf : XfC K C
  nv : PySem.W.findIn K (.ref C) "value" = some none
/-- the classes, beside one another -/
structure Three (K : PySem.W.Frag) (CE CK CN CT0 : Addr) : Prop where
  e1 : PySem.W.exmOne K (.ref CE) (.ref CE) = some true
  e2 : PySem.W.exmOne K (.ref CK) (.ref CE) = some false
  e3 : PySem.W.exmOne K (.ref CK) (.ref CK) = some true
  e4 : PySem.W.exmOne K (.ref CN) (.ref CE) = some false
  e5 : PySem.W.exmOne K (.ref CN) (.ref CK) = some false
  e6 : PySem.W.exmOne K (.ref CN) (.ref CN) = some true
  s1 : PySem.W.subIn K (.ref CE) (.ref CT0) = some true
  s2 : PySem.W.subIn K (.ref CK) (.ref CT0) = some true
  s3 : PySem.W.subIn K (.ref CN) (.type "KeyError") = some true
  t0 : PySem.W.typeIn K (.ref CT0) = some (.type "type")
  d0 : PySem.W.hasDictIn K CT0 = true
def Ech3 (K : PySem.W.Frag) (CE CK CN : Addr) (Q : VK) : XK := fun cls od H' => ∃ (dd : Addr) (v : V) (d : PyData) (w : Str), od = some dd ∧ H' dd = some (.xd (valF v)) ∧ Dd K H' v d ∧ Shows d ∧ ((cls = .ref CE ∧ w = "entries") ∨ (cls = .ref CK ∧ w = "key") ∨ (cls = .ref CN ∧ w = "none")) ∧
  ∀ p H'', Same H' H'' → Dd K H'' p (.list [.str w, .str d.shown, .bool true]) → Q p H''
def TTref (K : PySem.W.Frag) (CE CK CN : Addr) : (XK → Hp → VK → Prop) → Hp → VK → Prop := fun tl H Q => tl (Ech3 K CE CK CN Q) H fun _ H' => ∃ v, (some (some V.non) : Option (Option V)) = some (some v) ∧ Q v H'
section
variable {t1 t2 t3 : Tok} {X : Cx} {CE CK CN CT0 g : Addr} {cdg : Value} {q : Str} {k : Nat}
theorem typ_key : typeOf (.type "KeyError") = pure (.type "type") := by kernel_rfl
abbrev s_L_refused : Stmt := top 24
abbrev n_L_refused : List Str := ["_law_call", "_law_kept", "e"]
abbrev p_L_refused : List Str := ["_law_call"]
theorem sc_L_refused : FnScope n_L_refused p_L_refused (defScope s_L_refused) := ⟨rfl, rfl, rfl, by decide +kernel, rfl, by decide +kernel, by decide +kernel⟩
theorem refused_gives (T : Txt X.mg t1 t2 t3) (XC_BadEntries : ExcV X.K X.mg "BadEntries" CE) (XC_BadKey : ExcV X.K X.mg "BadKey" CK) (XC_NoEntry : ExcV X.K X.mg "NoEntry" CN) (TH : Three X.K CE CK CN CT0) (hTE : X.mg "TombError" = some (.ref CT0)) (zKE : X.mg "KeyError" = none) (gd : X.A.guards = some []) (hrX : Room (k + 1) X.A) :
    LamX.GivesTo X n_L_refused "_law_refused" (defScope s_L_refused) g cdg (defBody s_L_refused) "_law_call" q (TTref X.K CE CK CN) := by
  intro f c' s H Q tl act hc h
  have hr := hrX.deeper (envOfC "_law_refused" (defScope s_L_refused) s.heap.objs.size g cdg)
  have hu := hr.units
  refine ⟨_, (pss_cons (ps_set (i := 1) sc_L_refused.nd rfl (by first | exact Or.inl rfl | exact Or.inr rfl) pe_non)
      (pss_cons (ps_try_ms (out := fun _ _ _ _ => False) rfl rfl sc_L_refused.nd takes0
      (fun W pn xe tk _ => pss_act act tk)
      (.cons (i := 2) ⟨rfl, by decide, Or.inl XC_BadEntries.gC⟩ rfl rfl (fun a oe cls d pn hz hf => (pss_one (ps_set (i := 1) sc_L_refused.nd rfl (by first | exact Or.inl rfl | exact Or.inr rfl) (pe_lst (pa_cons pe_str (pa_cons (pe_callB (call_reprD gd hu) (by rfl) T.z_repr (by decide +kernel) (pa_cons (pe_xf XC_BadEntries.xf XC_BadEntries.nv hz hf (pv 2)) pa_nil)) (pa_cons (pe_callB (call_isE2 hz hf) (by rfl) T.z_isinstance (by decide +kernel) (pa_cons (pv 2) (pa_cons (pe_glob (v := .ref CT0) rfl hTE rfl) pa_nil))) pa_nil)))))))
      (.cons (i := 2) ⟨rfl, by decide, Or.inl XC_BadKey.gC⟩ rfl rfl (fun a oe cls d pn hz hf => (pss_one (ps_set (i := 1) sc_L_refused.nd rfl (by first | exact Or.inl rfl | exact Or.inr rfl) (pe_lst (pa_cons pe_str (pa_cons (pe_callB (call_reprD gd hu) (by rfl) T.z_repr (by decide +kernel) (pa_cons (pe_xf XC_BadKey.xf XC_BadKey.nv hz hf (pv 2)) pa_nil)) (pa_cons (pe_callB (call_isE2 hz hf) (by rfl) T.z_isinstance (by decide +kernel) (pa_cons (pv 2) (pa_cons (pe_glob (v := .ref CT0) rfl hTE rfl) pa_nil))) pa_nil)))))))
      (.cons (i := 2) ⟨rfl, by decide, Or.inl XC_NoEntry.gC⟩ rfl rfl (fun a oe cls d pn hz hf => (pss_one (ps_set (i := 1) sc_L_refused.nd rfl (by first | exact Or.inl rfl | exact Or.inr rfl) (pe_lst (pa_cons pe_str (pa_cons (pe_callB (call_reprD gd hu) (by rfl) T.z_repr (by decide +kernel) (pa_cons (pe_xf XC_NoEntry.xf XC_NoEntry.nv hz hf (pv 2)) pa_nil)) (pa_cons (pe_callB (call_isE2 hz hf) (by rfl) T.z_isinstance (by decide +kernel) (pa_cons (pv 2) (pa_cons (pe_bltn (v := .ty "KeyError") rfl zKE (by decide +kernel) rfl) pa_nil))) pa_nil)))))))
      .nil))))
      (pss_one (ps_ret (pv 1))))), ?_⟩
  walk_at "tx"
  refine ⟨Ech3 X.K CE CK CN Q, fun cls od σ' H' hl he => ?_, rfl, hc, ?_⟩
  · obtain ⟨o0, o1, o2, rfl⟩ : ∃ o0 o1 o2, σ' = [o0, o1, o2] := by
      match σ', hl with
      | [o0, o1, o2], _ => exact ⟨_, _, _, rfl⟩
    obtain ⟨dd, v, d, w, rfl, ed, hd, sh, hw, k2⟩ := he
    have suite : ∀ (C : Addr) (w : Str) (cT : V) (cv : Value), (∀ p H'', Same H' H'' → Dd X.K H'' p (.list [.str w, .str d.shown, .bool true]) → Q p H'') → (∀ u, RelV cT u → u = cv) → (PySem.W.typeIn X.K cv = some (.type "type") ∨ typeOf cv = pure (.type "type")) → ((∃ n, cv = .type n) ∨ ∃ C, cv = .ref C ∧ PySem.W.hasDictIn X.K C = true) → PySem.W.subIn X.K (.ref C) cv = some true → ∀ a : Addr,
        tAsg (tLst (tCons (tC (V.str w)) (tCons (tCB (rReprD X.K) (tCons (tXf a (.ref C) (some dd) C "value" (tVar 2)) tNil)) (tCons (tCB (rIsE2 X.K (.ref C) (some dd) a) (tCons (tVar 2) (tCons (tC cT) tNil))) tNil)))) (gName 1)
          { nx := fun σ' H' => tRet (tVar 1) { nx := fun x H' => Q V.non H', rt := Q } (σ'.set 2 none) H', rt := Q, bk := fun _ _ => False, ct := fun _ _ => False } [o0, o1, some (.ref a)] H' := by
      intro C w cT cv k3 hcv ht hk hs a
      walk_at "tx"
      refine r_xfVar rfl ed ?_
      walk_at "tx"
      refine r_reprD hd sh ?_
      walk_at "tx"
      refine r_isE2 ed hcv ht hk hs ?_
      walk_at "tx"
      refine a_lst (by simp) fun p H3 n3 s3 e3 => ?_
      walk_at "tx"
      exact k3 _ H3 s3 (.lst e3 (.cons (.str _) (.cons (.str _) (.cons (.bl _) .nil))))
    have rT : ∀ u, RelV (V.ref CT0) u → u = .ref CT0 := fun u r => r
    have rK : ∀ u, RelV (V.ty "KeyError") u → u = .type "KeyError" := fun u r => r
    rcases hw with ⟨rfl, rfl⟩ | ⟨rfl, rfl⟩ | ⟨rfl, rfl⟩
    · refine ⟨true, TH.e1, fun _ a na => ?_, fun z => nomatch z⟩
      exact suite CE _ _ _ k2 rT (.inl TH.t0) (.inr ⟨_, rfl, TH.d0⟩) TH.s1 a
    · refine ⟨false, TH.e2, (fun z => nomatch z), fun _ => ⟨true, TH.e3, fun _ a na => ?_, fun z => nomatch z⟩⟩
      exact suite CK _ _ _ k2 rT (.inl TH.t0) (.inr ⟨_, rfl, TH.d0⟩) TH.s2 a
    · refine ⟨false, TH.e4, (fun z => nomatch z), fun _ => ⟨false, TH.e5, (fun z => nomatch z), fun _ => ⟨true, TH.e6, fun _ a na => ?_, fun z => nomatch z⟩⟩⟩
      exact suite CN _ _ _ k2 rK (.inr typ_key) (.inl ⟨_, rfl⟩) TH.s3 a
  · exact h
end
end K05

set_option Elab.async false
set_option linter.all false
set_option maxRecDepth 100000
set_option maxHeartbeats 4000000
/-! x != 'text', x data or {} -/
namespace Tk
open PySem PySem.Spec PyProof.Rows L2 PySem.SeqAt PySem.MeetsSeq
open AutoSeq1 (wpAny_loadPart')
theorem dict_ne_no (l : Addr) (es : Array DictEntry) (ep : Nat) (dd : Option Addr) (sl : Array (Option Value)) (b : Str) (u : Tok) :
    Meets (Builtin.«dict.__ne__» ⟨[.ref l, .str b u], []⟩) (fun _ R s => s.heap.get? l = some { cls := .type "dict", dict := dd, data := .dict es ep, slots := sl } ∧ R (.ok (.ret .notImplemented)) s) := by
  refine .of_wp fun prog w A R s h => ?_
  obtain ⟨hp, g, d, tk, os⟩ := s
  obtain ⟨hl, h⟩ := h
  have f1 := PySem.F.sub_str_dict
  wp_walk using wpAny_loadPart' hl
  exact ⟨_, rfl, h⟩
theorem str_ne_no (b : Str) (u : Tok) (l : Addr) (es : Array DictEntry) (ep : Nat) (dd : Option Addr) (sl : Array (Option Value)) :
    Meets (Builtin.«str.__ne__» ⟨[.str b u, .ref l], []⟩) (fun _ R s => s.heap.get? l = some { cls := .type "dict", dict := dd, data := .dict es ep, slots := sl } ∧ R (.ok (.ret .notImplemented)) s) := by
  refine .of_wp fun prog w A R s h => ?_
  obtain ⟨hp, g, d, tk, os⟩ := s
  obtain ⟨hl, h⟩ := h
  wp_walk using wpAny_loadPart' hl, wpAny_load hl
  exact ⟨_, rfl, h⟩
theorem ne_dict_str {A : Around} {s : Shared} {l : Addr} {o : Obj} {es : Array DictEntry} {ep : Nat} (b : Str) (u : Tok) (ho : s.heap.get? l = some o) (hc : o.cls = .type "dict") (hd : o.data = .dict es ep) (hu : A.units < cLine) : RcNeAt A s (.ref l) (.str b u) true := by
  obtain ⟨cls, dd, data, sl⟩ := o
  simp only at hc hd
  subst hc
  subst hd
  intro prog w E Q h
  refine rc_ne_decline_or (k := false) ⟨_, ho, rfl⟩ (typeIs_str s b u) (by decide) PySem.F.sub_str_dict PySem.F.slot_dict_ne PySem.F.slot_str_ne_refl ?_ ?_ (fun _ hq => wpAny_of_eq (rfl : isSame (.ref l) (.str b u) = pure false) hq) (.inr hu) h
  · intro Q' hq
    exact call_meets PySem.F.slot_dict_ne ⟨_, ho, rfl⟩ PySem.F.entry_dict_ne (PySem.F.args_dict_ne_2 _ _) (dict_ne_no l es ep dd sl b u) ⟨ho, hq⟩
  · intro Q' hq
    exact call_meets PySem.F.slot_str_ne_refl (typeIs_str s b u) PySem.F.entry_str_ne (PySem.F.args_str_ne_2 _ _) (str_ne_no b u l es ep dd sl) ⟨ho, hq⟩
def rNeS (K : PySem.W.Frag) : R2 := fun x y H Q => ∃ d z, Dd K H x d ∧ y = .str z ∧ ((d.plain = true ∧ d.depth ≤ 60) ∨ d = .dict []) ∧ Q (.bl (!PyData.eqv d (.str z))) H
theorem k_neS {X : Cx} {K : PySem.W.Frag} (hu : X.A.units + 64 < cLine) (e : X.K = K := by rfl) : OpR X (compareOp .NotEq) (rNeS K) := by
  subst e
  intro pn s σ H x y v u Q I rx ry h
  obtain ⟨d, z, hd, rfl, hf, q⟩ := h
  rcases hf with ⟨pl, dp⟩ | rfl
  · exact k_neP hu rfl pn s σ H x (.str z) v u Q I rx ry ⟨d, .str z, hd, .str z, pl, rfl, dp, q⟩
  · cases hd with
    | dct e =>
      obtain rfl : v = Value.ref _ := rx
      obtain ⟨t, rfl⟩ := ry
      obtain ⟨_, _, vs, kv, o, es, ep, h1, h2, h3, h4, h5, h6⟩ := (show ObjOk X.prog X.w H s.heap _ (.dK []) from I.hok _ _ e)
      exact ne_dict_str z t h1 h2.1 h3 (by omega) X.prog X.w _ _ ⟨.bl true, H, I, rfl, q⟩
end Tk

set_option Elab.async false
set_option linter.all false
set_option maxRecDepth 100000
set_option maxHeartbeats 4000000
namespace K05
open PySem PySem.Spec PyProof.Rows L2 Tk Ts CwR
local macro_rules | `(tactic| walk_at "rd1") => `(tactic| first
  | with_reducible refine r_seq ?_
  | ((with_reducible refine r_var (v := ?vv) ?hrv ?_); (case hrv => rfl))
  | with_reducible refine r_c ?_
  | with_reducible refine r_op ?_
  | ((with_reducible refine r_ixL (xs := ?xx) (v := ?vv) ?hh ?he ?_); (case hh => first | assumption | exact upd_same); (case he => rfl))
  | with_reducible refine r_asg ?_
  | with_reducible refine r_sub ?_
  | ((with_reducible refine r_gTup (xs := ?xx) ?hh ?he ?_); (case hh => assumption); (case he => rfl))
  | with_reducible refine r_gCons ?_
  | with_reducible refine r_gNil ?_
  | ((with_reducible refine r_setL (xs := ?xx) (j := ?vv) ?hh ?he ?_); (case hh => first | assumption | exact upd_same); (case he => rfl))
  | with_reducible refine r_pow15 ?_
  | with_reducible refine r_pow18 ?_
  | with_reducible refine r_repr ?_
  | with_reducible refine iteT ?_
  | with_reducible refine iteF ?_
  | with_reducible refine r_cons ?_
  | with_reducible refine r_nil ?_
  | with_reducible refine r_call ?_
  | with_reducible refine r_cb ?_
  | with_reducible refine r_ret ?_
  | with_reducible refine r_gName ?_
  | with_reducible refine r_next ?_
  | with_reducible refine r_ifS ?_
  | with_reducible refine r_un ?_
  | with_reducible refine r_U ?_
  | with_reducible refine r_max2 ?_
  | with_reducible refine r_min2 ?_
  | with_reducible refine r_sl ?_
  | with_reducible refine r_noPart ?_
  | with_reducible refine r_part ?_
  | with_reducible refine r_inti ?_
  | with_reducible refine r_lc ?_
  | with_reducible refine r_for ?_
  | with_reducible refine r_rng1 ?_
  | with_reducible refine r_iList ?_
  | with_reducible refine r_iTup ?_
  | with_reducible refine r_iStr ?_
  | with_reducible refine r_strx ?_
  | ((with_reducible refine r_j ?hh ?hi ?_); (case hh => omega); (case hi => omega))
  | with_reducible refine r_m1 ?_
  | with_reducible refine r_test ?_
  | with_reducible refine r_B ?_
  | with_reducible refine r_not ?_
  | with_reducible refine r_and ?_
  | with_reducible refine r_or ?_
  | with_reducible refine r_andV ?_
  | with_reducible refine r_orV ?_
  | with_reducible refine r_notV ?_
  | with_reducible refine r_if ?_
  | with_reducible refine r_chain ?_
  | with_reducible refine r_lst ?_
  | with_reducible refine r_tup ?_
  | with_reducible refine r_k ?_
  | ((with_reducible refine r_isiS (d := ?dd) ?hh ?_); (case hh => assumption))
  | ((with_reducible refine r_isiT (d := ?dd) ?hh ?_); (case hh => assumption))
  | ((with_reducible refine r_isiI (d := ?dd) ?hh ?_); (case hh => assumption))
  | ((with_reducible refine r_isiB (d := ?dd) ?hh ?_); (case hh => assumption))
  | ((with_reducible refine r_lenS ?hh ?_); (case hh => assumption))
  | ((with_reducible refine r_lenT (xs := ?dd) ?hh ?_); (case hh => assumption))
  | ((with_reducible refine r_ixT (xs := ?xx) (v := ?vv) ?hh ?he ?_); (case hh => assumption); (case he => rfl))
  | with_reducible refine r_isN ?_
  | with_reducible refine r_I0 ?_
  | with_reducible refine g_addI ?_
  | ((with_reducible refine r_mod ?hh ?_); (case hh => first | decide | omega))
  | ((with_reducible refine r_div ?hh ?hi ?_); (case hh => first | decide | omega); (case hi => first | decide | omega))
  | ((with_reducible refine g_mulB ?hh ?hi ?_); (case hh => omega); (case hi => omega))
  | with_reducible refine g_ltI ?_
  | with_reducible refine g_leI ?_
  | with_reducible refine g_gtI ?_
  | with_reducible refine g_geI ?_
  | with_reducible refine g_eqI ?_
  | with_reducible refine g_neI ?_
  | with_reducible refine g_eqS ?_
  | with_reducible refine g_neS ?_
  | with_reducible refine g_leS ?_
  | with_reducible refine g_ltS ?_)
local macro_rules | `(tactic| walk_at "rd") => `(tactic| repeat (walk_at "rd1"))
local macro_rules | `(tactic| walk_at "ed") => `(tactic| repeat first
  | exact ed_int
  | exact ed_str
  | exact ed_bl
  | exact ed_non
  | exact ed_nil
  | exact ed_dct
  | exact ed_neg
  | with_reducible apply ed_cons
  | with_reducible apply ed_tup
  | with_reducible apply ed_lst
  | exact Nat.le_of_ble_eq_true rfl)
local macro_rules | `(tactic| walk_at "tx1") => `(tactic| first
  | walk_at "rd1"
  | with_reducible refine r_callS ?_
  | with_reducible refine r_drop ?_
  | with_reducible refine r_zipA ?_
  | with_reducible refine r_par ?_
  | with_reducible refine r_pair ?_
  | with_reducible refine r_pow6 ?_
  | with_reducible refine r_m0 ?_
  | with_reducible refine r_bm ?_
  | with_reducible refine r_isS ?_
  | with_reducible refine r_told ?_
  | with_reducible refine r_js ?_
  | with_reducible refine r_jsNil ?_
  | with_reducible refine r_repl ?_
  | ((with_reducible refine r_gLst (xs := ?xx) ?hh ?he ?_); (case hh => assumption); (case he => rfl))
  | ((with_reducible refine r_lenL (xs := ?xx) ?hh ?_); (case hh => assumption)))
local macro_rules | `(tactic| walk_at "tx") => `(tactic| repeat (walk_at "tx1"))
section
variable {t1 t2 t3 : Tok} {P : Program} {w : World} {K : PySem.W.Frag} {mg : Str → Option Value} {base : Heap}
/-- what Content() refuses -/
structure Odd (d : PyData) : Prop where
  sh : Shows d
  ok : okD d
  bad : areD d = false
  few : ∀ ds, d = .list ds ∨ d = .tuple ds → ds.length ≤ 60
/-- what is asked of a content -/
structure Ask (d : PyData) : Prop where
  sh : Shows d
  ok : okD d
  cmp : (d.plain = true ∧ d.depth ≤ 60) ∨ d = .dict []
theorem dr_itm {e : PyData} (h : DrE e) : Itm e := ⟨h.2.1, Nat.le_trans h.2.2.1 (by decide), Nat.le_trans (entry_fl h.1).2.2 (by decide)⟩
def qE : PyData := (.tuple [.str (Str.ofString "q"), .tuple [.int (1), .str (Str.ofString "ann")], .none] : PyData)
theorem q_dr : entryD qE = true ∧ Itm qE ∧ keyD qE = "q" := ⟨by decide +kernel, itm_of (by decide +kernel), rfl⟩
theorem q_far : (Str.ofString "q") ∉ keysL := by decide +kernel
/-- entries with one more -/
theorem more_good {es : List PyData} (g : Tk.GoodE es) (dr : ∀ e ∈ es, DrE e) : Tk.GoodE (es ++ [qE]) := by
  refine ⟨fun e he => ?_, ?_⟩
  · rcases List.mem_append.mp he with he | he
    · exact g.all e he
    · rw [List.mem_singleton.mp he]; exact q_dr.1
  · rw [List.map_append, List.nodup_append]
    refine ⟨g.nd, by simp, fun x hx y hy => ?_⟩
    obtain ⟨e, he, rfl⟩ := List.mem_map.mp hx
    rintro rfl
    have ey : keyD e = Str.ofString "q" := by
      rw [List.map_cons, List.map_nil, List.mem_singleton] at hy
      exact hy
    exact q_far (ey ▸ (dr e he).2.2.2.1)
theorem more_itm {es : List PyData} (dr : ∀ e ∈ es, DrE e) : ∀ e ∈ es ++ [qE], Itm e := fun e he => by
  rcases List.mem_append.mp he with he | he
  · exact dr_itm (dr e he)
  · rw [List.mem_singleton.mp he]; exact q_dr.2.1
theorem are_list {ds : List PyData} : areD (.list ds) = (ds.all entryD && decide ((ds.map keyD).Nodup)) := rfl
/-- with one that is spoilt -/
theorem odd_more {es : List PyData} (hl : es.length ≤ 6) (dr : ∀ e ∈ es, DrE e) {x : PyData} (ix : Itm x) (hx : entryD x = false ∨ keyD x = keyD qE) : Odd (.list ((es ++ [qE]) ++ [x])) := by
  have it : ∀ e ∈ (es ++ [qE]) ++ [x], Itm e := fun e he => by
    rcases List.mem_append.mp he with he | he
    · exact more_itm dr e he
    · rw [List.mem_singleton.mp he]; exact ix
  have ll : ((es ++ [qE]) ++ [x]).length ≤ 60 := by simp; omega
  have g := good_list it ll
  refine ⟨g.shows, g.ok, ?_, fun ds h => ?_⟩
  · rw [are_list, Bool.and_eq_false_iff]
    rcases hx with hx | hx
    · left
      rw [List.all_append, Bool.and_eq_false_iff]
      right
      simp [hx]
    · right
      rw [decide_eq_false_iff_not]
      intro nd
      rw [List.map_append, List.nodup_append] at nd
      exact nd.2.2 (keyD qE) (by simp) (keyD x) (by simp) hx.symm
  · rcases h with h | h
    · cases h; exact ll
    · cases h
def x1 : PyData := (.tuple [.str (Str.ofString "q"), .tuple [.int (2), .str (Str.ofString "bob")], .str (Str.ofString "x")] : PyData)
def x2 : PyData := (.tuple [.str (Str.ofString "r"), .tuple [.int (0), .str (Str.ofString "ann")], .str (Str.ofString "x")] : PyData)
theorem xs_odd : (Itm x1 ∧ (entryD x1 = false ∨ keyD x1 = keyD qE)) ∧ (Itm x2 ∧ (entryD x2 = false ∨ keyD x2 = keyD qE)) ∧ (Itm (.str "r") ∧ (entryD (.str "r") = false ∨ keyD (.str "r") = keyD qE)) ∧ (Itm .none ∧ (entryD .none = false ∨ keyD .none = keyD qE)) :=
  ⟨⟨itm_of (by decide +kernel), .inr rfl⟩, ⟨itm_of (by decide +kernel), .inl (by decide +kernel)⟩, ⟨itm_of (by decide +kernel), .inl rfl⟩, ⟨itm_of (by decide +kernel), .inl rfl⟩⟩
theorem odd_in {es : List PyData} (hl : es.length ≤ 6) (dr : ∀ e ∈ es, DrE e) : Odd (.list [.list (es ++ [qE])]) := by
  have g := good_list (more_itm dr) (by simp; omega)
  have w1 := wtAll_le (n := 120) fun d hd => (more_itm dr d hd).wt
  have d1 := depthAll_le (n := 3) fun d hd => (more_itm dr d hd).deep
  have ln : (es ++ [qE]).length ≤ 7 := by simp; omega
  have m := Nat.mul_le_mul_right (120 + 2) ln
  have g2 : Good (.list [.list (es ++ [qE])]) := by
    refine ⟨?_, ?_, ?_⟩
    · show (tame (.list (es ++ [qE])) && true) = true
      rw [g.tame]; rfl
    · show ((wtAll (es ++ [qE]) + 2) + 2 + 0) + 2 ≤ _
      omega
    · show max (PyData.depthAll (es ++ [qE]) + 1) 0 + 1 ≤ 50
      omega
  refine ⟨g2.shows, g2.ok, rfl, fun ds h => ?_⟩
  rcases h with h | h
  · cases h; show 1 ≤ 60; decide
  · cases h
/-- the first entry itself -/
theorem odd_first {e : PyData} (he : entryD e = true) (ie : Itm e) : Odd e := by
  refine ⟨ie.good.shows, ie.good.ok, ?_, fun ds h => ?_⟩
  · obtain ⟨k, n, o, v, rfl, _⟩ := entry_is he
    rfl
  · obtain ⟨k, n, o, v, rfl, _⟩ := entry_is he
    rcases h with h | h
    · cases h
    · cases h; show 3 ≤ 60; decide
def oddB (d : PyData) : Bool := !areD d && match d with
  | .dict [] => true
  | .dict _ => false
  | .list ds => itmB d && decide (ds.length ≤ 60)
  | .tuple ds => itmB d && decide (ds.length ≤ 60)
  | _ => itmB d
theorem odd_of {d : PyData} (h : oddB d = true) : Odd d := by
  unfold oddB at h
  rw [Bool.and_eq_true, Bool.not_eq_true'] at h
  obtain ⟨h1, h2⟩ := h
  have lone : itmB d = true → (∀ ds, d = .list ds ∨ d = .tuple ds → ds.length ≤ 60) → Odd d := fun i f => ⟨(itm_of i).good.shows, (itm_of i).good.ok, h1, f⟩
  cases d with
  | list ds =>
    rw [Bool.and_eq_true, decide_eq_true_eq] at h2
    exact lone h2.1 fun ds h => by rcases h with h | h <;> cases h; exact h2.2
  | tuple ds =>
    rw [Bool.and_eq_true, decide_eq_true_eq] at h2
    exact lone h2.1 fun ds h => by rcases h with h | h <;> cases h; exact h2.2
  | dict kvs =>
    cases kvs with
    | nil => exact ⟨⟨.inr rfl, rfl, by decide, by decide⟩, trivial, h1, fun ds h => by rcases h with h | h <;> cases h⟩
    | cons _ _ => cases h2
  | none => exact lone h2 fun ds h => by rcases h with h | h <;> cases h
  | bool _ => exact lone h2 fun ds h => by rcases h with h | h <;> cases h
  | int _ => exact lone h2 fun ds h => by rcases h with h | h <;> cases h
  | str _ => exact lone h2 fun ds h => by rcases h with h | h <;> cases h
def askB : PyData → Bool
  | .dict [] => true
  | .dict _ => false
  | d => itmB d
theorem ask_of {d : PyData} (h : askB d = true) : Ask d := by
  have lone : itmB d = true → Ask d := fun i => ⟨(itm_of i).good.shows, (itm_of i).good.ok, .inl ⟨(itm_of i).good.plain, Nat.le_trans (itm_of i).deep (by decide)⟩⟩
  cases d with
  | dict kvs =>
    cases kvs with
    | nil => exact ⟨⟨.inr rfl, rfl, by decide, by decide⟩, trivial, .inr rfl⟩
    | cons _ _ => cases h
  | _ => exact lone h
/-! ### two contents that part at their first entry -/
theorem eq_first {n m : PyData} {rest more : List PyData} (h : keyD n = keyD m) (e : PyData.eqv n m = false) : eqTab (n :: rest) (m :: more) = false := by
  unfold eqTab
  rw [Bool.and_eq_false_iff]
  right
  show ((match findE (m :: more) (keyD n) with | some f => PyData.eqv n f | none => false) && tabAll (m :: more) rest) = false
  rw [findE_cons, if_pos h.symm]
  show (PyData.eqv n m && tabAll (m :: more) rest) = false
  rw [e]
  rfl
end
end K05

set_option Elab.async false
set_option linter.all false
set_option maxRecDepth 100000
set_option maxHeartbeats 4000000
namespace K05
open PySem PySem.Spec PyProof.Rows L2 Tk Ts CwR
local macro_rules | `(tactic| walk_at "rd1") => `(tactic| first
  | with_reducible refine r_seq ?_
  | ((with_reducible refine r_var (v := ?vv) ?hrv ?_); (case hrv => rfl))
  | with_reducible refine r_c ?_
  | with_reducible refine r_op ?_
  | ((with_reducible refine r_ixL (xs := ?xx) (v := ?vv) ?hh ?he ?_); (case hh => first | assumption | exact upd_same); (case he => rfl))
  | with_reducible refine r_asg ?_
  | with_reducible refine r_sub ?_
  | ((with_reducible refine r_gTup (xs := ?xx) ?hh ?he ?_); (case hh => assumption); (case he => rfl))
  | with_reducible refine r_gCons ?_
  | with_reducible refine r_gNil ?_
  | ((with_reducible refine r_setL (xs := ?xx) (j := ?vv) ?hh ?he ?_); (case hh => first | assumption | exact upd_same); (case he => rfl))
  | with_reducible refine r_pow15 ?_
  | with_reducible refine r_pow18 ?_
  | with_reducible refine r_repr ?_
  | with_reducible refine iteT ?_
  | with_reducible refine iteF ?_
  | with_reducible refine r_cons ?_
  | with_reducible refine r_nil ?_
  | with_reducible refine r_call ?_
  | with_reducible refine r_cb ?_
  | with_reducible refine r_ret ?_
  | with_reducible refine r_gName ?_
  | with_reducible refine r_next ?_
  | with_reducible refine r_ifS ?_
  | with_reducible refine r_un ?_
  | with_reducible refine r_U ?_
  | with_reducible refine r_max2 ?_
  | with_reducible refine r_min2 ?_
  | with_reducible refine r_sl ?_
  | with_reducible refine r_noPart ?_
  | with_reducible refine r_part ?_
  | with_reducible refine r_inti ?_
  | with_reducible refine r_lc ?_
  | with_reducible refine r_for ?_
  | with_reducible refine r_rng1 ?_
  | with_reducible refine r_iList ?_
  | with_reducible refine r_iTup ?_
  | with_reducible refine r_iStr ?_
  | with_reducible refine r_strx ?_
  | ((with_reducible refine r_j ?hh ?hi ?_); (case hh => omega); (case hi => omega))
  | with_reducible refine r_m1 ?_
  | with_reducible refine r_test ?_
  | with_reducible refine r_B ?_
  | with_reducible refine r_not ?_
  | with_reducible refine r_and ?_
  | with_reducible refine r_or ?_
  | with_reducible refine r_andV ?_
  | with_reducible refine r_orV ?_
  | with_reducible refine r_notV ?_
  | with_reducible refine r_if ?_
  | with_reducible refine r_chain ?_
  | with_reducible refine r_lst ?_
  | with_reducible refine r_tup ?_
  | with_reducible refine r_k ?_
  | ((with_reducible refine r_isiS (d := ?dd) ?hh ?_); (case hh => assumption))
  | ((with_reducible refine r_isiT (d := ?dd) ?hh ?_); (case hh => assumption))
  | ((with_reducible refine r_isiI (d := ?dd) ?hh ?_); (case hh => assumption))
  | ((with_reducible refine r_isiB (d := ?dd) ?hh ?_); (case hh => assumption))
  | ((with_reducible refine r_lenS ?hh ?_); (case hh => assumption))
  | ((with_reducible refine r_lenT (xs := ?dd) ?hh ?_); (case hh => assumption))
  | ((with_reducible refine r_ixT (xs := ?xx) (v := ?vv) ?hh ?he ?_); (case hh => assumption); (case he => rfl))
  | with_reducible refine r_isN ?_
  | with_reducible refine r_I0 ?_
  | with_reducible refine g_addI ?_
  | ((with_reducible refine r_mod ?hh ?_); (case hh => first | decide | omega))
  | ((with_reducible refine r_div ?hh ?hi ?_); (case hh => first | decide | omega); (case hi => first | decide | omega))
  | ((with_reducible refine g_mulB ?hh ?hi ?_); (case hh => omega); (case hi => omega))
  | with_reducible refine g_ltI ?_
  | with_reducible refine g_leI ?_
  | with_reducible refine g_gtI ?_
  | with_reducible refine g_geI ?_
  | with_reducible refine g_eqI ?_
  | with_reducible refine g_neI ?_
  | with_reducible refine g_eqS ?_
  | with_reducible refine g_neS ?_
  | with_reducible refine g_leS ?_
  | with_reducible refine g_ltS ?_)
local macro_rules | `(tactic| walk_at "rd") => `(tactic| repeat (walk_at "rd1"))
local macro_rules | `(tactic| walk_at "ed") => `(tactic| repeat first
  | exact ed_int
  | exact ed_str
  | exact ed_bl
  | exact ed_non
  | exact ed_nil
  | exact ed_dct
  | exact ed_neg
  | with_reducible apply ed_cons
  | with_reducible apply ed_tup
  | with_reducible apply ed_lst
  | exact Nat.le_of_ble_eq_true rfl)
local macro_rules | `(tactic| walk_at "tx1") => `(tactic| first
  | walk_at "rd1"
  | with_reducible refine r_callS ?_
  | with_reducible refine r_drop ?_
  | with_reducible refine r_zipA ?_
  | with_reducible refine r_par ?_
  | with_reducible refine r_pair ?_
  | with_reducible refine r_pow6 ?_
  | with_reducible refine r_m0 ?_
  | with_reducible refine r_bm ?_
  | with_reducible refine r_isS ?_
  | with_reducible refine r_told ?_
  | with_reducible refine r_js ?_
  | with_reducible refine r_jsNil ?_
  | with_reducible refine r_repl ?_
  | ((with_reducible refine r_gLst (xs := ?xx) ?hh ?he ?_); (case hh => assumption); (case he => rfl))
  | ((with_reducible refine r_lenL (xs := ?xx) ?hh ?_); (case hh => assumption)))
local macro_rules | `(tactic| walk_at "tx") => `(tactic| repeat (walk_at "tx1"))
section
variable {t1 t2 t3 : Tok} {P : Program} {w : World} {K : PySem.W.Frag} {mg : Str → Option Value} {base : Heap}
theorem len_le {x : Str} {n : Nat} (h : (x.length : Int) ≤ n) : x.length ≤ n := by omega
theorem ent_ok {e : PyData} (h : entryD e = true) : okD e := by
  obtain ⟨k, n, o, v, rfl, hk, _, _, ho, hv⟩ := entry_is h
  have w8 : ∀ x : Str, wordS x = true → x.length ≤ 100000 := fun x hx => by
    unfold wordS at hx
    rw [Bool.and_eq_true, Bool.and_eq_true, decide_eq_true_eq, decide_eq_true_eq] at hx
    omega
  refine ⟨by show 3 ≤ 100000; decide, w8 k hk, ⟨by show 2 ≤ 100000; decide, trivial, w8 o ho, trivial⟩, ?_, trivial⟩
  rcases hv with hv | hv
  · cases v <;> first | trivial | cases hv
  · cases v with
    | str x =>
      show x.length ≤ 100000
      have hv : valueS x = true := hv
      unfold valueS at hv
      rw [Bool.and_eq_true, Bool.not_eq_true', decide_eq_false_iff_not] at hv
      omega
    | _ => cases hv
theorem ents_ok {es : List PyData} (g : GoodE es) : okAll es := okAll_iff.mpr fun e he => ent_ok (g.all e he)
theorem good_are {es : List PyData} (g : GoodE es) {d : PyData} (h : d = .list es ∨ d = .tuple es) : areD d = true := by
  have : (es.all entryD && decide ((es.map keyD).Nodup)) = true := by
    rw [decide_eq_true g.nd, Bool.and_true]
    exact List.all_eq_true.mpr g.all
  rcases h with rfl | rfl <;> exact this
/-- Content(es), es right -/
theorem mk_at {C CB : Addr} {vs : List V} {H1 : Hp} {Q : Addr → Hp → Prop} {E : XK} (h : ∃ v d es, vs = [v] ∧ Dd K H1 v d ∧ (d = .list es ∨ d = .tuple es) ∧ GoodE es ∧ es.length ≤ 60 ∧ ∀ c H', Same H1 H' → ContAt K C H' c es → Q c H') :
    ∀ x dx, H1 x = none → H1 dx = none → dx ≠ x → spInit K C CB (.ref x :: (vs ++ [])) (upd (upd H1 dx (.own x)) x (.ins C dx [])) (fun v H2 => v = .non ∧ Q x H2) E := by
  obtain ⟨v, d, es, rfl, hd, hs, g, hl, k⟩ := h
  intro x dx nx ndx ne
  have s1 : Same H1 (upd (upd H1 dx (.own x)) x (.ins C dx [])) := fun b o e => by
    rw [upd_ne (ne_of_none e nx), upd_ne (ne_of_none e ndx)]
    exact e
  refine ⟨x, dx, v, d, rfl, upd_same, Dd.same s1 _ _ hd, ?_, ?_, ?_, ?_⟩
  · rcases hs with rfl | rfl
    · exact ⟨by omega, ents_ok g⟩
    · exact ⟨by omega, ents_ok g⟩
  · intro ds hds
    rcases hs with rfl | rfl <;> rcases hds with hds | hds <;> cases hds <;> exact hl
  · intro _ fs H' hfs kept ct
    have e : fs = es := by rcases hs with rfl | rfl <;> rcases hfs with hfs | hfs <;> cases hfs <;> rfl
    subst e
    exact ⟨rfl, k x H' (fun b o e => kept b o (s1 b o e) (ne_of_none e nx)) ct⟩
  · intro z
    rw [good_are g hs] at z
    cases z
/-- Content(v), v wrong -/
theorem mk_bad {C CB : Addr} {v : V} {d : PyData} {H1 : Hp} {Q : Addr → Hp → Prop} {E : XK} (hd : Dd K H1 v d) (o : Odd d) (k : ∀ dd H', Same H1 H' → H' dd = some (.xd (valF v)) → E (.ref CB) (some dd) H') :
    ∀ x dx, H1 x = none → H1 dx = none → dx ≠ x → spInit K C CB (.ref x :: ([v] ++ [])) (upd (upd H1 dx (.own x)) x (.ins C dx [])) (fun v H2 => v = .non ∧ Q x H2) E := by
  intro x dx nx ndx ne
  have s1 : Same H1 (upd (upd H1 dx (.own x)) x (.ins C dx [])) := fun b o e => by
    rw [upd_ne (ne_of_none e nx), upd_ne (ne_of_none e ndx)]
    exact e
  refine ⟨x, dx, v, d, rfl, upd_same, Dd.same s1 _ _ hd, o.ok, o.few, fun z => ?_, fun _ dd H' _ s' e => k dd H' (s1.trans s') e⟩
  rw [o.bad] at z
  cases z
theorem r_neC {C : Addr} {H : Hp} {Q : VK} {E : XK} {a b : Addr} {es fs : List PyData} (ca : ContAt K C H a es) (cb : ContAt K C H b fs) (h : SameE es fs) (q : Q (.bl false) H) : rNeOwn C (spEqA K C) E (.ref a) (.ref b) H Q := by
  have ca' := ca
  have cb' := cb
  obtain ⟨dx, _, _, e1, _, _, g1, _⟩ := ca'
  obtain ⟨dx2, _, _, e2, _, _, g2, _⟩ := cb'
  exact ⟨a, b, dx, dx2, _, _, rfl, rfl, e1, e2, a, b, es, rfl, ca, .inl ⟨fs, cb, true, by rw [eqTab_same h g1 g2], q⟩⟩
/-- == of two contents that are not alike -/
theorem r_eqNo {C : Addr} {H : Hp} {Q : VK} {E : XK} {a b : Addr} {es fs : List PyData} (ca : ContAt K C H a es) (cb : ContAt K C H b fs) (h : eqTab es fs = false) (q : Q (.bl false) H) : rEqAny C (spEqA K C) E (.ref a) (.ref b) H Q := by
  have ca' := ca
  have cb' := cb
  obtain ⟨dx, _, _, e1, _⟩ := ca'
  obtain ⟨dx2, _, _, e2, _⟩ := cb'
  exact ⟨a, b, dx, _, rfl, rfl, e1, .inr (.inr ⟨_, _, e2⟩), a, b, es, rfl, ca, .inl ⟨fs, cb, by rw [h]; exact q⟩⟩
theorem r_eqList {C : Addr} {H : Hp} {Q : VK} {E : XK} {a b : Addr} {es : List PyData} {xs : List V} (ca : ContAt K C H a es) (eb : H b = some (.lst xs)) (q : Q (.bl false) H) : rEqAny C (spEqA K C) E (.ref a) (.ref b) H Q := by
  have ca' := ca
  obtain ⟨dx, _, _, e1, _⟩ := ca'
  exact ⟨a, b, dx, _, rfl, rfl, e1, .inl ⟨_, eb⟩, a, b, es, rfl, ca, .inr (.inl ⟨⟨_, eb⟩, q⟩)⟩
theorem r_eqTup {C : Addr} {H : Hp} {Q : VK} {E : XK} {a b : Addr} {es : List PyData} {xs : List V} (ca : ContAt K C H a es) (eb : H b = some (.tup xs)) (q : Q (.bl false) H) : rEqAny C (spEqA K C) E (.ref a) (.ref b) H Q := by
  have ca' := ca
  obtain ⟨dx, _, _, e1, _⟩ := ca'
  exact ⟨a, b, dx, _, rfl, rfl, e1, .inr (.inl ⟨_, eb⟩), a, b, es, rfl, ca, .inr (.inr ⟨⟨_, eb⟩, q⟩)⟩
theorem dd_rev {H : Hp} : ∀ {xs : List V} {es : List PyData}, DdAll K H xs es → DdAll K H xs.reverse es.reverse
  | _, _, .nil => .nil
  | _, _, .cons h t => by
    rw [List.reverse_cons, List.reverse_cons]
    exact (dd_rev t).append (.cons h .nil)
theorem rev_good {es : List PyData} (g : Tk.GoodE es) : Tk.GoodE es.reverse := ⟨fun e he => g.all e (List.mem_reverse.mp he), ((List.reverse_perm es).map keyD).nodup_iff.mpr g.nd⟩
theorem g_slL {H : Hp} {v : V} {ds : List PyData} {lo hi : Option Int} {Q : VK} (h : Dd K H v (.list ds)) (q : ∀ p xs H2, H p = none → Same H H2 → H2 p = some (.lst xs) → DdAll K H2 xs (Tk.cutD ds lo hi) → Q (.ref p) H2) : GSlice K v lo hi H Q := by
  cases h with
  | lst e al =>
    refine .inl ⟨_, _, rfl, SqL.of e, fun p hp => q p _ _ hp (Same.new hp) upd_same ?_⟩
    unfold cutV Tk.cutD
    rw [al.length]
    exact ((DdAll.same (Same.new hp) _ _ al).drop _).take _
theorem cut_tl (e : PyData) (es : List PyData) : Tk.cutD (e :: es) (some 1) none = es := by
  have i1 : HT.sIx (e :: es).length 0 (some 1) = 1 := by
    unfold HT.sIx
    simp
  unfold Tk.cutD
  rw [i1, HT.sIx_none]
  show ((e :: es).drop 1).take (es.length + 1 - 1) = es
  rw [Nat.add_sub_cancel]
  exact List.take_length
theorem cut_last (es : List PyData) (e : PyData) : Tk.cutD (es ++ [e]) (some (-1)) none = [e] := by
  have i1 : HT.sIx (es ++ [e]).length 0 (some (-1)) = es.length := by
    unfold HT.sIx
    simp
    try omega
  unfold Tk.cutD
  rw [i1, HT.sIx_none, List.drop_left, List.length_append]
  show [e].take (es.length + 1 - es.length) = [e]
  rw [Nat.add_sub_cancel_left]
  rfl
def nearA (k : Str) (n : Int) (o : Str) : PyData := .tuple [.str k, .tuple [.int n, .str o], .str (Str.ofString "other")]
def nearB (k : Str) (d : PyData) : PyData := .tuple [.str k, .tuple [.int 7, .str (Str.ofString "zed")], d]
theorem near_word : wordS (Str.ofString "zed") = true ∧ valueS (Str.ofString "other") = true ∧ (Str.ofString "zed") ∉ homesL ∧ (∀ v ∈ valsL, PyData.eqv (.str (Str.ofString "other")) v = false) := by decide +kernel
theorem near_good {e : PyData} {es : List PyData} (g : Tk.GoodE (e :: es)) {k o : Str} {n : Int} {d : PyData} (he : e = .tuple [.str k, .tuple [.int n, .str o], d]) :
    Tk.GoodE (nearA k n o :: es) ∧ Tk.GoodE (nearB k d :: es) := by
  have nd := g.nd
  have h0 := g.all e List.mem_cons_self
  subst he
  obtain ⟨k2, n2, o2, v2, q, a1, a2, a3, a4, a5⟩ := entry_is h0
  cases q
  have wn : numD (.int n) = true := by
    show (decide (1 ≤ n) && decide (n ≤ 1000000000000000)) = true
    rw [decide_eq_true a2, decide_eq_true a3]; rfl
  have vv : (noneD d || valueD d) = true := by
    rcases a5 with h | h <;> simp [h]
  refine ⟨⟨fun x hx => ?_, nd⟩, ⟨fun x hx => ?_, nd⟩⟩
  · rcases List.mem_cons.mp hx with rfl | hx
    · show (wordS k && ((numD (.int n) && wordS o) && (false || valueS (Str.ofString "other")))) = true
      rw [a1, wn, a4, near_word.2.1]; rfl
    · exact g.all x (List.mem_cons_of_mem _ hx)
  · rcases List.mem_cons.mp hx with rfl | hx
    · show (wordS k && ((numD (.int 7) && wordS (Str.ofString "zed")) && (noneD d || valueD d))) = true
      rw [a1, near_word.1, vv]; rfl
    · exact g.all x (List.mem_cons_of_mem _ hx)
theorem near_eqv {k o : Str} {n : Int} {d : PyData} (ho : o ∈ homesL) (hd : d ∈ valsL) : PyData.eqv (nearA k n o) (.tuple [.str k, .tuple [.int n, .str o], d]) = false ∧ PyData.eqv (nearB k d) (.tuple [.str k, .tuple [.int n, .str o], d]) = false ∧ PyData.eqv (nearA k n o) (nearB k d) = false := by
  have z : (Str.ofString "zed") ≠ o := fun z => near_word.2.2.1 (z ▸ ho)
  have zb : ((Str.ofString "zed") == o) = false := by rw [beq_eq_false_iff_ne]; exact z
  have zc : (o == (Str.ofString "zed")) = false := by rw [beq_eq_false_iff_ne]; exact Ne.symm z
  refine ⟨?_, ?_, ?_⟩
  · show ((k == k) && ((((n == n) && ((o == o) && true))) && (PyData.eqv (.str (Str.ofString "other")) d && true))) = false
    rw [near_word.2.2.2 d hd]
    simp
  · show ((k == k) && ((((7 : Int) == n) && (((Str.ofString "zed") == o) && true)) && (PyData.eqv d d && true))) = false
    rw [zb]
    simp
  · show ((k == k) && (((n == (7 : Int)) && ((o == (Str.ofString "zed")) && true)) && (PyData.eqv (.str (Str.ofString "other")) d && true))) = false
    rw [zc]
    simp
theorem first_at {H : Hp} {xs : List V} {ds : List PyData} (h : DdAll K H xs ds) (hl : 0 < ds.length) : ∃ v d, atI xs 0 = some v ∧ d ∈ ds ∧ Dd K H v d := by
  cases h with
  | nil => cases hl
  | cons h0 _ => exact ⟨_, _, at0 _ _, List.mem_cons_self, h0⟩
theorem odds_all {es : List PyData} (g : Tk.GoodE es) (hl : es.length ≤ 6) (dr : ∀ e ∈ es, DrE e) {d0 : PyData} (h0 : d0 ∈ es ++ [qE]) :
    ∀ d ∈ ([.list ((es ++ [qE]) ++ [x1]), .list ((es ++ [qE]) ++ [x2]), .list ((es ++ [qE]) ++ [.str "r"]), .list ((es ++ [qE]) ++ [.none]), .list [.list (es ++ [qE])]] ++ [.none, .int 5, .str (Str.ofString "k"), .dict [], d0, .list [qE, qE]] : List PyData), Odd d := by
  have xo := xs_odd
  intro d hd
  simp only [List.cons_append, List.nil_append, List.mem_cons, List.not_mem_nil, or_false] at hd
  rcases hd with rfl | rfl | rfl | rfl | rfl | rfl | rfl | rfl | rfl | rfl | rfl
  · exact odd_more hl dr xo.1.1 xo.1.2
  · exact odd_more hl dr xo.2.1.1 xo.2.1.2
  · exact odd_more hl dr xo.2.2.1.1 xo.2.2.1.2
  · exact odd_more hl dr xo.2.2.2.1 xo.2.2.2.2
  · exact odd_in hl dr
  · exact odd_of (by decide +kernel)
  · exact odd_of (by decide +kernel)
  · exact odd_of (by decide +kernel)
  · exact odd_of (by decide +kernel)
  · exact odd_first ((more_good g dr).all _ h0) (more_itm dr _ h0)
  · exact odd_of (by decide +kernel)
def odd2 : List PyData := ([.none, .int (5), .str (Str.ofString ""), .str (Str.ofString "other"), .str (Str.ofString "K"), .tuple [], .list [], .dict [], .tuple [.str (Str.ofString "k")], .bool true] : List PyData)
theorem odd2_ok : ∀ d ∈ odd2, askB d = true ∧ (PyData.eqv d (.str (Str.ofString "other")) = true ∨ (PyData.eqv d (.str (Str.ofString "other")) = false ∧ wordD d = false)) := by
  intro d hd
  simp only [odd2, List.mem_cons, List.not_mem_nil, or_false] at hd
  rcases hd with rfl | rfl | rfl | rfl | rfl | rfl | rfl | rfl | rfl | rfl
  · exact ⟨by decide +kernel, .inr ⟨rfl, rfl⟩⟩
  · exact ⟨by decide +kernel, .inr ⟨rfl, rfl⟩⟩
  · exact ⟨by decide +kernel, .inr ⟨by decide +kernel, by decide +kernel⟩⟩
  · exact ⟨by decide +kernel, .inl (by decide +kernel)⟩
  · exact ⟨by decide +kernel, .inr ⟨by decide +kernel, by decide +kernel⟩⟩
  · exact ⟨by decide +kernel, .inr ⟨rfl, rfl⟩⟩
  · exact ⟨by decide +kernel, .inr ⟨rfl, rfl⟩⟩
  · exact ⟨by decide +kernel, .inr ⟨rfl, rfl⟩⟩
  · exact ⟨by decide +kernel, .inr ⟨rfl, rfl⟩⟩
  · exact ⟨by decide +kernel, .inr ⟨rfl, rfl⟩⟩
def strIn : PyData → Option Str
  | .str x => some x
  | _ => none
theorem odd2_far : ∀ d ∈ odd2, ∀ x, d = .str x → x ∉ keysL := by
  have z : ∀ d ∈ odd2, ∀ x ∈ (strIn d).toList, x ∉ keysL := by
    intro d hd
    simp only [odd2, List.mem_cons, List.not_mem_nil, or_false] at hd
    rcases hd with rfl | rfl | rfl | rfl | rfl | rfl | rfl | rfl | rfl | rfl
    all_goals first | (intro x hx; simp [strIn] at hx; done) | decide +kernel
  rintro d hd x rfl
  exact z _ hd x (by simp [strIn])
theorem in_no {es : List PyData} (dr : ∀ e ∈ es, DrE e) {d : PyData} (h : ∀ x, d = .str x → x ∉ keysL) : inD es d = false := by
  cases d with
  | str x =>
    show (findE es x).isSome = false
    cases q : findE es x with
    | none => rfl
    | some e =>
      obtain ⟨m1, m2⟩ := findE_some q
      exact absurd (m2 ▸ (dr e m1).2.2.2.1) (h x rfl)
  | _ => rfl
/-- two ways meet -/
theorem join {R : L2.St → Hp → Prop} {G : Prop} (F : L2.St → Hp → Prop) (main : (∀ σ H, F σ H → R σ H) → G) (rest : ∀ σ H, F σ H → R σ H) : G := main rest
/-- a loop over a list, G holding of the heap -/
theorem for_in {T : Addr} {xs : List V} {g : TG} {tb : TS} {D : Ends} {σ : L2.St} {H : Hp} (G : Hp → Prop) (hG : ∀ H', G H' → H' T = some (.lst xs)) (g0 : G H) (Sl : L2.St → Prop) (h0 : Sl σ)
    (hs : ∀ v ∈ xs, ∀ (σ : L2.St) (H2 : Hp), Sl σ → G H2 → g v σ H2 fun σ2 H3 => tb { D with nx := fun σ' H' => Sl σ' ∧ G H', ct := fun σ' H' => Sl σ' ∧ G H', bk := D.nx } σ2 H3) (hd : ∀ σ H', Sl σ → G H' → D.nx σ H') :
    ForG (Itl K T) g tb D σ H := by
  refine for_it walk_list (fun _ σ H' => Sl σ ∧ G H') ⟨h0, g0⟩ (fun i σ H' _ p => SqL.of (hG H' p.2)) ?_ (fun σ H' p => hd σ H' p.1 p.2)
  rintro i x σ H2 H2' hi ⟨p1, p2⟩ ⟨rfl, hx⟩
  exact hs x (List.mem_of_getElem? hx) σ _ p1 p2
abbrev s_law : Stmt := top 26
abbrev n_law : List Str := ["_law_script", "_law_k", "_law_pool_here", "_law_entries_here", "_law_content", "_law_turned", "_law_more", "_law_key", "_law_stamp", "_law_text", "_law_near", "_law_bad", "_law_odd"]
abbrev p_law : List Str := ["_law_script"]
theorem sc_law : FnScope n_law p_law (defScope s_law) := ⟨rfl, rfl, rfl, by decide +kernel, rfl, by decide +kernel, by decide +kernel⟩
abbrev qL (cdv : Value) : Str := (envOfC "law" (defScope s_law) 0 0 cdv).qual ++ "<lambda>"
abbrev TL (c P0 : Addr) : List (Addr × Str) := [(P0, qL (.ref c))]
def spLawT (K : PySem.W.Frag) (P0 : Addr) : Sp := fun vs H Q _ => ∃ (a : Addr) (ns : List Int), vs = [.ref a] ∧ SqL K H a (ns.map V.int) ∧ ns.length ≤ 63 ∧ H P0 = some (.tbl #[]) ∧ ∀ H', Q (.bl true) H'
theorem ok_law {C CB CK CN CT0 c P0 fa g TT : Addr} {u1 u2 u3 u4 u6 u7 : Value} {an od : Option Addr} {osl : Array (Option Value)} {roc rdV rkV rdoc rpm rcd rct : Value} {ran rod : Option Addr} {rsl : Array (Option Value)}
    (T : Txt mg t1 t2 t3) (at_f : K.lookup fa = some ⟨u7, od, .func (PySem.W.fnOf "law" "law" (defArgs s_law) (defBody s_law) (defScope s_law) u1 u2 u3 u4 an (.ref c) u6), osl⟩) (cd : PySem.W.codeIn K (.ref c) "law" = true) (TB : LamX.TabB base mg c P0)
    (CC : ContC K C) (hNE : PySem.W.findIn K (.ref C) "__ne__" = some (some (.builtin "object.__ne__"))) (hMO : PySem.W.mroIn K C (.type "object") = some true) (nf1 : PySem.W.notFirst K C (.type "list") = true) (nf2 : PySem.W.notFirst K C (.type "tuple") = true)
    (XE1 : ExcV K mg "BadEntries" CB) (XE2 : ExcV K mg "BadKey" CK) (XE3 : ExcV K mg "NoEntry" CN) (TH : Three K CB CK CN CT0) (hTE : mg "TombError" = some (.ref CT0)) (zKE : mg "KeyError" = none) (hTT : ∀ H, SqT K H TT [])
    (RF : mg "_law_refused" = some (.ref g) ∧ PySem.W.keepIn K (.ref g) = true ∧ K.lookup g = some ⟨roc, rod, .func (PySem.W.fnOf "_law_refused" "_law_refused" (defArgs s_L_refused) (defBody s_L_refused) (defScope s_L_refused) rdV rkV rdoc rpm ran rcd rct), rsl⟩ ∧ PySem.W.codeIn K rcd "_law_refused" = true ∧ L2.Binds K (PySem.W.fnOf "_law_refused" "_law_refused" (defArgs s_L_refused) (defBody s_L_refused) (defScope s_L_refused) rdV rkV rdoc rpm ran rcd rct) ["_law_call"] [])
    (K_Content : CalC P w K mg base (L2.CX P w) "Content" C 5 ["self", "entries"] (spInit K C CB)) (K_Content0 : CalC0 P w K mg base (L2.CX P w) "Content" C 5 ["self", "entries"] [.ref TT] (spInit0 K C))
    (K_contains : CalO P w K mg base CX0 C 1 "__contains__" (spIn K C)) (K_len : CalO P w K mg base CX0 C 1 "__len__" (spLen K C)) (K_eq : CalO P w K mg base CX0 C 1 "__eq__" (spEqA K C)) (K_getitem : CalI P w K mg base (L2.CX P w) C 3 (spGet K C CN))
    (K_Content_entries : CalM P w K mg base CX0 C 2 "entries" p_Content_entries (spEntries K C)) (K_Content_shows : CalM P w K mg base (L2.CX P w) C 3 "shows" p_Content_shows (spShows K C CK))
    (K_L_pool : Cal P w K mg base CX0 1 "_law_pool" p_L_pool (spPool K)) (K_L_entries : Cal P w K mg base CX0 2 "_law_entries" p_L_entries (spEnts K)) (K_L_told : Cal P w K mg base CX0 5 "_law_told" p_L_told (spTold K C)) :
    FnG P w K mg base CX0 10 fa (PySem.W.fnOf "law" "law" (defArgs s_law) (defBody s_law) (defScope s_law) u1 u2 u3 u4 an (.ref c) u6) p_law (spLawT K P0) := by
  refine fnG_of at_f cd sc_law (fun vs H Q E h => by obtain ⟨a, ns, rfl, _⟩ := h; rfl) fun B outer s H vs Q E gd hr h => ?_
  obtain ⟨a, ns, rfl, hs, hl, hP, k⟩ := h
  have hu := hr.units
  have hmT : (P0, qL (.ref c)) ∈ TL c P0 := List.mem_singleton.mpr rfl
  have huT : ∀ p ∈ TL c P0, p.1 = P0 → p.2 = qL (.ref c) := fun p hp _ => by rw [List.mem_singleton.mp hp]
  suffices hh : ∃ tr, PSs (cxOf CX0 P w K mg base n_law "law" (defScope s_law) fa (.ref c) B outer s H E).nox (defBody s_law) tr ∧ tr { nx := fun _ H' => Q .non H', rt := Q } (L2.start n_law [.ref a]) H by
    obtain ⟨tr, d, r⟩ := hh
    exact ⟨tr, d.nox, r⟩
  refine ⟨_, (pss_cons (ps_for PassesOwn.never rfl (pi_range1 rfl T.z_range (pa_cons (pe_callB (c_max2 rfl) (by rfl) T.z_max (by decide +kernel) (pa_cons pe_int (pa_cons (pe_callB (c_min2 rfl) (by rfl) T.z_min (by decide +kernel) (pa_cons (pe_callB k_len (by rfl) T.z_len (by decide +kernel) (pa_cons (pv 0) pa_nil)) (pa_cons pe_int pa_nil))) pa_nil))) pa_nil)) (pg_name (i := 1) sc_law.nd rfl (by first | exact Or.inl rfl | exact Or.inr rfl))
      (pss_cons (ps_set (i := 2) sc_law.nd rfl (by first | exact Or.inl rfl | exact Or.inr rfl) (pe_cal K_L_pool (hr.mono (by decide)) pass0 (pa_cons (pv 0) (pa_cons (pv 1) pa_nil))))
      (pss_cons (ps_set (i := 3) sc_law.nd rfl (by first | exact Or.inl rfl | exact Or.inr rfl) (pe_cal K_L_entries (hr.mono (by decide)) pass0 (pa_cons (pv 2) pa_nil)))
      (pss_cons (ps_asg (pe_tup (pa_cons (pe_calC K_Content (hr.mono (by decide)) (passOut (E := E0) takes0) (pa_cons (pv 3) pa_nil)) (pa_cons (pe_calC K_Content (hr.mono (by decide)) (passOut (E := E0) takes0) (pa_cons (pe_callTy k_tupOf (by rfl) T.z_tuple (by decide +kernel) (pa_cons (pe_revL (pv 3)) pa_nil)) pa_nil)) pa_nil))) (k_gtup (n := 2) rfl (pgs_cons (pg_name (i := 4) sc_law.nd rfl (by first | exact Or.inl rfl | exact Or.inr rfl)) (pgs_cons (pg_name (i := 5) sc_law.nd rfl (by first | exact Or.inl rfl | exact Or.inr rfl)) pgs_nil))))
      (pss_cons (ps_if (PW.pt (pw_or (pt_not (pt_val (pe_cal K_L_told (hr.mono (by decide)) pass0 (pa_cons (pv 4) (pa_cons (pv 3) pa_nil))))) (pw_or (pt_not (pt_val (pe_cal K_L_told (hr.mono (by decide)) pass0 (pa_cons (pv 5) (pa_cons (pv 3) pa_nil))))) (pw_or1 (pt_cmpR (k_neO K_eq hNE hMO (hr.mono (by decide)) pass0) (pv 4) (pv 5) (nomark _)))))) (pss_one (ps_ret pe_bl)) pss_nil)
      (pss_cons (ps_set (i := 6) sc_law.nd rfl (by first | exact Or.inl rfl | exact Or.inr rfl) (pe_op k_add (pv 3) (pe_lst (pa_cons (pe_tup (pa_cons pe_str (pa_cons (pe_tup (pa_cons pe_int (pa_cons pe_str pa_nil))) (pa_cons pe_non pa_nil)))) pa_nil))))
      (pss_cons (ps_if (PW.pt (pw_or (pt_cmpR (k_eqAny K_eq nf1 nf2 (hr.mono (by decide)) pass0) (pv 4) (pe_calC K_Content (hr.mono (by decide)) (passOut (E := E0) takes0) (pa_cons (pv 6) pa_nil)) (nomark _)) (pw_or (pt_cmpR (k_eqAny K_eq nf1 nf2 (hr.mono (by decide)) pass0) (pv 4) (pv 3) (nomark _)) (pw_or1 (pt_cmpR (k_eqAny K_eq nf1 nf2 (hr.mono (by decide)) pass0) (pv 4) (pe_calm0 K_Content_entries (hr.mono (by decide)) pass0 (pv 4)) (nomark _)))))) (pss_one (ps_ret pe_bl)) pss_nil)
      (pss_cons (ps_if (pt_cmpR op_isnot_bl (pe_cmpR (k_neO K_eq hNE hMO (hr.mono (by decide)) pass0) (pv 4) (pv 5) (nomark _)) pe_bl (nomark _)) (pss_one (ps_ret pe_bl)) pss_nil)
      (pss_cons (ps_if (pt_cmpR (k_neP hu) (pv 3) (pe_lst pa_nil) (nomark _)) (pss_cons (ps_asg (pe_ix k_ix (pv 3) pe_int (fun _ _ => rfl)) (k_gtup (n := 3) rfl (pgs_cons (pg_name (i := 7) sc_law.nd rfl (by first | exact Or.inl rfl | exact Or.inr rfl)) (pgs_cons (pg_name (i := 8) sc_law.nd rfl (by first | exact Or.inl rfl | exact Or.inr rfl)) (pgs_cons (pg_name (i := 9) sc_law.nd rfl (by first | exact Or.inl rfl | exact Or.inr rfl)) pgs_nil)))))
      (pss_cons (ps_set (i := 10) sc_law.nd rfl (by first | exact Or.inl rfl | exact Or.inr rfl) (pe_lst (pa_cons (pe_calC K_Content (hr.mono (by decide)) (passOut (E := E0) takes0) (pa_cons (pe_op k_add (pe_lst (pa_cons (pe_tup (pa_cons (pv 7) (pa_cons (pv 8) (pa_cons pe_str pa_nil)))) pa_nil)) (pe_slice k_slice (pv 3) (po_some pe_int) po_none)) pa_nil)) (pa_cons (pe_calC K_Content (hr.mono (by decide)) (passOut (E := E0) takes0) (pa_cons (pe_op k_add (pe_lst (pa_cons (pe_tup (pa_cons (pv 7) (pa_cons (pe_tup (pa_cons pe_int (pa_cons pe_str pa_nil))) (pa_cons (pv 9) pa_nil)))) pa_nil)) (pe_slice k_slice (pv 3) (po_some pe_int) po_none)) pa_nil)) pa_nil))))
      (pss_one (ps_if (PW.pt (pw_or (pt_cmpR (k_eqAny K_eq nf1 nf2 (hr.mono (by decide)) pass0) (pe_ix k_ix (pv 10) pe_int (fun _ _ => rfl)) (pv 4) (nomark _)) (pw_or (pt_cmpR (k_eqAny K_eq nf1 nf2 (hr.mono (by decide)) pass0) (pe_ix k_ix (pv 10) pe_int (fun _ _ => rfl)) (pv 4) (nomark _)) (pw_or1 (pt_cmpR (k_eqAny K_eq nf1 nf2 (hr.mono (by decide)) pass0) (pe_ix k_ix (pv 10) pe_int (fun _ _ => rfl)) (pe_ix k_ix (pv 10) pe_int (fun _ _ => rfl)) (nomark _)))))) (pss_one (ps_ret pe_bl)) pss_nil)))) pss_nil)
      (pss_cons (ps_if (PW.pt (pw_or (pt_cmpR (k_neO K_eq hNE hMO (hr.mono (by decide)) pass0) (pe_calC0 K_Content0 (hr.mono (by decide)) (passOut (E := E0) takes0)) (pe_calC K_Content (hr.mono (by decide)) (passOut (E := E0) takes0) (pa_cons (pe_lst pa_nil) pa_nil)) (nomark _)) (pw_or (pt_cmpR (k_ne hu) (pe_callB (k_lenO K_len (hr.mono (by decide)) pass0) (by rfl) T.z_len (by decide +kernel) (pa_cons (pe_calC0 K_Content0 (hr.mono (by decide)) (passOut (E := E0) takes0)) pa_nil)) pe_int (nomark _)) (pw_or1 (pt_cmpR op_notN (pe_calm (pl := plainOf _ _) K_Content_shows (hr.mono (by decide)) (passOut (E := E0) takes0) (pe_calC K_Content (hr.mono (by decide)) (passOut (E := E0) takes0) (pa_cons (pv 6) pa_nil)) (pa_cons pe_str pa_nil) rfl rfl (mcall_of (abase_callE (by decide)) fun ov => mcall_line rfl rfl)) pe_non (nomark _)))))) (pss_one (ps_ret pe_bl)) pss_nil)
      (pss_cons (ps_set (i := 11) sc_law.nd rfl (by first | exact Or.inl rfl | exact Or.inr rfl) (pe_lst (pa_cons (pe_op k_add (pv 6) (pe_lst (pa_cons (pe_tup (pa_cons pe_str (pa_cons (pe_tup (pa_cons pe_int (pa_cons pe_str pa_nil))) (pa_cons pe_str pa_nil)))) pa_nil))) (pa_cons (pe_op k_add (pv 6) (pe_lst (pa_cons (pe_tup (pa_cons pe_str (pa_cons (pe_tup (pa_cons pe_int (pa_cons pe_str pa_nil))) (pa_cons pe_str pa_nil)))) pa_nil))) (pa_cons (pe_op k_add (pv 6) (pe_lst (pa_cons pe_str pa_nil))) (pa_cons (pe_op k_add (pv 6) (pe_lst (pa_cons pe_non pa_nil))) (pa_cons (pe_lst (pa_cons (pv 6) pa_nil)) pa_nil)))))))
      (pss_cons (ps_for PassesOwn.never rfl (k_list (pe_op k_add (pv 11) (pe_lst (pa_cons pe_non (pa_cons pe_int (pa_cons pe_str (pa_cons pe_dnewK (pa_cons (pe_ix k_ix (pv 6) pe_int (fun _ _ => rfl)) (pa_cons (pe_op o_mul (pe_slice k_slice (pv 6) (po_some (pe_un un_neg pe_int)) po_none) pe_int) pa_nil))))))))) (pg_name (i := 12) sc_law.nd rfl (by first | exact Or.inl rfl | exact Or.inr rfl))
      (pss_one (ps_if (pt_cmpR (k_neP hu) (LamX.pe_lamcall (k := 6) rfl RF.1 RF.2.1 RF.2.2.1 RF.2.2.2.1 RF.2.2.2.2 sc_L_refused rfl (.inl rfl) (refused_gives (k := 7) T XE1 XE2 XE3 TH hTE zKE gd (hr.mono (by decide))) TB rfl hmT huT (hr.mono (by decide)) (LamX.lamS_by (sc := defScope s_law) (by decide +kernel)) rfl (fun _ _ _ _ _ => rfl) (fun A outer s H E f c2 hr => pe_calC K_Content (hr.mono (by decide)) (passOut (E := E) lam_takes) (pa_cons (pv 12 rfl (.inr (.inr rfl))) pa_nil))) (pe_lst (pa_cons pe_str (pa_cons (pe_callB (call_reprD gd hu) (by rfl) T.z_repr (by decide +kernel) (pa_cons (pv 12) pa_nil)) (pa_cons pe_bl pa_nil)))) (nomark _)) (pss_one (ps_ret pe_bl)) pss_nil)))
      (pss_one (ps_for PassesOwn.never rfl (k_list (pe_lst (pa_cons pe_non (pa_cons pe_int (pa_cons pe_str (pa_cons pe_str (pa_cons pe_str (pa_cons (pe_tup pa_nil) (pa_cons (pe_lst pa_nil) (pa_cons pe_dnewK (pa_cons (pe_tup (pa_cons pe_str pa_nil)) (pa_cons pe_bl pa_nil)))))))))))) (pg_name (i := 12) sc_law.nd rfl (by first | exact Or.inl rfl | exact Or.inr rfl))
      (pss_cons (ps_if (PW.pt (pw_or (pt_cmpR op_isnot_bl (pe_cmpR (k_inO K_contains (hr.mono (by decide)) pass0) (pv 12) (pv 4) rfl) pe_bl (nomark _)) (pw_or1 (pt_cmpR (k_neP hu) (LamX.pe_lamcall (k := 6) rfl RF.1 RF.2.1 RF.2.2.1 RF.2.2.2.1 RF.2.2.2.2 sc_L_refused rfl (.inl rfl) (refused_gives (k := 7) T XE1 XE2 XE3 TH hTE zKE gd (hr.mono (by decide))) TB rfl hmT huT (hr.mono (by decide)) (LamX.lamS_by (sc := defScope s_law) (by decide +kernel)) rfl (fun _ _ _ _ _ => rfl) (fun A outer s H E f c2 hr => pe_subO K_getitem (hr.mono (by decide)) (passOut (E := E) lam_takes) (pv 4 rfl (.inr (.inr rfl))) (pv 12 rfl (.inr (.inr rfl))))) (pe_lst (pa_cons pe_str (pa_cons (pe_callB (call_reprD gd hu) (by rfl) T.z_repr (by decide +kernel) (pa_cons (pv 12) pa_nil)) (pa_cons pe_bl pa_nil)))) (nomark _))))) (pss_one (ps_ret pe_bl)) pss_nil)
      (pss_one (ps_if (PW.pt (pw_and (pt_cmpR (k_neS hu) (pv 12) pe_str (nomark _)) (pw_and1 (pt_cmpR (k_neP hu) (LamX.pe_lamcall (k := 6) rfl RF.1 RF.2.1 RF.2.2.1 RF.2.2.2.1 RF.2.2.2.2 sc_L_refused rfl (.inl rfl) (refused_gives (k := 7) T XE1 XE2 XE3 TH hTE zKE gd (hr.mono (by decide))) TB rfl hmT huT (hr.mono (by decide)) (LamX.lamS_by (sc := defScope s_law) (by decide +kernel)) rfl (fun _ _ _ _ _ => rfl) (fun A outer s H E f c2 hr => pe_calm K_Content_shows (hr.mono (by decide)) (passOut (E := E) lam_takes) (pv 4 rfl (.inr (.inr rfl))) (pa_cons (pv 12 rfl (.inr (.inr rfl))) pa_nil))) (pe_lst (pa_cons pe_str (pa_cons (pe_callB (call_reprD gd hu) (by rfl) T.z_repr (by decide +kernel) (pa_cons (pv 12) pa_nil)) (pa_cons pe_bl pa_nil)))) (nomark _))))) (pss_one (ps_ret pe_bl)) pss_nil)))))))))))))))))
      (pss_one (ps_ret pe_bl))), ?_⟩
  walk_at "tx"
  refine r_lenQ hs ?_
  walk_at "tx"
  rw [List.length_map]
  obtain ⟨n, en, hn⟩ := turns_of 6 ns.length (by decide)
  rw [show (6 : Int) = ((6 : Nat) : Int) from rfl, en]
  walk_at "tx"
  refine for_range (lo := 0) (n := (n : Int).toNat) (fun i σ H1 => ∃ o1 o2 o3 o4 o5 o6 o7 o8 o9 o10 o11 o12, σ = [some (.ref a), o1, o2, o3, o4, o5, o6, o7, o8, o9, o10, o11, o12] ∧ LamX.ExtN H H1 ∧ LamX.Tabs (TL c P0) H1) ⟨_, _, _, _, _, _, _, _, _, _, _, _, rfl, LamX.ExtN.refl H, fun p hp => by rw [List.mem_singleton.mp hp]; exact LamX.TabS.nil hP⟩ ?_ ?_
  · rintro i σ H1 hi ⟨o1, o2, o3, o4, o5, o6, o7, o8, o9, o10, o11, o12, rfl, ex1, tb1⟩
    walk_at "tx"
    refine r_pool (ext_sql ex1 hs) hl (by omega) (by omega) fun p H2 hp s2 p2 => ?_
    walk_at "tx"
    refine ⟨p, rfl, p2, fun L xs es H3 g1 dr1 l1 D1 e1 nL1 a1 => ?_⟩
    have S13 : Same H1 H3 := D1.back s2 hp
    have lx : xs.length = es.length := a1.length
    walk_at "tx"
    refine r_make ?_
    walk_at "tx"
    refine mk_at ⟨_, _, es, rfl, .lst e1 a1, .inl rfl, g1, by omega, fun A1 H4 s4 c1 => ?_⟩
    walk_at "tx"
    refine r_make ?_
    walk_at "tx"
    refine ⟨_, rfl, L, xs, rfl, SqL.of (s4 _ _ e1), fun M nM => ?_⟩
    have s5 : Same H4 (upd H4 M (.lst xs.reverse)) := Same.new nM
    have eM : (upd H4 M (.lst xs.reverse)) M = some (.lst xs.reverse) := upd_same
    have aM : DdAll K (upd H4 M (.lst xs.reverse)) xs.reverse es.reverse := dd_rev (DdAll.same (s4.trans s5) _ _ a1)
    generalize upd H4 M (.lst xs.reverse) = H5 at s5 eM aM ⊢
    walk_at "tx"
    refine ⟨M, _, rfl, .inl ⟨SqL.of eM, fun N nN => ?_⟩⟩
    have s6 : Same H5 (upd H5 N (.tup xs.reverse)) := Same.new nN
    have eN : (upd H5 N (.tup xs.reverse)) N = some (.tup xs.reverse) := upd_same
    have aN := DdAll.same s6 _ _ aM
    generalize upd H5 N (.tup xs.reverse) = H6 at s6 eN aN ⊢
    walk_at "tx"
    refine mk_at ⟨_, _, es.reverse, rfl, .tup eN aN, .inr rfl, rev_good g1, by rw [List.length_reverse]; omega, fun B1 H7 s7 c2 => ?_⟩
    have s47 : Same H4 H7 := s5.trans (s6.trans s7)
    have c1 := c1.same s47
    walk_at "tx"
    refine a_tup (by simp) fun T8 H8 n8 s8 e8 => ?_
    have c1 := c1.same s8
    have c2 := c2.same s8
    have s38 : Same H3 H8 := s4.trans (s47.trans s8)
    have e1' := s38 _ _ e1
    have a1' := DdAll.same s38 _ _ a1
    walk_at "tx"
    refine ⟨A1, L, es, es, xs, rfl, c1, e1', a1', g1, dr1, l1, List.Perm.refl _, fun H9 s9 => ?_⟩
    walk_at "tx"
    refine iteF ?_
    walk_at "tx"
    refine ⟨B1, L, es.reverse, es, xs, rfl, c2.same s9, s9 _ _ e1', DdAll.same s9 _ _ a1', g1, dr1, l1, List.reverse_perm _, fun H10 s10 => ?_⟩
    walk_at "tx"
    refine iteF ?_
    walk_at "tx"
    have c1 := c1.same (s9.trans s10)
    have c2 := c2.same (s9.trans s10)
    have s310 : Same H3 H10 := s38.trans (s9.trans s10)
    have sm : SameE es es.reverse := perm_same (List.reverse_perm es).symm g1 (rev_good g1)
    refine r_neC c1 c2 sm ?_
    walk_at "tx"
    refine a_tup (by simp) fun Ta Ha na sa ea => ?_
    walk_at "tx"
    refine a_tup (by simp) fun Tb Hb nb sb eb => ?_
    walk_at "tx"
    refine a_lst (by simp) fun Tc Hc nc sc ec => ?_
    walk_at "tx"
    have s10c := sa.trans (sb.trans sc)
    have s3c := s310.trans s10c
    have dq : DdAll K Hc [.ref Tb] [qE] := .cons (.tup (sc _ _ eb) (.cons (.str _) (.cons (.tup ((sb.trans sc) _ _ ea) (.cons (.int _) (.cons (.str _) .nil))) (.cons .non .nil)))) .nil
    refine g_cat (.lst (s3c _ _ e1) (DdAll.same s3c _ _ a1)) (.lst ec dq) (by simp; omega) fun vm Hd sd dm => ?_
    have s10d := s10c.trans sd
    have gm := more_good g1 dr1
    have lm : (es ++ [qE]).length = es.length + 1 := by simp
    cases dm with
    | @lst M1 xm _ em am =>
    have s3d := s310.trans s10d
    have c1 := c1.same s10d
    have c2 := c2.same s10d
    walk_at "tx"
    refine r_make ?_
    walk_at "tx"
    refine mk_at ⟨_, _, es ++ [qE], rfl, .lst em am, .inl rfl, gm, by omega, fun M2 He se cm => ?_⟩
    have c1 := c1.same se
    have c2 := c2.same se
    refine r_eqNo c1 cm (by unfold eqTab; rw [lm, decide_eq_false (by omega)]; rfl) ?_
    walk_at "tx"
    have e1e := (s3d.trans se) _ _ e1
    refine r_eqList c1 e1e ?_
    walk_at "tx"
    have c1' := c1
    obtain ⟨dx, d, kvs, k1, k2, rows, _, _⟩ := c1'
    refine r_meth ?_
    walk_at "tx"
    refine ⟨A1, dx, _, rfl, k1, tab_no d (by decide), ?_⟩
    walk_at "tx"
    refine ⟨A1, es, rfl, c1, fun v es' Hf so sf df => ?_⟩
    have c1 := c1.same sf
    have c2 := c2.same sf
    cases df with
    | @tup T9 ys9 _ e9 a9 =>
    refine r_eqTup c1 e9 ?_
    walk_at "tx"
    refine r_neC c1 c2 sm ?_
    walk_at "tx"
    refine ⟨_, _, rfl, rfl, ?_⟩
    rw [decide_eq_true rfl]
    walk_at "tx"
    refine iteF ?_
    walk_at "tx"
    refine a_lst (by simp) fun L0 Hg n0 s0 e0 => ?_
    have c1 := c1.same s0
    have s3g : Same H3 Hg := s3d.trans (se.trans (sf.trans s0))
    have eg := s3g _ _ e1
    have ag : DdAll K Hg xs es := DdAll.same s3g _ _ a1
    have emg := (se.trans (sf.trans s0)) _ _ em
    have amg : DdAll K Hg xm (es ++ [qE]) := DdAll.same (se.trans (sf.trans s0)) _ _ am
    have cmp0 := lst_cmp (ent_cmp g1)
    refine ⟨.list es, .list [], .lst eg ag, .lst e0 .nil, cmp0.1, rfl, cmp0.2, ?_⟩
    walk_at "tx"
    refine' join (F := fun σ H' => ∃ o7 o8 o9 o10 : Option V, σ = [some (.ref a), some (.int (0 + (i : Int))), some (.ref p), some (.ref L), some (.ref A1), some (.ref B1), some (.ref M1), o7, o8, o9, o10, o11, o12] ∧ Same Hg H') (fun rest => _) _
    rotate_left
    · cases es with
      | nil =>
        refine iteF ?_
        refine r_next ?_
        exact rest _ _ ⟨_, _, _, _, rfl, Same.refl Hg⟩
      | cons e es2 =>
        refine iteT ?_
        cases ag with
        | @cons v0 xs2 _ _ dv0 ag2 =>
        have he := dr1 e List.mem_cons_self
        obtain ⟨b1, p1, k1, n1, oo, v1, d1, E1⟩ := ent_at dv0 (g1.all e List.mem_cons_self)
        have x1 := E1.x
        subst x1
        have w1 := E1.at_
        obtain ⟨hn1, hn2⟩ := near_good g1 E1.e
        have l2 : es2.length + 1 ≤ 6 := l1
        have homes : oo ∈ homesL ∧ d1 ∈ valsL := by
          obtain ⟨k9, o9, n9, v9, q, h1, h2⟩ := he.2.2.2.2
          rw [E1.e] at q
          cases q
          exact ⟨h1, h2⟩
        have neq := near_eqv (k := k1) (n := n1) homes.1 homes.2
        rw [← E1.e] at neq
        have de : Dd K Hg (.ref L) (.list (e :: es2)) := .lst eg (.cons dv0 ag2)
        have kk : keyD e = k1 := E1.key
        walk_at "tx"
        refine r_ixL eg (at0 _ _) ?_
        walk_at "tx"
        refine r_make ?_
        walk_at "tx"
        refine a_tup (by simp) fun Tr Hr nr sr er => ?_
        walk_at "tx"
        refine a_lst (by simp) fun Ts Hs ns' ss es' => ?_
        walk_at "tx"
        have s1 := sr.trans ss
        refine g_slL (Dd.same s1 _ _ de) fun Tt xt Ht nt st et at' => ?_
        rw [cut_tl] at at'
        walk_at "tx"
        have s2 := s1.trans st
        have da : Dd K Ht (.ref Ts) (.list [nearA k1 n1 oo]) := .lst (st _ _ es') (.cons (.tup ((ss.trans st) _ _ er) (.cons (.str _) (.cons (.tup (s2 _ _ E1.st) (.cons (.int _) (.cons (.str _) .nil))) (.cons (.str _) .nil)))) .nil)
        refine g_catN da (.lst et at') (by show 1 + es2.length ≤ 100000; omega) fun Tu xu Hu nu su eu au => ?_
        replace au : DdAll K Hu xu (nearA k1 n1 oo :: es2) := au
        walk_at "tx"
        refine mk_at ⟨_, _, nearA k1 n1 oo :: es2, rfl, .lst eu au, .inl rfl, hn1, by show es2.length + 1 ≤ 60; omega, fun N1 Hv sv cn1 => ?_⟩
        have s3 := s2.trans (su.trans sv)
        walk_at "tx"
        refine r_make ?_
        walk_at "tx"
        refine a_tup (by simp) fun Tw Hw nw sw ew => ?_
        walk_at "tx"
        refine a_tup (by simp) fun Tx Hx nx sx ex => ?_
        walk_at "tx"
        refine a_lst (by simp) fun Ty Hy ny sy ey => ?_
        walk_at "tx"
        have s4 := s3.trans (sw.trans (sx.trans sy))
        refine g_slL (Dd.same s4 _ _ de) fun Tz xz Hz nz sz ez az => ?_
        rw [cut_tl] at az
        walk_at "tx"
        have s5 := s4.trans sz
        have db : Dd K Hz (.ref Ty) (.list [nearB k1 d1]) := .lst (sz _ _ ey) (.cons (.tup ((sy.trans sz) _ _ ex) (.cons (.str _) (.cons (.tup ((sx.trans (sy.trans sz)) _ _ ew) (.cons (.int _) (.cons (.str _) .nil))) (.cons (Dd.same s5 _ _ E1.val) .nil)))) .nil)
        refine g_catN db (.lst ez az) (by show 1 + es2.length ≤ 100000; omega) fun T1 y1 G1 n1' t1' f1 b1' => ?_
        replace b1' : DdAll K G1 y1 (nearB k1 d1 :: es2) := b1'
        walk_at "tx"
        refine mk_at ⟨_, _, nearB k1 d1 :: es2, rfl, .lst f1 b1', .inl rfl, hn2, by show es2.length + 1 ≤ 60; omega, fun N2 G2 t2' cn2 => ?_⟩
        have sq : Same Hv G2 := (sw.trans (sx.trans sy)).trans (sz.trans (t1'.trans t2'))
        walk_at "tx"
        refine a_lst (by simp) fun NL G3 n3 t3' f3 => ?_
        have cn1 := cn1.same (sq.trans t3')
        have cn2 := cn2.same t3'
        have sg : Same Hg G3 := s5.trans (t1'.trans (t2'.trans t3'))
        have c1 := c1.same sg
        walk_at "tx"
        refine r_eqNo cn1 c1 (eq_first (by rw [kk]; rfl) neq.1) ?_
        walk_at "tx"
        refine r_eqNo cn2 c1 (eq_first (by rw [kk]; rfl) neq.2.1) ?_
        walk_at "tx"
        refine r_eqNo cn1 cn2 (eq_first rfl neq.2.2) ?_
        walk_at "tx"
        exact rest _ _ ⟨_, _, _, _, rfl, sg⟩
    · rintro σ H11 ⟨o7, o8, o9, o10, rfl, s11⟩
      have c1 := c1.same s11
      have emh := s11 _ _ emg
      have amh : DdAll K H11 xm (es ++ [qE]) := DdAll.same s11 _ _ amg
      have dM : Dd K H11 (.ref M1) (.list (es ++ [qE])) := .lst emh amh
      dsimp only
      walk_at "tx"
      refine r_make0 ?_
      refine mk0_at hTT fun Z1 H12 s12 z1 => ?_
      refine r_make ?_
      walk_at "tx"
      refine a_lst (by simp) fun L12 H13 n13 s13 e13 => ?_
      walk_at "tx"
      refine mk_at ⟨_, _, [], rfl, .lst e13 .nil, .inl rfl, ⟨fun _ h => (nomatch h), by simp⟩, by simp, fun Z2 H14 s14 z2 => ?_⟩
      refine r_neC (z1.same (s13.trans s14)) z2 (fun _ => rfl) ?_
      walk_at "tx"
      refine r_make0 ?_
      refine mk0_at hTT fun Z3 H15 s15 z3 => ?_
      walk_at "tx"
      have z3' := z3
      obtain ⟨zx, zd, zk, y1, y2, _⟩ := z3'
      refine ⟨Z3, zx, _, rfl, y1, Z3, [], rfl, z3, 0, rfl, by omega, ?_⟩
      walk_at "tx"
      rw [show (!decide (((0 : Nat) : Int) = 0)) = false from by simp]
      walk_at "tx"
      refine r_meth ?_
      refine r_make ?_
      walk_at "tx"
      have s115 := s12.trans (s13.trans (s14.trans s15))
      refine mk_at ⟨_, _, es ++ [qE], rfl, Dd.same s115 _ _ dM, .inl rfl, gm, by omega, fun Z4 H16 s16 z4 => ?_⟩
      have z4' := z4
      obtain ⟨wx, wd, wk, y3, y4, _⟩ := z4'
      refine ⟨Z4, wx, _, rfl, y3, tab_no wd (by decide), ?_⟩
      walk_at "tx"
      refine ⟨Z4, es ++ [qE], .str (Str.ofString "q"), .str (Str.ofString "q"), rfl, z4, .str _, (show (1 : Nat) ≤ 100000 by decide), fun _ k' u H17 hk s17 d17 => ?_, fun c => ?_⟩
      · cases hk
        have sh : showD (es ++ [qE]) (Str.ofString "q") = .none := by
          unfold showD
          rw [show findE (es ++ [qE]) (Str.ofString "q") = some qE from findE_mem gm.nd (e := qE) (by simp)]
          rfl
        rw [sh] at d17
        cases d17
        walk_at "tx"
        refine ⟨rfl, ?_⟩
        rw [decide_eq_true rfl]
        walk_at "tx"
        refine iteF ?_
        walk_at "tx"
        have s1117 : Same H11 H17 := s115.trans (s16.trans s17)
        have dM := Dd.same s1117 _ _ dM
        have c1 := c1.same s1117
        have sBase : Same H1 H17 := S13.trans (s3g.trans (s11.trans s1117))
        have lim : ∀ x : PyData, (es ++ [qE]).length + [x].length ≤ 100000 := fun x => by
          show (es ++ [qE]).length + 1 ≤ 100000
          omega
        -- the spoilt rows
        refine a_tup (by simp) fun a1 I1 n1 r1 f1 => ?_
        walk_at "tx"
        refine a_tup (by simp) fun a2 I2 n2 r2 f2 => ?_
        walk_at "tx"
        refine a_lst (by simp) fun a3 I3 n3 r3 f3 => ?_
        walk_at "tx"
        have q3 := r1.trans (r2.trans r3)
        refine g_cat (Dd.same q3 _ _ dM) (es := [x1]) (.lst f3 (.cons (.tup (r3 _ _ f2) (.cons (.str _) (.cons (.tup ((r2.trans r3) _ _ f1) (.cons (.int _) (.cons (.str _) .nil))) (.cons (.str _) .nil)))) .nil)) (lim x1) fun w1 I4 r4 g1' => ?_
        walk_at "tx"
        have q4 := q3.trans r4
        refine a_tup (by simp) fun a5 I5 n5 r5 f5 => ?_
        walk_at "tx"
        refine a_tup (by simp) fun a6 I6 n6 r6 f6 => ?_
        walk_at "tx"
        refine a_lst (by simp) fun a7 I7 n7 r7 f7 => ?_
        walk_at "tx"
        have q57 := r5.trans (r6.trans r7)
        have q7 := q4.trans q57
        refine g_cat (Dd.same q7 _ _ dM) (es := [x2]) (.lst f7 (.cons (.tup (r7 _ _ f6) (.cons (.str _) (.cons (.tup ((r6.trans r7) _ _ f5) (.cons (.int _) (.cons (.str _) .nil))) (.cons (.str _) .nil)))) .nil)) (lim x2) fun w2 I8 r8 g2' => ?_
        walk_at "tx"
        have q8 := q7.trans r8
        refine a_lst (by simp) fun a9 I9 n9 r9 f9 => ?_
        walk_at "tx"
        have q9 := q8.trans r9
        refine g_cat (Dd.same q9 _ _ dM) (es := [.str "r"]) (.lst f9 (.cons (.str _) .nil)) (lim _) fun w3 I10 r10 g3' => ?_
        walk_at "tx"
        have q10 := q9.trans r10
        refine a_lst (by simp) fun a11 I11 n11 r11 f11 => ?_
        walk_at "tx"
        have q11 := q10.trans r11
        refine g_cat (Dd.same q11 _ _ dM) (es := [.none]) (.lst f11 (.cons .non .nil)) (lim _) fun w4 I12 r12 g4' => ?_
        walk_at "tx"
        have q12 := q11.trans r12
        refine a_lst (by simp) fun a13 I13 n13 r13 f13 => ?_
        walk_at "tx"
        have q13 := q12.trans r13
        refine a_lst (by simp) fun a14 I14 n14 r14 f14 => ?_
        walk_at "tx"
        have q14 := q13.trans r14
        have dB : Dd K I14 (.ref a14) (.list [.list ((es ++ [qE]) ++ [x1]), .list ((es ++ [qE]) ++ [x2]), .list ((es ++ [qE]) ++ [.str "r"]), .list ((es ++ [qE]) ++ [.none]), .list [.list (es ++ [qE])]]) :=
          .lst f14 (.cons (Dd.same (q57.trans (r8.trans (r9.trans (r10.trans (r11.trans (r12.trans (r13.trans r14))))))) _ _ g1') (.cons (Dd.same (r9.trans (r10.trans (r11.trans (r12.trans (r13.trans r14))))) _ _ g2') (.cons (Dd.same (r11.trans (r12.trans (r13.trans r14))) _ _ g3') (.cons (Dd.same (r13.trans r14) _ _ g4') (.cons (.lst (r14 _ _ f13) (.cons (Dd.same q14 _ _ dM) .nil)) .nil)))))
        intro D nD
        have r15 : Same I14 (upd I14 D (.dK [])) := Same.new nD
        have f15 : (upd I14 D (.dK [])) D = some (.dK []) := upd_same
        generalize upd I14 D (.dK []) = I15 at r15 f15 ⊢
        have q15 := q14.trans r15
        have em15 := (s1117.trans q15) _ _ emh
        have am15 : DdAll K I15 xm (es ++ [qE]) := DdAll.same (s1117.trans q15) _ _ amh
        obtain ⟨v0, d0, hv0, hd0, dv0⟩ := first_at am15 (by omega)
        walk_at "tx"
        refine r_ixL em15 hv0 ?_
        walk_at "tx"
        refine g_slL (.lst em15 am15) fun a16 x16 I16 n16 r16 f16 z16 => ?_
        rw [cut_last] at z16
        cases z16 with
        | @cons v16 _ _ _ d16 z16 =>
        cases z16
        walk_at "tx"
        refine .inr (.inr ⟨a16, 2, _, rfl, rfl, f16, by decide, by decide, sz_of (show 1 * 2 ≤ 100000 by decide), fun a17 n17 => ?_⟩)
        have r17 : Same I16 (upd I16 a17 (.lst [v16, v16])) := Same.new n17
        have f17 : (upd I16 a17 (.lst [v16, v16])) a17 = some (.lst [v16, v16]) := upd_same
        show tNil _ (upd I16 a17 (.lst [v16, v16])) _
        generalize upd I16 a17 (.lst [v16, v16]) = I17 at r17 f17 ⊢
        walk_at "tx"
        refine a_lst (by simp) fun a18 I18 n18 r18 f18 => ?_
        walk_at "tx"
        have q1618 := r16.trans (r17.trans r18)
        have q18 := q15.trans q1618
        have dR : Dd K I18 (.ref a18) (.list [.none, .int 5, .str (Str.ofString "k"), .dict [], d0, .list [qE, qE]]) :=
          .lst f18 (.cons .non (.cons (.int 5) (.cons (.str _) (.cons (.dct (q1618 _ _ f15)) (.cons (Dd.same q1618 _ _ dv0) (.cons (.lst (r18 _ _ f17) (.cons (Dd.same (r17.trans r18) _ _ d16) (.cons (Dd.same (r17.trans r18) _ _ d16) .nil))) .nil))))))
        refine g_catN (Dd.same (r15.trans q1618) _ _ dB) dR (show 5 + 6 ≤ 100000 by decide) fun LO xo I19 n19 r19 f19 z19 => ?_
        have q19 := q18.trans r19
        walk_at "tx"
        refine ⟨LO, rfl, ⟨_, SqL.of f19⟩, ?_⟩
        have tb19 : LamX.Tabs (TL c P0) I19 := tb1.ext (sBase.trans q19)
        have c1 := c1.same q19
        have odds := odds_all g1 l1 dr1 hd0
        refine for_in (fun H' => LamX.ExtN I19 H' ∧ LamX.Tabs (TL c P0) H') (fun H' G => ext_lst G.1 f19) ⟨LamX.ExtN.refl _, tb19⟩ (fun σ => ∃ o12 : Option V, σ = [some (.ref a), some (.int (0 + (i : Int))), some (.ref p), some (.ref L), some (.ref A1), some (.ref B1), some (.ref M1), o7, o8, o9, o10, some (.ref a14), o12]) ⟨_, rfl⟩ (fun v hv σ J0 hσ G => ?_) (fun σ J0 hσ G => ?_)
        · obtain ⟨o12, rfl⟩ := hσ
          obtain ⟨exJ, tbJ⟩ := G
          obtain ⟨d, hdm, dv⟩ := dd_mem z19 hv
          have od := odds d hdm
          have dv := Dd.ext exJ _ _ dv
          walk_at "tx"
          refine ⟨tbJ, fun J1 ex1' tbJ1 => ?_⟩
          have dv1 := Dd.ext ex1' _ _ dv
          dsimp only [TTref]
          refine r_make ?_
          walk_at "tx"
          refine mk_bad dv1 od fun dd J2 s2 e2 => ?_
          refine ⟨dd, v, d, "entries", rfl, e2, Dd.same s2 _ _ dv1, od.sh, .inl ⟨rfl, rfl⟩, fun pp J3 s3 d3 => ?_⟩
          walk_at "tx"
          have dv3 := Dd.same (s2.trans s3) _ _ dv1
          refine r_reprD dv3 od.sh ?_
          walk_at "tx"
          refine a_lst (by simp) fun p4 J4 n4 s4 e4 => ?_
          have dl : Dd K J4 (.ref p4) (.list [.str "entries", .str d.shown, .bool true]) := .lst e4 (.cons (.str _) (.cons (.str _) (.cons (.bl _) .nil)))
          refine r_neSame (Dd.same s4 _ _ d3) dl rfl (show 1 ≤ 60 by decide) ?_
          walk_at "tx"
          have sa := s2.trans (s3.trans s4)
          exact ⟨⟨_, rfl⟩, exJ.trans (ex1'.trans (ext_same sa)), tbJ1.ext sa⟩
        · obtain ⟨o12, rfl⟩ := hσ
          obtain ⟨exJ, tbJ⟩ := G
          have c1 := c1.ext exJ
          dsimp only
          walk_at "tx"
          refine a_tup (by simp) fun b1 J1 m1 u1' h1 => ?_
          walk_at "tx"
          refine a_lst (by simp) fun b2 J2 m2 u2' h2 => ?_
          walk_at "tx"
          intro D3 m3
          have u3' : Same J2 (upd J2 D3 (.dK [])) := Same.new m3
          have h3 : (upd J2 D3 (.dK [])) D3 = some (.dK []) := upd_same
          generalize upd J2 D3 (.dK []) = J3 at u3' h3 ⊢
          walk_at "tx"
          refine a_tup (by simp) fun b4 J4 m4 u4' h4 => ?_
          walk_at "tx"
          refine a_lst (by simp) fun b5 J5 m5 u5' h5 => ?_
          have v5 := u1'.trans (u2'.trans (u3'.trans (u4'.trans u5')))
          have z5 : DdAll K J5 [V.non, V.int 5, V.str (Str.ofString ""), V.str (Str.ofString "other"), V.str (Str.ofString "K"), V.ref b1, V.ref b2, V.ref D3, V.ref b4, V.bl true] odd2 :=
            .cons .non (.cons (.int 5) (.cons (.str _) (.cons (.str _) (.cons (.str _) (.cons (.tup ((u2'.trans (u3'.trans (u4'.trans u5'))) _ _ h1) .nil) (.cons (.lst ((u3'.trans (u4'.trans u5')) _ _ h2) .nil) (.cons (.dct ((u4'.trans u5') _ _ h3)) (.cons (.tup (u5' _ _ h4) (.cons (.str _) .nil)) (.cons (.bl true) .nil)))))))))
          have c1 := c1.same v5
          have tb5 := tbJ.ext v5
          refine ⟨b5, rfl, ⟨_, SqL.of h5⟩, ?_⟩
          have exAll : LamX.ExtN H J5 := ex1.trans ((ext_same (sBase.trans q19)).trans (exJ.trans (ext_same v5)))
          refine for_in (fun H' => LamX.ExtN J5 H' ∧ LamX.Tabs (TL c P0) H') (fun H' G => ext_lst G.1 h5) ⟨LamX.ExtN.refl _, tb5⟩ (fun σ => ∃ o12 : Option V, σ = [some (.ref a), some (.int (0 + (i : Int))), some (.ref p), some (.ref L), some (.ref A1), some (.ref B1), some (.ref M1), o7, o8, o9, o10, some (.ref a14), o12]) ⟨_, rfl⟩ (fun v hv σ J0 hσ G => ?_) (fun σ J0 hσ G => ?_)
          · obtain ⟨o12, rfl⟩ := hσ
            obtain ⟨exI, tbI⟩ := G
            obtain ⟨d, hdm, dv⟩ := dd_mem z5 hv
            obtain ⟨ha, hcase⟩ := odd2_ok d hdm
            have ask := ask_of ha
            have hin := in_no dr1 (odd2_far d hdm)
            have dv := Dd.ext exI _ _ dv
            have c1 := c1.ext exI
            have c1' := c1
            obtain ⟨dx1, dd1, kv1, k11, k12, _⟩ := c1'
            walk_at "tx"
            refine ⟨A1, dx1, _, rfl, k11, A1, es, v, d, rfl, c1.rd, dv, _, rfl, ?_⟩
            walk_at "tx"
            refine ⟨_, _, rfl, rfl, ?_⟩
            rw [hin, decide_eq_true rfl]
            walk_at "tx"
            refine iteF ?_
            walk_at "tx"
            refine ⟨tbI, fun J1' ex1' tbJ1 => ?_⟩
            have dv1 := Dd.ext ex1' _ _ dv
            have c11 := c1.ext ex1'
            dsimp only [TTref]
            walk_at "tx"
            refine ⟨A1, dx1, _, rfl, ext_ins ex1' k11, A1, es, v, d, rfl, c11, dv1, fun kk ee hk hf => ?_, fun _ dd J2' nn2 s2 e2 => ?_⟩
            · subst hk
              have z : (findE es kk).isSome = false := hin
              rw [hf] at z
              cases z
            refine ⟨dd, v, d, "none", rfl, e2, Dd.same s2 _ _ dv1, ask.sh, .inr (.inr ⟨rfl, rfl⟩), fun pp J3' s3 d3 => ?_⟩
            walk_at "tx"
            have s23 := s2.trans s3
            refine r_reprD (Dd.same s23 _ _ dv1) ask.sh ?_
            walk_at "tx"
            refine a_lst (by simp) fun p4 J4' n4 s4 e4 => ?_
            have dl : Dd K J4' (.ref p4) (.list [.str "none", .str d.shown, .bool true]) := .lst e4 (.cons (.str _) (.cons (.str _) (.cons (.bl _) .nil)))
            refine r_neSame (Dd.same s4 _ _ d3) dl rfl (show 1 ≤ 60 by decide) ?_
            walk_at "tx"
            have sa := s23.trans s4
            have dv4 := Dd.same sa _ _ dv1
            have c14 := c11.same sa
            have tb4 := tbJ1.ext sa
            have ex4 := exI.trans (ex1'.trans (ext_same sa))
            have c14' := c14
            obtain ⟨dx2, dd2, kv2, k21, k22, _⟩ := c14'
            walk_at "tx"
            refine ⟨d, _, dv4, rfl, ask.cmp, ?_⟩
            rcases hcase with hc | ⟨hc, hw⟩
            · rw [hc]
              walk_at "tx"
              refine iteF ?_
              walk_at "tx"
              exact ⟨⟨_, rfl⟩, ex4, tb4⟩
            · rw [hc]
              walk_at "tx"
              refine iteT ?_
              walk_at "tx"
              refine ⟨tb4, fun J5' ex5' tbJ5 => ?_⟩
              have dv5 := Dd.ext ex5' _ _ dv4
              have c15 := c14.ext ex5'
              dsimp only [TTref]
              refine r_meth ?_
              walk_at "tx"
              refine ⟨A1, dx2, _, rfl, ext_ins ex5' k21, tab_no dd2 (by decide), ?_⟩
              walk_at "tx"
              refine ⟨A1, es, v, d, rfl, c15, dv5, ask.ok, fun hz => ?_, fun _ dd J6' nn6 s6 e6 => ?_⟩
              · rw [hw] at hz
                cases hz
              refine ⟨dd, v, d, "key", rfl, e6, Dd.same s6 _ _ dv5, ask.sh, .inr (.inl ⟨rfl, rfl⟩), fun pp J7' s7 d7 => ?_⟩
              walk_at "tx"
              have s67 := s6.trans s7
              refine r_reprD (Dd.same s67 _ _ dv5) ask.sh ?_
              walk_at "tx"
              refine a_lst (by simp) fun p8 J8' n8 s8 e8 => ?_
              have dl : Dd K J8' (.ref p8) (.list [.str "key", .str d.shown, .bool true]) := .lst e8 (.cons (.str _) (.cons (.str _) (.cons (.bl _) .nil)))
              refine r_neSame (Dd.same s8 _ _ d7) dl rfl (show 1 ≤ 60 by decide) ?_
              walk_at "tx"
              have sb := s67.trans s8
              exact ⟨⟨_, rfl⟩, ex4.trans (ex5'.trans (ext_same sb)), tbJ5.ext sb⟩
          · obtain ⟨o12, rfl⟩ := hσ
            obtain ⟨exI, tbI⟩ := G
            dsimp only
            exact ⟨_, _, _, _, _, _, _, _, _, _, _, _, rfl, exAll.trans exI, tbI⟩
      · have c : wordS (Str.ofString "q") = false := c
        have c2 : wordS (Str.ofString "q") = true := by decide +kernel
        rw [c2] at c
        cases c
  · rintro σ H1 ⟨o1, o2, o3, o4, o5, o6, o7, o8, o9, o10, o11, o12, rfl, ex1, tb1⟩
    walk_at "tx"
    exact k _
end
end K05

set_option Elab.async false
set_option linter.all false
set_option maxRecDepth 100000
set_option maxHeartbeats 4000000
namespace K05
open PySem PySem.Spec PyProof.Rows L2 Tk Ts CwR
section
abbrev s_ini_NoEntry : Stmt := inClass (top 5) 0
theorem sc_ini_NoEntry : FnScope ["self", "value"] ["self", "value"] (defScope s_ini_NoEntry) := ⟨rfl, rfl, rfl, by decide +kernel, rfl, by decide +kernel, by decide +kernel⟩
abbrev s_ini_BadEntries : Stmt := inClass (top 3) 0
theorem sc_ini_BadEntries : FnScope ["self", "value"] ["self", "value"] (defScope s_ini_BadEntries) := ⟨rfl, rfl, rfl, by decide +kernel, rfl, by decide +kernel, by decide +kernel⟩
abbrev s_ini_BadKey : Stmt := inClass (top 4) 0
theorem sc_ini_BadKey : FnScope ["self", "value"] ["self", "value"] (defScope s_ini_BadKey) := ⟨rfl, rfl, rfl, by decide +kernel, rfl, by decide +kernel, by decide +kernel⟩
end
theorem all_mk {l : PySem.W.OpenLaw} {w : World} {K : PySem.W.Frag} {h : Heap} {mg : Str → Option Value} {fa : Addr} {t1 t2 t3 : Tok} (X : K.In h) (G : h.Ns mainGlobals mg) (hfa : mg "law" = some (.ref fa))
    {C_TombError : Addr}
    {C_BadEntries fI0 : Addr} {nm0 q0 : Str} {N0 : Addr} {bs0 : List Value} {sn0 : List Str} {sub0 : List Value} {ab0 : Bool} {col0 : Option Bool} {dd0 : Option Addr} {ma0 mb0 mc0 md0 me0 : Option Value} {iod0 ian0 : Option Addr} {isl0 : Array (Option Value)} {ioc0 ikV0 idc0 ipm0 icd0 ict0 : Value}
    {C_BadKey fI1 : Addr} {nm1 q1 : Str} {N1 : Addr} {bs1 : List Value} {sn1 : List Str} {sub1 : List Value} {ab1 : Bool} {col1 : Option Bool} {dd1 : Option Addr} {ma1 mb1 mc1 md1 me1 : Option Value} {iod1 ian1 : Option Addr} {isl1 : Array (Option Value)} {ioc1 ikV1 idc1 ipm1 icd1 ict1 : Value}
    {od0 an0 : Option Addr} {sl0 : Array (Option Value)} {oc0 kV0 dc0 pm0 cd0 ct0 : Value} {f0 : Addr}
    {od1 an1 : Option Addr} {sl1 : Array (Option Value)} {oc1 kV1 dc1 pm1 cd1 ct1 : Value} {f1 : Addr}
    {od2 an2 : Option Addr} {sl2 : Array (Option Value)} {oc2 kV2 dc2 pm2 cd2 ct2 : Value} {f2 : Addr}
    {od3 an3 : Option Addr} {sl3 : Array (Option Value)} {oc3 kV3 dc3 pm3 cd3 ct3 : Value} {f3 : Addr}
    {od4 an4 : Option Addr} {sl4 : Array (Option Value)} {oc4 kV4 dc4 pm4 cd4 ct4 : Value} {f4 : Addr}
    {od5 an5 : Option Addr} {sl5 : Array (Option Value)} {oc5 kV5 dc5 pm5 cd5 ct5 : Value} {f5 : Addr}
    {od6 an6 : Option Addr} {sl6 : Array (Option Value)} {oc6 kV6 dc6 pm6 cd6 ct6 : Value} {f6 : Addr}
    {od7 an7 : Option Addr} {sl7 : Array (Option Value)} {oc7 kV7 dc7 pm7 cd7 ct7 : Value} {f7 : Addr}
    {od8 an8 : Option Addr} {sl8 : Array (Option Value)} {oc8 kV8 dc8 pm8 cd8 ct8 : Value} {f8 : Addr}
    {od9 an9 : Option Addr} {sl9 : Array (Option Value)} {oc9 kV9 dc9 pm9 cd9 ct9 : Value} {f9 : Addr}
    {od10 an10 : Option Addr} {sl10 : Array (Option Value)} {oc10 kV10 dc10 pm10 cd10 ct10 : Value} {f10 : Addr}
    {od11 an11 : Option Addr} {sl11 : Array (Option Value)} {oc11 kV11 dc11 pm11 ct11 : Value} {f11 lc : Addr}
    {C : Addr} {dT dE : Addr} {dn den : Nat} {ddx dex : Option Addr} {dsl desl : Array (Option Value)}
    {C_NoEntry fIN : Addr} {nmN qN : Str} {NN : Addr} {bsN : List Value} {snN : List Str} {subN : List Value} {abN : Bool} {colN : Option Bool} {ddN : Option Addr} {maN mbN mcN mdN meN : Option Value} {iodN ianN : Option Addr} {islN : Array (Option Value)} {iocN ikVN idcN ipmN icdN ictN : Value}
    {wod0 wan0 : Option Addr} {wsl0 : Array (Option Value)} {woc0 wkV0 wdc0 wpm0 wcd0 wct0 : Value} {wf0 : Addr}
    {wod1 wan1 : Option Addr} {wsl1 : Array (Option Value)} {woc1 wkV1 wdc1 wpm1 wcd1 wct1 : Value} {wf1 : Addr}
    {wod2 wan2 : Option Addr} {wsl2 : Array (Option Value)} {woc2 wkV2 wdc2 wpm2 wcd2 wct2 : Value} {wf2 : Addr}
    {wod3 wan3 : Option Addr} {wsl3 : Array (Option Value)} {woc3 wkV3 wdc3 wpm3 wcd3 wct3 : Value} {wf3 : Addr}
    {wod4 wan4 : Option Addr} {wsl4 : Array (Option Value)} {woc4 wkV4 wdc4 wpm4 wcd4 wct4 : Value} {wf4 : Addr}
    {wod5 wan5 : Option Addr} {wsl5 : Array (Option Value)} {woc5 wkV5 wdc5 wpm5 wcd5 wct5 : Value} {wf5 : Addr}
    {wod6 wan6 : Option Addr} {wsl6 : Array (Option Value)} {woc6 wkV6 wdc6 wpm6 wcd6 wct6 : Value} {wf6 : Addr}
    {wod7 wan7 : Option Addr} {wsl7 : Array (Option Value)} {woc7 wkV7 wdc7 wpm7 wcd7 wct7 : Value} {wf7 : Addr}
    {P0 : Addr}
    (r_a : PySem.W.nsIn K mainGlobals "TombError" = some (some (.ref C_TombError))) (r_t : PySem.W.typeIn K (.ref C_TombError) = some (.type "type")) (r_d : PySem.W.hasDictIn K C_TombError = true)
    (x0a : PySem.W.nsIn K mainGlobals "BadEntries" = some (some (.ref C_BadEntries))) (x0l : K.lookup C_BadEntries = some (excClassObj nm0 q0 C_BadEntries N0 bs0 [.ref C_TombError, .type "ValueError", .type "Exception", .type "BaseException", .type "object"] true sn0 sub0 ab0 col0 dd0 ma0 mb0 mc0 md0 me0 "ValueError.__new__")) (x0sa : PySem.W.findIn K (.ref C_BadEntries) "__setattr__" = some (some (.builtin "object.__setattr__"))) (x0ga : PySem.W.findIn K (.ref C_BadEntries) "__getattribute__" = some (some (.builtin "BaseException.__getattribute__"))) (x0gg : PySem.W.findIn K (.ref C_BadEntries) "__getattr__" = some none) (x0nv : PySem.W.findIn K (.ref C_BadEntries) "value" = some none) (x0in : PySem.W.findIn K (.ref C_BadEntries) "__init__" = some (some (.ref fI0))) (x0ti : PySem.W.typeIn K (.ref fI0) = some (.type "function")) (x0il : K.lookup fI0 = some ⟨ioc0, iod0, .func (PySem.W.fnOf "__init__" "BadEntries.__init__" (defArgs s_ini_BadEntries) (defBody s_ini_BadEntries) (defScope s_ini_BadEntries) .none ikV0 idc0 ipm0 ian0 icd0 ict0), isl0⟩) (x0ic : PySem.W.codeIn K icd0 "BadEntries.__init__" = true) (x0ik : PySem.W.keepIn K (.ref fI0) = true) (x0k : PySem.W.keepIn K (.ref C_BadEntries) = true) (x0be : PySem.W.subIn K (.ref C_BadEntries) (.type "BaseException") = some true) (x0ve : PySem.W.subIn K (.ref C_BadEntries) (.type "ValueError") = some true) (x0re : PySem.W.subIn K (.ref C_BadEntries) (.ref C_TombError) = some true) (x0se : PySem.W.subIn K (.ref C_BadEntries) (.ref C_BadEntries) = some true) (x0t : PySem.W.typeIn K (.ref C_BadEntries) = some (.type "type")) (x0d : PySem.W.hasDictIn K C_BadEntries = true) (x0c : PySem.W.isClsIn K C_BadEntries = true)
    (x1a : PySem.W.nsIn K mainGlobals "BadKey" = some (some (.ref C_BadKey))) (x1l : K.lookup C_BadKey = some (excClassObj nm1 q1 C_BadKey N1 bs1 [.ref C_TombError, .type "ValueError", .type "Exception", .type "BaseException", .type "object"] true sn1 sub1 ab1 col1 dd1 ma1 mb1 mc1 md1 me1 "ValueError.__new__")) (x1sa : PySem.W.findIn K (.ref C_BadKey) "__setattr__" = some (some (.builtin "object.__setattr__"))) (x1ga : PySem.W.findIn K (.ref C_BadKey) "__getattribute__" = some (some (.builtin "BaseException.__getattribute__"))) (x1gg : PySem.W.findIn K (.ref C_BadKey) "__getattr__" = some none) (x1nv : PySem.W.findIn K (.ref C_BadKey) "value" = some none) (x1in : PySem.W.findIn K (.ref C_BadKey) "__init__" = some (some (.ref fI1))) (x1ti : PySem.W.typeIn K (.ref fI1) = some (.type "function")) (x1il : K.lookup fI1 = some ⟨ioc1, iod1, .func (PySem.W.fnOf "__init__" "BadKey.__init__" (defArgs s_ini_BadKey) (defBody s_ini_BadKey) (defScope s_ini_BadKey) .none ikV1 idc1 ipm1 ian1 icd1 ict1), isl1⟩) (x1ic : PySem.W.codeIn K icd1 "BadKey.__init__" = true) (x1ik : PySem.W.keepIn K (.ref fI1) = true) (x1k : PySem.W.keepIn K (.ref C_BadKey) = true) (x1be : PySem.W.subIn K (.ref C_BadKey) (.type "BaseException") = some true) (x1ve : PySem.W.subIn K (.ref C_BadKey) (.type "ValueError") = some true) (x1re : PySem.W.subIn K (.ref C_BadKey) (.ref C_TombError) = some true) (x1se : PySem.W.subIn K (.ref C_BadKey) (.ref C_BadKey) = some true) (x1t : PySem.W.typeIn K (.ref C_BadKey) = some (.type "type")) (x1d : PySem.W.hasDictIn K C_BadKey = true) (x1c : PySem.W.isClsIn K C_BadKey = true)
    (a0 : PySem.W.nsIn K mainGlobals "is_word" = some (some (.ref f0))) (l0 : K.lookup f0 = some ⟨oc0, od0, .func (PySem.W.fnOf "is_word" "is_word" (defArgs s_is_word) (defBody s_is_word) (defScope s_is_word) .none kV0 dc0 pm0 an0 cd0 ct0), sl0⟩) (c0 : PySem.W.codeIn K cd0 "is_word" = true) (k0 : PySem.W.keepIn K (.ref f0) = true)
    (a1 : PySem.W.nsIn K mainGlobals "is_value" = some (some (.ref f1))) (l1 : K.lookup f1 = some ⟨oc1, od1, .func (PySem.W.fnOf "is_value" "is_value" (defArgs s_is_value) (defBody s_is_value) (defScope s_is_value) .none kV1 dc1 pm1 an1 cd1 ct1), sl1⟩) (c1 : PySem.W.codeIn K cd1 "is_value" = true) (k1 : PySem.W.keepIn K (.ref f1) = true)
    (a2 : PySem.W.nsIn K mainGlobals "is_number" = some (some (.ref f2))) (l2 : K.lookup f2 = some ⟨oc2, od2, .func (PySem.W.fnOf "is_number" "is_number" (defArgs s_is_number) (defBody s_is_number) (defScope s_is_number) .none kV2 dc2 pm2 an2 cd2 ct2), sl2⟩) (c2 : PySem.W.codeIn K cd2 "is_number" = true) (k2 : PySem.W.keepIn K (.ref f2) = true)
    (a3 : PySem.W.nsIn K mainGlobals "is_stamp" = some (some (.ref f3))) (l3 : K.lookup f3 = some ⟨oc3, od3, .func (PySem.W.fnOf "is_stamp" "is_stamp" (defArgs s_is_stamp) (defBody s_is_stamp) (defScope s_is_stamp) .none kV3 dc3 pm3 an3 cd3 ct3), sl3⟩) (c3 : PySem.W.codeIn K cd3 "is_stamp" = true) (k3 : PySem.W.keepIn K (.ref f3) = true)
    (a4 : PySem.W.nsIn K mainGlobals "is_entry" = some (some (.ref f4))) (l4 : K.lookup f4 = some ⟨oc4, od4, .func (PySem.W.fnOf "is_entry" "is_entry" (defArgs s_is_entry) (defBody s_is_entry) (defScope s_is_entry) .none kV4 dc4 pm4 an4 cd4 ct4), sl4⟩) (c4 : PySem.W.codeIn K cd4 "is_entry" = true) (k4 : PySem.W.keepIn K (.ref f4) = true)
    (a5 : PySem.W.nsIn K mainGlobals "_are_entries" = some (some (.ref f5))) (l5 : K.lookup f5 = some ⟨oc5, od5, .func (PySem.W.fnOf "_are_entries" "_are_entries" (defArgs s_are_entries) (defBody s_are_entries) (defScope s_are_entries) .none kV5 dc5 pm5 an5 cd5 ct5), sl5⟩) (c5 : PySem.W.codeIn K cd5 "_are_entries" = true) (k5 : PySem.W.keepIn K (.ref f5) = true)
    (a6 : PySem.W.nsIn K mainGlobals "_law_pool" = some (some (.ref f6))) (l6 : K.lookup f6 = some ⟨oc6, od6, .func (PySem.W.fnOf "_law_pool" "_law_pool" (defArgs s_L_pool) (defBody s_L_pool) (defScope s_L_pool) .none kV6 dc6 pm6 an6 cd6 ct6), sl6⟩) (c6 : PySem.W.codeIn K cd6 "_law_pool" = true) (k6 : PySem.W.keepIn K (.ref f6) = true)
    (a7 : PySem.W.nsIn K mainGlobals "_law_take" = some (some (.ref f7))) (l7 : K.lookup f7 = some ⟨oc7, od7, .func (PySem.W.fnOf "_law_take" "_law_take" (defArgs s_L_take) (defBody s_L_take) (defScope s_L_take) .none kV7 dc7 pm7 an7 cd7 ct7), sl7⟩) (c7 : PySem.W.codeIn K cd7 "_law_take" = true) (k7 : PySem.W.keepIn K (.ref f7) = true)
    (a8 : PySem.W.nsIn K mainGlobals "_law_entries" = some (some (.ref f8))) (l8 : K.lookup f8 = some ⟨oc8, od8, .func (PySem.W.fnOf "_law_entries" "_law_entries" (defArgs s_L_entries) (defBody s_L_entries) (defScope s_L_entries) .none kV8 dc8 pm8 an8 cd8 ct8), sl8⟩) (c8 : PySem.W.codeIn K cd8 "_law_entries" = true) (k8 : PySem.W.keepIn K (.ref f8) = true)
    (a9 : PySem.W.nsIn K mainGlobals "_law_refused" = some (some (.ref f9))) (l9 : K.lookup f9 = some ⟨oc9, od9, .func (PySem.W.fnOf "_law_refused" "_law_refused" (defArgs s_L_refused) (defBody s_L_refused) (defScope s_L_refused) .none kV9 dc9 pm9 an9 cd9 ct9), sl9⟩) (c9 : PySem.W.codeIn K cd9 "_law_refused" = true) (k9 : PySem.W.keepIn K (.ref f9) = true)
    (a10 : PySem.W.nsIn K mainGlobals "_law_told" = some (some (.ref f10))) (l10 : K.lookup f10 = some ⟨oc10, od10, .func (PySem.W.fnOf "_law_told" "_law_told" (defArgs s_L_told) (defBody s_L_told) (defScope s_L_told) .none kV10 dc10 pm10 an10 cd10 ct10), sl10⟩) (c10 : PySem.W.codeIn K cd10 "_law_told" = true) (k10 : PySem.W.keepIn K (.ref f10) = true)
    (a11 : PySem.W.nsIn K mainGlobals "law" = some (some (.ref f11))) (l11 : K.lookup f11 = some ⟨oc11, od11, .func (PySem.W.fnOf "law" "law" (defArgs s_law) (defBody s_law) (defScope s_law) .none kV11 dc11 pm11 an11 (.ref lc) ct11), sl11⟩) (c11 : PySem.W.codeIn K (.ref lc) "law" = true) (k11 : PySem.W.keepIn K (.ref f11) = true)
    (c_a : PySem.W.nsIn K mainGlobals "Content" = some (some (.ref C)))
    (c_pg : PySem.W.plainGet K C Str.empty = true)
    (c_hd : PySem.W.hasDictIn K C = true)
    (c_po : PySem.W.plainOver K C = true)
    (c_sa : PySem.W.findIn K (.ref C) "__setattr__" = some (some (.builtin "object.__setattr__")))
    (c_mk : PySem.W.makesIn K C = true)
    (c_kc : PySem.W.keepIn K (.ref C) = true)
    (c_nt : PySem.W.findIn K (.ref C) "_table" = some none)
    (c_sf : PySem.W.selfFirst K C = true)
    (c_ne : PySem.W.findIn K (.ref C) "__ne__" = some (some (.builtin "object.__ne__")))
    (c_mo : PySem.W.mroIn K C (.type "object") = some true)
    (c_cl : PySem.W.findIn K (.ref C) "__class__" = some (some (.builtin "object.__class__")))
    (c_sp : PySem.W.specialIn K (.builtin "object.__class__") "__get__" = some (some (.builtin "getset_descriptor.__get__")))
    (c_tk : PySem.W.takesIn K (.builtin "object.__class__") = some true)
    (c_nl : PySem.W.notFirst K C (.type "list") = true)
    (c_nu : PySem.W.notFirst K C (.type "tuple") = true)
    (c_il : PySem.W.kitOne K (.type "list") (.ref C) = some false)
    (c_iu : PySem.W.kitOne K (.type "tuple") (.ref C) = some false)
    (ya : PySem.W.nsIn K mainGlobals "NoEntry" = some (some (.ref C_NoEntry)))
    (yl : K.lookup C_NoEntry = some (excClassObj nmN qN C_NoEntry NN bsN keyMro true snN subN abN colN ddN maN mbN mcN mdN meN "LookupError.__new__"))
    (yin : PySem.W.findIn K (.ref C_NoEntry) "__init__" = some (some (.ref fIN)))
    (yti : PySem.W.typeIn K (.ref fIN) = some (.type "function"))
    (yil : K.lookup fIN = some ⟨iocN, iodN, .func (PySem.W.fnOf "__init__" "NoEntry.__init__" (defArgs s_ini_NoEntry) (defBody s_ini_NoEntry) (defScope s_ini_NoEntry) .none ikVN idcN ipmN ianN icdN ictN), islN⟩)
    (yic : PySem.W.codeIn K icdN "NoEntry.__init__" = true)
    (yik : PySem.W.keepIn K (.ref fIN) = true)
    (yk : PySem.W.keepIn K (.ref C_NoEntry) = true)
    (yo : PySem.W.excOver K C_NoEntry keyMro = true)
    (ysa : PySem.W.findIn K (.ref C_NoEntry) "__setattr__" = some (some (.builtin "object.__setattr__")))
    (yga : PySem.W.findIn K (.ref C_NoEntry) "__getattribute__" = some (some (.builtin "BaseException.__getattribute__")))
    (ygg : PySem.W.findIn K (.ref C_NoEntry) "__getattr__" = some none)
    (ynv : PySem.W.findIn K (.ref C_NoEntry) "value" = some none)
    (ybe : PySem.W.subIn K (.ref C_NoEntry) (.type "BaseException") = some true)
    (yke : PySem.W.subIn K (.ref C_NoEntry) (.type "KeyError") = some true)
    (yt : PySem.W.typeIn K (.ref C_NoEntry) = some (.type "type"))
    (yd : PySem.W.hasDictIn K C_NoEntry = true)
    (e2 : PySem.W.exmOne K (.ref C_BadKey) (.ref C_BadEntries) = some false)
    (e4 : PySem.W.exmOne K (.ref C_NoEntry) (.ref C_BadEntries) = some false)
    (e5 : PySem.W.exmOne K (.ref C_NoEntry) (.ref C_BadKey) = some false)
    (e6 : PySem.W.exmOne K (.ref C_NoEntry) (.ref C_NoEntry) = some true)
    (z_KeyError : PySem.W.nsIn K mainGlobals "KeyError" = some none)
    (wa0 : PySem.W.findIn K (.ref C) "__init__" = some (some (.ref wf0)))
    (wi0 : PySem.W.isFn K (.ref wf0) = true)
    (wl0 : K.lookup wf0 = some ⟨woc0, wod0, .func (PySem.W.fnOf "__init__" "Content.__init__" (defArgs s_Content___init__) (defBody s_Content___init__) (defScope s_Content___init__) (.ref dT) wkV0 wdc0 wpm0 wan0 wcd0 wct0), wsl0⟩)
    (wc0 : PySem.W.codeIn K wcd0 "Content.__init__" = true)
    (wk0 : PySem.W.keepIn K (.ref wf0) = true)
    (wa1 : PySem.W.findIn K (.ref C) "__contains__" = some (some (.ref wf1)))
    (wi1 : PySem.W.isFn K (.ref wf1) = true)
    (wl1 : K.lookup wf1 = some ⟨woc1, wod1, .func (PySem.W.fnOf "__contains__" "Content.__contains__" (defArgs s_Content___contains__) (defBody s_Content___contains__) (defScope s_Content___contains__) .none wkV1 wdc1 wpm1 wan1 wcd1 wct1), wsl1⟩)
    (wc1 : PySem.W.codeIn K wcd1 "Content.__contains__" = true)
    (wk1 : PySem.W.keepIn K (.ref wf1) = true)
    (wa2 : PySem.W.findIn K (.ref C) "entries" = some (some (.ref wf2)))
    (wi2 : PySem.W.isFn K (.ref wf2) = true)
    (wl2 : K.lookup wf2 = some ⟨woc2, wod2, .func (PySem.W.fnOf "entries" "Content.entries" (defArgs s_Content_entries) (defBody s_Content_entries) (defScope s_Content_entries) .none wkV2 wdc2 wpm2 wan2 wcd2 wct2), wsl2⟩)
    (wc2 : PySem.W.codeIn K wcd2 "Content.entries" = true)
    (wk2 : PySem.W.keepIn K (.ref wf2) = true)
    (wa3 : PySem.W.findIn K (.ref C) "key_list" = some (some (.ref wf3)))
    (wi3 : PySem.W.isFn K (.ref wf3) = true)
    (wl3 : K.lookup wf3 = some ⟨woc3, wod3, .func (PySem.W.fnOf "key_list" "Content.key_list" (defArgs s_Content_key_list) (defBody s_Content_key_list) (defScope s_Content_key_list) .none wkV3 wdc3 wpm3 wan3 wcd3 wct3), wsl3⟩)
    (wc3 : PySem.W.codeIn K wcd3 "Content.key_list" = true)
    (wk3 : PySem.W.keepIn K (.ref wf3) = true)
    (wa4 : PySem.W.findIn K (.ref C) "__len__" = some (some (.ref wf4)))
    (wi4 : PySem.W.isFn K (.ref wf4) = true)
    (wl4 : K.lookup wf4 = some ⟨woc4, wod4, .func (PySem.W.fnOf "__len__" "Content.__len__" (defArgs s_Content___len__) (defBody s_Content___len__) (defScope s_Content___len__) .none wkV4 wdc4 wpm4 wan4 wcd4 wct4), wsl4⟩)
    (wc4 : PySem.W.codeIn K wcd4 "Content.__len__" = true)
    (wk4 : PySem.W.keepIn K (.ref wf4) = true)
    (wa5 : PySem.W.findIn K (.ref C) "__getitem__" = some (some (.ref wf5)))
    (wi5 : PySem.W.isFn K (.ref wf5) = true)
    (wl5 : K.lookup wf5 = some ⟨woc5, wod5, .func (PySem.W.fnOf "__getitem__" "Content.__getitem__" (defArgs s_Content___getitem__) (defBody s_Content___getitem__) (defScope s_Content___getitem__) .none wkV5 wdc5 wpm5 wan5 wcd5 wct5), wsl5⟩)
    (wc5 : PySem.W.codeIn K wcd5 "Content.__getitem__" = true)
    (wk5 : PySem.W.keepIn K (.ref wf5) = true)
    (wa6 : PySem.W.findIn K (.ref C) "shows" = some (some (.ref wf6)))
    (wi6 : PySem.W.isFn K (.ref wf6) = true)
    (wl6 : K.lookup wf6 = some ⟨woc6, wod6, .func (PySem.W.fnOf "shows" "Content.shows" (defArgs s_Content_shows) (defBody s_Content_shows) (defScope s_Content_shows) .none wkV6 wdc6 wpm6 wan6 wcd6 wct6), wsl6⟩)
    (wc6 : PySem.W.codeIn K wcd6 "Content.shows" = true)
    (wk6 : PySem.W.keepIn K (.ref wf6) = true)
    (wa7 : PySem.W.findIn K (.ref C) "__eq__" = some (some (.ref wf7)))
    (wi7 : PySem.W.isFn K (.ref wf7) = true)
    (wl7 : K.lookup wf7 = some ⟨woc7, wod7, .func (PySem.W.fnOf "__eq__" "Content.__eq__" (defArgs s_Content___eq__) (defBody s_Content___eq__) (defScope s_Content___eq__) .none wkV7 wdc7 wpm7 wan7 wcd7 wct7), wsl7⟩)
    (wc7 : PySem.W.codeIn K wcd7 "Content.__eq__" = true)
    (wk7 : PySem.W.keepIn K (.ref wf7) = true)
    (wg : PySem.W.fnIn K wf5 = true)
    (d_l : K.lookup dT = some ⟨.type "tuple", ddx, .seq #[.ref dE] dn, dsl⟩)
    (d_e : K.lookup dE = some ⟨.type "tuple", dex, .seq #[] den, desl⟩)
    (tG : h.get? P0 = some (PySem.W.tabObj #[]))
    (tN : K.lookup P0 = none)
    (tC : PySem.W.codeHdIn K lc P0 = true)
    (z_len : PySem.W.nsIn K mainGlobals "len" = some none)
    (z_all : PySem.W.nsIn K mainGlobals "all" = some none)
    (z_isinstance : PySem.W.nsIn K mainGlobals "isinstance" = some none)
    (z_str : PySem.W.nsIn K mainGlobals "str" = some none)
    (z_tuple : PySem.W.nsIn K mainGlobals "tuple" = some none)
    (z_int : PySem.W.nsIn K mainGlobals "int" = some none)
    (z_bool : PySem.W.nsIn K mainGlobals "bool" = some none)
    (z_list : PySem.W.nsIn K mainGlobals "list" = some none)
    (z_set : PySem.W.nsIn K mainGlobals "set" = some none)
    (z_dict : PySem.W.nsIn K mainGlobals "dict" = some none)
    (z_sorted : PySem.W.nsIn K mainGlobals "sorted" = some none)
    (z_repr : PySem.W.nsIn K mainGlobals "repr" = some none)
    (z_range : PySem.W.nsIn K mainGlobals "range" = some none)
    (z_max : PySem.W.nsIn K mainGlobals "max" = some none)
    (z_min : PySem.W.nsIn K mainGlobals "min" = some none)
    (g_LONGEST_WORD : PySem.W.nsIn K mainGlobals "LONGEST_WORD" = some (some (.int 8 t1)))
    (g_LONGEST_VALUE : PySem.W.nsIn K mainGlobals "LONGEST_VALUE" = some (some (.int 40 t2)))
    (g_GREATEST_NUMBER : PySem.W.nsIn K mainGlobals "GREATEST_NUMBER" = some (some (.int 1000000000000000 t3))) :
    LawGT l w K 10 "_law_script" mg fa h := by
  have e := hfa.symm.trans (PySem.W.mg_of X G a11)
  cases e
  have T : Txt mg t1 t2 t3 := ⟨PySem.W.mg_none_of X G z_len, PySem.W.mg_none_of X G z_all, PySem.W.mg_none_of X G z_isinstance, PySem.W.mg_none_of X G z_str, PySem.W.mg_none_of X G z_tuple, PySem.W.mg_none_of X G z_int, PySem.W.mg_none_of X G z_bool, PySem.W.mg_none_of X G z_list, PySem.W.mg_none_of X G z_set, PySem.W.mg_none_of X G z_dict, PySem.W.mg_none_of X G z_sorted, PySem.W.mg_none_of X G z_repr, PySem.W.mg_none_of X G z_range, PySem.W.mg_none_of X G z_max, PySem.W.mg_none_of X G z_min, PySem.W.mg_of X G g_LONGEST_WORD, PySem.W.mg_of X G g_LONGEST_VALUE, PySem.W.mg_of X G g_GREATEST_NUMBER⟩
  have hRoot := PySem.W.mg_of X G r_a
  have CC : ContC K C := ⟨⟨c_pg, c_hd, c_po, c_sa⟩, c_nt⟩
  have CI : ContI K C := ⟨c_cl, c_sp, c_tk, c_mo⟩
  have FI : FunD K "__init__" "Content.__init__" (defArgs s_Content___init__) (defBody s_Content___init__) (defScope s_Content___init__) [.ref dE] [] wf0 (PySem.W.fnOf "__init__" "Content.__init__" (defArgs s_Content___init__) (defBody s_Content___init__) (defScope s_Content___init__) (.ref dT) wkV0 wdc0 wpm0 wan0 wcd0 wct0) := ⟨⟨woc0, wod0, _, wkV0, wdc0, wpm0, wan0, wcd0, wct0, wsl0, rfl, wl0, wc0, .inr ⟨by simp, dT, _, [Value.ref dE], dn, rfl, d_l, rfl, .cons rfl .nil⟩, .inl rfl⟩, wk0⟩
  have bI0 : Binds K (PySem.W.fnOf "__init__" "Content.__init__" (defArgs s_Content___init__) (defBody s_Content___init__) (defScope s_Content___init__) (.ref dT) wkV0 wdc0 wpm0 wan0 wcd0 wct0) ["self", "entries"] [] := by
    obtain ⟨ds, v0, b0⟩ := FunD.binds1 FI (ps := ["self", "entries"]) 2 1 (by simp) rfl (fun T kV doc pm an cdv ct us its h1 h2 => match us, its, h1, h2 with | [_, _], [_], _, _ => ⟨_, rfl, rfl⟩)
    cases v0
    exact b0
  obtain ⟨ds1, vd1, bI1⟩ : ∃ ds, Vals [V.ref dE] ds ∧ Binds K (PySem.W.fnOf "__init__" "Content.__init__" (defArgs s_Content___init__) (defBody s_Content___init__) (defScope s_Content___init__) (.ref dT) wkV0 wdc0 wpm0 wan0 wcd0 wct0) ["self", "entries"] ds := FunD.binds1 FI (ps := ["self", "entries"]) 1 0 (by simp) rfl (fun T kV doc pm an cdv ct us its h1 h2 => match us, its, h1, h2 with | [_], [_], _, _ => ⟨_, rfl, rfl⟩)
  have hTT : ∀ H, SqT K H dE [] := fun H => .inr ⟨_, #[], den, d_e, rfl, rfl, by decide, .nil⟩
  have tb1 := PySem.W.codeHd_of_K X tC
  have FM1 := fun_mk (st := s_Content___contains__) wl1 wc1 wk1
  have bM1 := FM1.binds (ps := p_Content___contains__) fun _ _ _ _ _ _ us hl => match us, hl with | [_, _], _ => rfl
  have FM2 := fun_mk (st := s_Content_entries) wl2 wc2 wk2
  have bM2 := FM2.binds (ps := p_Content_entries) fun _ _ _ _ _ _ us hl => match us, hl with | [_], _ => rfl
  have FM3 := fun_mk (st := s_Content_key_list) wl3 wc3 wk3
  have bM3 := FM3.binds (ps := p_Content_key_list) fun _ _ _ _ _ _ us hl => match us, hl with | [_], _ => rfl
  have FM4 := fun_mk (st := s_Content___len__) wl4 wc4 wk4
  have bM4 := FM4.binds (ps := p_Content___len__) fun _ _ _ _ _ _ us hl => match us, hl with | [_], _ => rfl
  have FM5 := fun_mk (st := s_Content___getitem__) wl5 wc5 wk5
  have bM5 := FM5.binds (ps := p_Content___getitem__) fun _ _ _ _ _ _ us hl => match us, hl with | [_, _], _ => rfl
  have FM6 := fun_mk (st := s_Content_shows) wl6 wc6 wk6
  have bM6 := FM6.binds (ps := p_Content_shows) fun _ _ _ _ _ _ us hl => match us, hl with | [_, _], _ => rfl
  have FM7 := fun_mk (st := s_Content___eq__) wl7 wc7 wk7
  have bM7 := FM7.binds (ps := p_Content___eq__) fun _ _ _ _ _ _ us hl => match us, hl with | [_, _], _ => rfl
  have F_is_word := fun_mk (st := s_is_word) l0 c0 k0
  have b_is_word := F_is_word.binds (ps := p_is_word) fun _ _ _ _ _ _ us hl => match us, hl with | [_], _ => rfl
  have F_is_value := fun_mk (st := s_is_value) l1 c1 k1
  have b_is_value := F_is_value.binds (ps := p_is_value) fun _ _ _ _ _ _ us hl => match us, hl with | [_], _ => rfl
  have F_is_number := fun_mk (st := s_is_number) l2 c2 k2
  have b_is_number := F_is_number.binds (ps := p_is_number) fun _ _ _ _ _ _ us hl => match us, hl with | [_], _ => rfl
  have F_is_stamp := fun_mk (st := s_is_stamp) l3 c3 k3
  have b_is_stamp := F_is_stamp.binds (ps := p_is_stamp) fun _ _ _ _ _ _ us hl => match us, hl with | [_], _ => rfl
  have F_is_entry := fun_mk (st := s_is_entry) l4 c4 k4
  have b_is_entry := F_is_entry.binds (ps := p_is_entry) fun _ _ _ _ _ _ us hl => match us, hl with | [_], _ => rfl
  have F_are_entries := fun_mk (st := s_are_entries) l5 c5 k5
  have b_are_entries := F_are_entries.binds (ps := p_are_entries) fun _ _ _ _ _ _ us hl => match us, hl with | [_], _ => rfl
  have F_L_pool := fun_mk (st := s_L_pool) l6 c6 k6
  have b_L_pool := F_L_pool.binds (ps := p_L_pool) fun _ _ _ _ _ _ us hl => match us, hl with | [_, _], _ => rfl
  have F_L_take := fun_mk (st := s_L_take) l7 c7 k7
  have b_L_take := F_L_take.binds (ps := p_L_take) fun _ _ _ _ _ _ us hl => match us, hl with | [_, _], _ => rfl
  have F_L_entries := fun_mk (st := s_L_entries) l8 c8 k8
  have b_L_entries := F_L_entries.binds (ps := p_L_entries) fun _ _ _ _ _ _ us hl => match us, hl with | [_], _ => rfl
  have F_L_refused := fun_mk (st := s_L_refused) l9 c9 k9
  have b_L_refused := F_L_refused.binds (ps := p_L_refused) fun _ _ _ _ _ _ us hl => match us, hl with | [_], _ => rfl
  have F_L_told := fun_mk (st := s_L_told) l10 c10 k10
  have b_L_told := F_L_told.binds (ps := p_L_told) fun _ _ _ _ _ _ us hl => match us, hl with | [_, _], _ => rfl
  have F_law := fun_mk (st := s_law) l11 c11 k11
  have b_law := F_law.binds (ps := p_law) fun _ _ _ _ _ _ us hl => match us, hl with | [_], _ => rfl
  have FI_BadEntries := fun_mk (st := s_ini_BadEntries) x0il x0ic x0ik
  have bI_BadEntries := FI_BadEntries.binds (ps := ["self", "value"]) fun _ _ _ _ _ _ us hl => match us, hl with | [_, _], _ => rfl
  have O_BadEntries : OexC K C_BadEntries := ⟨⟨nm0, q0, N0, bs0, _, sn0, sub0, ab0, col0, dd0, ma0, mb0, mc0, md0, me0, x0l, (by show PySem.HandSPX.refsVE _ = true; decide +kernel : PySem.HandSPX.refsVE [.type "ValueError", .type "Exception", .type "BaseException", .type "object"] = true)⟩, x0sa, x0be, x0t, x0k⟩
  have XC_BadEntries : ExcCls K mg "BadEntries" C_BadEntries fI0 := ⟨PySem.W.mg_of X G x0a, O_BadEntries, x0nv, x0in, x0ti, ⟨x0ga, x0gg, x0be, x0d⟩, exm_own x0be x0c x0t x0se⟩
  have FI_BadKey := fun_mk (st := s_ini_BadKey) x1il x1ic x1ik
  have bI_BadKey := FI_BadKey.binds (ps := ["self", "value"]) fun _ _ _ _ _ _ us hl => match us, hl with | [_, _], _ => rfl
  have O_BadKey : OexC K C_BadKey := ⟨⟨nm1, q1, N1, bs1, _, sn1, sub1, ab1, col1, dd1, ma1, mb1, mc1, md1, me1, x1l, (by show PySem.HandSPX.refsVE _ = true; decide +kernel : PySem.HandSPX.refsVE [.type "ValueError", .type "Exception", .type "BaseException", .type "object"] = true)⟩, x1sa, x1be, x1t, x1k⟩
  have XC_BadKey : ExcCls K mg "BadKey" C_BadKey fI1 := ⟨PySem.W.mg_of X G x1a, O_BadKey, x1nv, x1in, x1ti, ⟨x1ga, x1gg, x1be, x1d⟩, exm_own x1be x1c x1t x1se⟩
  have one : ∀ {p : Addr × Addr}, p ∈ [(lc, P0)] → p = (lc, P0) := fun h => List.mem_singleton.mp h
  refine ⟨PySem.W.fnOf "law" "law" (defArgs s_law) (defBody s_law) (defScope s_law) .none kV11 dc11 pm11 an11 (.ref lc) ct11, [(lc, P0)], spLawT K P0, fun p hp => ?_, fun p hp => ?_, fun p hp => ?_, fun s v => .of_eq rfl, fun H a ns hl hT hS => ⟨a, ns, rfl, hS, hl, hT (lc, P0) (List.mem_singleton.mpr rfl), fun _ => rfl⟩, fun base _ _ hTB => ?_⟩
  · rw [one hp]; exact tG
  · rw [one hp]; exact tN
  · rw [one hp]; exact tb1
  have R_BadEntries : ExcR l.prog w K mg base "BadEntries" C_BadEntries := ⟨⟨fI0, _, XC_BadEntries, bI_BadEntries, ok_ini FI_BadEntries sc_ini_BadEntries ⟨_, _, _, _, rfl⟩ O_BadEntries x0nv⟩⟩
  have R_BadKey : ExcR l.prog w K mg base "BadKey" C_BadKey := ⟨⟨fI1, _, XC_BadKey, bI_BadKey, ok_ini FI_BadKey sc_ini_BadKey ⟨_, _, _, _, rfl⟩ O_BadKey x1nv⟩⟩
  have FI_NoEntry := fun_mk (st := s_ini_NoEntry) yil yic yik
  have bI_NoEntry := FI_NoEntry.binds (ps := ["self", "value"]) fun _ _ _ _ _ _ us hl => match us, hl with | [_, _], _ => rfl
  have kb_NoEntry := kb_kw (ks := (["self", "value"] : List Str).tail) (ps := ["self", "value"]) FI_NoEntry fun _ _ _ _ _ _ u ws hl => match ws, hl with | [_], _ => rfl
  have O_NoEntry : OexG K C_NoEntry := ⟨⟨nmN, qN, NN, bsN, _, snN, subN, abN, colN, ddN, maN, mbN, mcN, mdN, meN, _, _, _, _, yl, F.excBase_LookupError, by decide, by decide, by decide⟩, ⟨_, _, st_key, yo⟩, ysa, ybe, yt, yk⟩
  have R_NoEntry : ErrC l.prog w K mg base "NoEntry" C_NoEntry ["self", "value"] (spI1 K C_NoEntry) := ⟨PySem.W.mg_of X G ya, O_NoEntry, fIN, _, yin, yti, bI_NoEntry, kb_NoEntry, ok_i1 FI_NoEntry sc_ini_NoEntry ⟨_, _, _, _, rfl⟩ O_NoEntry ynv⟩
  have K_is_word := Cal.of (PySem.W.mg_of X G a0) k0 b_is_word (ok_is_word (P := l.prog) (w := w) (base := base) (T := T) (F := F_is_word) )
  have K_is_value := Cal.of (PySem.W.mg_of X G a1) k1 b_is_value (ok_is_value (P := l.prog) (w := w) (base := base) (T := T) (F := F_is_value) )
  have K_is_number := Cal.of (PySem.W.mg_of X G a2) k2 b_is_number (ok_is_number (P := l.prog) (w := w) (base := base) (T := T) (F := F_is_number) )
  have K_is_stamp := Cal.of (PySem.W.mg_of X G a3) k3 b_is_stamp (ok_is_stamp (P := l.prog) (w := w) (base := base) (T := T) (F := F_is_stamp) (K_is_number := K_is_number.mono (by decide)) (K_is_word := K_is_word.mono (by decide)))
  have K_is_entry := Cal.of (PySem.W.mg_of X G a4) k4 b_is_entry (ok_is_entry (P := l.prog) (w := w) (base := base) (T := T) (F := F_is_entry) (K_is_word := K_is_word.mono (by decide)) (K_is_stamp := K_is_stamp.mono (by decide)) (K_is_value := K_is_value.mono (by decide)))
  have K_are_entries := Cal.of (PySem.W.mg_of X G a5) k5 b_are_entries (ok_are_entries (P := l.prog) (w := w) (base := base) (T := T) (F := F_are_entries) (K_is_entry := K_is_entry.mono (by decide)))
  have K_are0 := Cal.of (PySem.W.mg_of X G a5) k5 b_are_entries (ok_are0 (P := l.prog) (w := w) (base := base) (T := T) (F := F_are_entries) (K_is_entry := K_is_entry.mono (by decide)))
  have K_Content : CalC l.prog w K mg base (L2.CX l.prog w) "Content" C 5 ["self", "entries"] (spInit K C C_BadEntries) := ⟨PySem.W.mg_of X G c_a, wf0, _, ⟨c_mk, wa0, wi0, c_kc⟩, bI0, ok_init (P := l.prog) (w := w) (base := base) CC R_BadEntries T FI (K_are_entries := K_are_entries.mono (by decide))⟩
  have K_Content0 : CalC0 l.prog w K mg base (L2.CX l.prog w) "Content" C 5 ["self", "entries"] [.ref dE] (spInit0 K C) := ⟨PySem.W.mg_of X G c_a, wf0, _, ds1, ⟨c_mk, wa0, wi0, c_kc⟩, bI1, vd1, ok_init0 (P := l.prog) (w := w) (base := base) CC R_BadEntries T FI (K_are_entries := K_are0.mono (by decide))⟩
  have K_contains : CalO l.prog w K mg base CX0 C _ "__contains__" _ := ⟨wf1, _, _, ⟨wa1, wi1⟩, bM1, ok_in (P := l.prog) (w := w) (base := base) CC T FM1⟩
  have K_Content_key_list : CalM l.prog w K mg base CX0 C _ "key_list" p_Content_key_list _ := ⟨CC.cls, wf3, _, ⟨wa3, wi3, wk3⟩, bM3, ok_keys (P := l.prog) (w := w) (base := base) CC T FM3⟩
  have K_Content_entries : CalM l.prog w K mg base CX0 C _ "entries" p_Content_entries _ := ⟨CC.cls, wf2, _, ⟨wa2, wi2, wk2⟩, bM2, ok_entries (P := l.prog) (w := w) (base := base) CC T FM2 (K_Content_key_list := K_Content_key_list)⟩
  have K_len : CalO l.prog w K mg base CX0 C _ "__len__" _ := ⟨wf4, _, _, ⟨wa4, wi4⟩, bM4, ok_len (P := l.prog) (w := w) (base := base) CC T FM4⟩
  have K_getitem : CalI l.prog w K mg base (L2.CX l.prog w) C 3 (spGet K C C_NoEntry) := ⟨wf5, _, _, ⟨wa5, wi5⟩, wg, bM5, ok_get (P := l.prog) (w := w) (base := base) CC R_NoEntry T FM5 K_contains⟩
  have K_Content_shows : CalM l.prog w K mg base (L2.CX l.prog w) C _ "shows" p_Content_shows _ := ⟨CC.cls, wf6, _, ⟨wa6, wi6, wk6⟩, bM6, ok_shows (P := l.prog) (w := w) (base := base) CC R_BadKey T FM6 (K_is_word := K_is_word.mono (by decide)) K_contains⟩
  have K_eq : CalO l.prog w K mg base CX0 C _ "__eq__" _ := ⟨wf7, _, _, ⟨wa7, wi7⟩, bM7, ok_eq (P := l.prog) (w := w) (base := base) CC CI c_il c_iu T FM7 K_Content⟩
  have K_L_pool := Cal.of (PySem.W.mg_of X G a6) k6 b_L_pool (ok_L_pool (P := l.prog) (w := w) (base := base) (T := T) (F := F_L_pool))
  have K_L_take := Cal.of (PySem.W.mg_of X G a7) k7 b_L_take (ok_L_take (P := l.prog) (w := w) (base := base) (T := T) (F := F_L_take))
  have K_L_entries := Cal.of (PySem.W.mg_of X G a8) k8 b_L_entries (ok_L_entries (P := l.prog) (w := w) (base := base) T F_L_entries K_L_take)
  have K_L_told := Cal.of (PySem.W.mg_of X G a10) k10 b_L_told (ok_L_told (P := l.prog) (w := w) (base := base) T F_L_told K_Content_entries K_Content_key_list K_Content_shows K_contains K_len K_getitem)
  have XE1 : ExcV K mg "BadEntries" C_BadEntries := ⟨XC_BadEntries.gC, XC_BadEntries.xf, XC_BadEntries.nv⟩
  have XE2 : ExcV K mg "BadKey" C_BadKey := ⟨XC_BadKey.gC, XC_BadKey.xf, XC_BadKey.nv⟩
  have XE3 : ExcV K mg "NoEntry" C_NoEntry := ⟨PySem.W.mg_of X G ya, ⟨yga, ygg, ybe, yd⟩, ynv⟩
  have TH : Three K C_BadEntries C_BadKey C_NoEntry C_TombError := ⟨XC_BadEntries.te, e2, XC_BadKey.te, e4, e5, e6, x0re, x1re, yke, r_t, r_d⟩
  exact ok_law T l11 c11 (hTB (lc, P0) (List.mem_singleton.mpr rfl)) CC c_ne c_mo c_nl c_nu XE1 XE2 XE3 TH hRoot (PySem.W.mg_none_of X G z_KeyError) hTT ⟨PySem.W.mg_of X G a9, k9, l9, c9, b_L_refused⟩ K_Content K_Content0 K_contains K_len K_eq K_getitem K_Content_entries K_Content_shows K_L_pool K_L_entries K_L_told
end K05
open PySem PySem.W PyProof.Rows
set_option maxRecDepth 100000 in
set_option maxHeartbeats 0 in
theorem PySem.Challenge.cw_tombkeeper_k05_contents_told_holds : PySem.Challenge.rw_tombkeeper_k05_contents_told.Holds := by
  w_on; o_law; k_head; (case hw => w_witness2)
  k_fill
  refine Tk.walkGT (l := PySem.Challenge.rw_tombkeeper_k05_contents_told) (k := 10) (x := "_law_script") rfl rfl ⟨rfl, by decide, by decide⟩ (fun w h Y => PySem.W.km_in_of Y) ?F
  case F =>
    intro w mg mb fa s0 h Y GG KX G hmg
    refine' K05.all_mk KX G hmg ?r_a ?r_t ?r_d ?x0a ?x0l ?x0sa ?x0ga ?x0gg ?x0nv ?x0in ?x0ti ?x0il ?x0ic ?x0ik ?x0k ?x0be ?x0ve ?x0re ?x0se ?x0t ?x0d ?x0c ?x1a ?x1l ?x1sa ?x1ga ?x1gg ?x1nv ?x1in ?x1ti ?x1il ?x1ic ?x1ik ?x1k ?x1be ?x1ve ?x1re ?x1se ?x1t ?x1d ?x1c ?a0 ?l0 ?c0 ?k0 ?a1 ?l1 ?c1 ?k1 ?a2 ?l2 ?c2 ?k2 ?a3 ?l3 ?c3 ?k3 ?a4 ?l4 ?c4 ?k4 ?a5 ?l5 ?c5 ?k5 ?a6 ?l6 ?c6 ?k6 ?a7 ?l7 ?c7 ?k7 ?a8 ?l8 ?c8 ?k8 ?a9 ?l9 ?c9 ?k9 ?a10 ?l10 ?c10 ?k10 ?a11 ?l11 ?c11 ?k11 ?c_a ?c_pg ?c_hd ?c_po ?c_sa ?c_mk ?c_kc ?c_nt ?c_sf ?c_ne ?c_mo ?c_cl ?c_sp ?c_tk ?c_nl ?c_nu ?c_il ?c_iu ?ya ?yl ?yin ?yti ?yil ?yic ?yik ?yk ?yo ?ysa ?yga ?ygg ?ynv ?ybe ?yke ?yt ?yd ?e2 ?e4 ?e5 ?e6 ?z_KeyError ?wa0 ?wi0 ?wl0 ?wc0 ?wk0 ?wa1 ?wi1 ?wl1 ?wc1 ?wk1 ?wa2 ?wi2 ?wl2 ?wc2 ?wk2 ?wa3 ?wi3 ?wl3 ?wc3 ?wk3 ?wa4 ?wi4 ?wl4 ?wc4 ?wk4 ?wa5 ?wi5 ?wl5 ?wc5 ?wk5 ?wa6 ?wi6 ?wl6 ?wc6 ?wk6 ?wa7 ?wi7 ?wl7 ?wc7 ?wk7 ?wg ?d_l ?d_e ?tG ?tN ?tC ?z_len ?z_all ?z_isinstance ?z_str ?z_tuple ?z_int ?z_bool ?z_list ?z_set ?z_dict ?z_sorted ?z_repr ?z_range ?z_max ?z_min ?g_LONGEST_WORD ?g_LONGEST_VALUE ?g_GREATEST_NUMBER
    (case r_a => first | k_is | rfl)
    (case r_t => first | k_is | rfl)
    (case r_d => first | k_is | rfl)
    (case x0a => first | k_is | rfl)
    (case x0l => first | k_is | rfl)
    (case x0sa => first | k_is | rfl)
    (case x0ga => first | k_is | rfl)
    (case x0gg => first | k_is | rfl)
    (case x0nv => first | k_is | rfl)
    (case x0in => first | k_is | rfl)
    (case x0ti => first | k_is | rfl)
    (case x0il => first | k_is | rfl)
    (case x0ic => first | k_is | rfl)
    (case x0ik => first | k_is | rfl)
    (case x0k => first | k_is | rfl)
    (case x0be => first | k_is | rfl)
    (case x0ve => first | k_is | rfl)
    (case x0re => first | k_is | rfl)
    (case x0se => first | k_is | rfl)
    (case x0t => first | k_is | rfl)
    (case x0d => first | k_is | rfl)
    (case x0c => first | k_is | rfl)
    (case x1a => first | k_is | rfl)
    (case x1l => first | k_is | rfl)
    (case x1sa => first | k_is | rfl)
    (case x1ga => first | k_is | rfl)
    (case x1gg => first | k_is | rfl)
    (case x1nv => first | k_is | rfl)
    (case x1in => first | k_is | rfl)
    (case x1ti => first | k_is | rfl)
    (case x1il => first | k_is | rfl)
    (case x1ic => first | k_is | rfl)
    (case x1ik => first | k_is | rfl)
    (case x1k => first | k_is | rfl)
    (case x1be => first | k_is | rfl)
    (case x1ve => first | k_is | rfl)
    (case x1re => first | k_is | rfl)
    (case x1se => first | k_is | rfl)
    (case x1t => first | k_is | rfl)
    (case x1d => first | k_is | rfl)
    (case x1c => first | k_is | rfl)
    (case a0 => first | k_is | rfl)
    (case l0 => first | k_is | rfl)
    (case c0 => first | k_is | rfl)
    (case k0 => first | k_is | rfl)
    (case a1 => first | k_is | rfl)
    (case l1 => first | k_is | rfl)
    (case c1 => first | k_is | rfl)
    (case k1 => first | k_is | rfl)
    (case a2 => first | k_is | rfl)
    (case l2 => first | k_is | rfl)
    (case c2 => first | k_is | rfl)
    (case k2 => first | k_is | rfl)
    (case a3 => first | k_is | rfl)
    (case l3 => first | k_is | rfl)
    (case c3 => first | k_is | rfl)
    (case k3 => first | k_is | rfl)
    (case a4 => first | k_is | rfl)
    (case l4 => first | k_is | rfl)
    (case c4 => first | k_is | rfl)
    (case k4 => first | k_is | rfl)
    (case a5 => first | k_is | rfl)
    (case l5 => first | k_is | rfl)
    (case c5 => first | k_is | rfl)
    (case k5 => first | k_is | rfl)
    (case a6 => first | k_is | rfl)
    (case l6 => first | k_is | rfl)
    (case c6 => first | k_is | rfl)
    (case k6 => first | k_is | rfl)
    (case a7 => first | k_is | rfl)
    (case l7 => first | k_is | rfl)
    (case c7 => first | k_is | rfl)
    (case k7 => first | k_is | rfl)
    (case a8 => first | k_is | rfl)
    (case l8 => first | k_is | rfl)
    (case c8 => first | k_is | rfl)
    (case k8 => first | k_is | rfl)
    (case a9 => first | k_is | rfl)
    (case l9 => first | k_is | rfl)
    (case c9 => first | k_is | rfl)
    (case k9 => first | k_is | rfl)
    (case a10 => first | k_is | rfl)
    (case l10 => first | k_is | rfl)
    (case c10 => first | k_is | rfl)
    (case k10 => first | k_is | rfl)
    (case a11 => first | k_is | rfl)
    (case l11 => first | k_is | rfl)
    (case c11 => first | k_is | rfl)
    (case k11 => first | k_is | rfl)
    (case c_a => first | k_is | rfl)
    (case c_pg => first | k_is | rfl)
    (case c_hd => first | k_is | rfl)
    (case c_po => first | k_is | rfl)
    (case c_sa => first | k_is | rfl)
    (case c_mk => first | k_is | rfl)
    (case c_kc => first | k_is | rfl)
    (case c_nt => first | k_is | rfl)
    (case c_sf => first | k_is | rfl)
    (case c_ne => first | k_is | rfl)
    (case c_mo => first | k_is | rfl)
    (case c_cl => first | k_is | rfl)
    (case c_sp => first | k_is | rfl)
    (case c_tk => first | k_is | rfl)
    (case c_nl => first | k_is | rfl | kernel_rfl)
    (case c_nu => first | k_is | rfl | kernel_rfl)
    (case c_il => first | k_is | rfl | kernel_rfl)
    (case c_iu => first | k_is | rfl | kernel_rfl)
    (case ya => first | k_is | rfl)
    (case yl => first | k_is | rfl)
    (case yin => first | k_is | rfl)
    (case yti => first | k_is | rfl)
    (case yil => first | k_is | rfl)
    (case yic => first | k_is | rfl)
    (case yik => first | k_is | rfl)
    (case yk => first | k_is | rfl)
    (case yo => first | k_is | rfl | kernel_rfl)
    (case ysa => first | k_is | rfl)
    (case yga => first | k_is | rfl)
    (case ygg => first | k_is | rfl)
    (case ynv => first | k_is | rfl)
    (case ybe => first | k_is | rfl)
    (case yke => first | k_is | rfl)
    (case yt => first | k_is | rfl)
    (case yd => first | k_is | rfl)
    (case e2 => first | k_is | rfl | kernel_rfl)
    (case e4 => first | k_is | rfl | kernel_rfl)
    (case e5 => first | k_is | rfl | kernel_rfl)
    (case e6 => first | k_is | rfl | kernel_rfl)
    (case z_KeyError => first | k_is | rfl)
    (case wa0 => first | k_is | rfl)
    (case wi0 => first | k_is | rfl)
    (case wl0 => first | k_is | rfl)
    (case wc0 => first | k_is | rfl)
    (case wk0 => first | k_is | rfl)
    (case wa1 => first | k_is | rfl)
    (case wi1 => first | k_is | rfl)
    (case wl1 => first | k_is | rfl)
    (case wc1 => first | k_is | rfl)
    (case wk1 => first | k_is | rfl)
    (case wa2 => first | k_is | rfl)
    (case wi2 => first | k_is | rfl)
    (case wl2 => first | k_is | rfl)
    (case wc2 => first | k_is | rfl)
    (case wk2 => first | k_is | rfl)
    (case wa3 => first | k_is | rfl)
    (case wi3 => first | k_is | rfl)
    (case wl3 => first | k_is | rfl)
    (case wc3 => first | k_is | rfl)
    (case wk3 => first | k_is | rfl)
    (case wa4 => first | k_is | rfl)
    (case wi4 => first | k_is | rfl)
    (case wl4 => first | k_is | rfl)
    (case wc4 => first | k_is | rfl)
    (case wk4 => first | k_is | rfl)
    (case wa5 => first | k_is | rfl)
    (case wi5 => first | k_is | rfl)
    (case wl5 => first | k_is | rfl)
    (case wc5 => first | k_is | rfl)
    (case wk5 => first | k_is | rfl)
    (case wa6 => first | k_is | rfl)
    (case wi6 => first | k_is | rfl)
    (case wl6 => first | k_is | rfl)
    (case wc6 => first | k_is | rfl)
    (case wk6 => first | k_is | rfl)
    (case wa7 => first | k_is | rfl)
    (case wi7 => first | k_is | rfl)
    (case wl7 => first | k_is | rfl)
    (case wc7 => first | k_is | rfl)
    (case wk7 => first | k_is | rfl)
    (case wg => first | k_is | rfl | kernel_rfl)
    (case d_l => first | k_is | rfl)
    (case d_e => first | k_is | rfl)
    (case tG => exact PySem.W.km_tabs_of Y _ (List.mem_singleton.mpr rfl))
    (case tN => first | rfl | k_is | decide +kernel)
    (case tC => first | k_is | rfl | kernel_rfl)
    (case z_len => first | k_is | rfl)
    (case z_all => first | k_is | rfl)
    (case z_isinstance => first | k_is | rfl)
    (case z_str => first | k_is | rfl)
    (case z_tuple => first | k_is | rfl)
    (case z_int => first | k_is | rfl)
    (case z_bool => first | k_is | rfl)
    (case z_list => first | k_is | rfl)
    (case z_set => first | k_is | rfl)
    (case z_dict => first | k_is | rfl)
    (case z_sorted => first | k_is | rfl)
    (case z_repr => first | k_is | rfl)
    (case z_range => first | k_is | rfl)
    (case z_max => first | k_is | rfl)
    (case z_min => first | k_is | rfl)
    (case g_LONGEST_WORD => first | k_is | rfl)
    (case g_LONGEST_VALUE => first | k_is | rfl)
    (case g_GREATEST_NUMBER => first | k_is | rfl)
