import PyProof.Rows.All
import Wide.All
import OpenK.AllK
import Wide.FinOn
import PyProof.EqAt
import PyProof.EqKinds
import PyProof.TupleCall
import HandS.ForMost
import HandS.IsInst
import HandS.Wide
import HandS.TupLe
import HandS.Style
import HandS.TupAny
import HandS.Walk
import HandS.ForExc
import HandS.ExcInit
import HandS.ExcField
import HandS.ExcIs
import HandS.TryMany
import PyProof.ReprRoads
import HandS.Codes
import HandS.ReplaceList
import HandS.StrSplit
import HandS.ReplaceDef
import HandS.ReplaceLit
import HandS.FStr
import HandS.StrMore
import HandS.Lambda
import HandS.TryOnly
import KE.DataEq
import OpenK.KMeth
import OpenK.KOps
import HandS.More
import HandS.SlotsOwn
import HandS.SetFor
import HandS.Zip
import PyProof.Rows.SortStr
import PyProof.Rows.SortShellK
import HandS.Strs
import PyProof.StrLawsRepr
import KE.KRevSl
import HandS.RaiseMore
import PyProof.StrOps
import PySem.Challenge.RW_tombkeeper_k07_events_as_text
set_option Elab.async false
set_option linter.all false
set_option maxRecDepth 100000
set_option maxHeartbeats 4000000
namespace Tk
open PySem PySem.Spec PyProof.Rows L2

/-! ### a def that callers may use: its place, its promise -/
structure Cal (P : Program) (w : World) (K : PySem.W.Frag) (mg : Str → Option Value) (base : Heap) (CX : CXT) (k : Nat) (x : Str) (ps : List Str) (sp : Sp) : Prop where
  ex : ∃ (f : Addr) (fd : FuncData), mg x = some (.ref f) ∧ PySem.W.keepIn K (.ref f) = true ∧ Binds K fd ps [] ∧ FnOk P w K mg base CX k f fd ps sp
theorem Cal.mono {P : Program} {w : World} {K : PySem.W.Frag} {mg : Str → Option Value} {base : Heap} {CX : CXT} {j k : Nat} {x : Str} {ps : List Str} {sp : Sp} (C : Cal P w K mg base CX j x ps sp) (h : j ≤ k) : Cal P w K mg base CX k x ps sp := by
  obtain ⟨f, fd, hm, hk, hb, F⟩ := C.ex
  exact ⟨f, fd, hm, hk, hb, F.mono h⟩
theorem Cal.of {P : Program} {w : World} {K : PySem.W.Frag} {mg : Str → Option Value} {base : Heap} {CX : CXT} {k : Nat} {x : Str} {ps : List Str} {sp : Sp} {f : Addr} {fd : FuncData} (hm : mg x = some (.ref f)) (hk : PySem.W.keepIn K (.ref f) = true) (hb : Binds K fd ps []) (F : FnOk P w K mg base CX k f fd ps sp) : Cal P w K mg base CX k x ps sp :=
  ⟨f, fd, hm, hk, hb, F⟩
section
variable {X : Cx} {k : Nat} {ps : List Str} {sp : Sp} {CX : CXT} {x : Str} {p pos : Pos} {e : Expr} {es : List Expr} {t : TA} {E : XK}
theorem pe_cal (C : Cal X.prog X.w X.K X.mg X.base CX k x ps sp) (hr : Room k X.A) (hx : Passes CX X E) (ha : PA X (e :: es) t) (hg : Gl X x := by rfl)
    (hdb : (x == ("__debug__" : Str)) = false := by decide) (he : starEach (e :: es) X.env = (false, eval e X.env) :: starEach es X.env := by rfl) (hpl : (backTo pos (starEach es X.env)).any (·.1) = false := by rfl) :
    PE X (.Call (.Name x p) (e :: es) [] pos) (tCall sp [] E t) := by
  obtain ⟨f, fd, hm, hk, hb, F⟩ := C.ex
  exact pe_call F hr hg hm hk hb .nil hx ha hdb he hpl
theorem pe_cal0 (C : Cal X.prog X.w X.K X.mg X.base CX k x ps sp) (hr : Room k X.A) (hx : Passes CX X E) (hg : Gl X x := by rfl)
    (hdb : (x == ("__debug__" : Str)) = false := by decide) :
    PE X (.Call (.Name x p) [] [] pos) (tCall sp [] E tNil) := by
  obtain ⟨f, fd, hm, hk, hb, F⟩ := C.ex
  exact pe_call0 F hr hg hm hk hb .nil hx hdb
end

def AllocL (xs : List V) (H : Hp) (Q : VK) : Prop := xs.length ≤ sizeLine ∧ ∀ p, H p = none → Q (.ref p) (upd H p (.lst xs))
def AllocT (xs : List V) (H : Hp) (Q : VK) : Prop := xs.length ≤ sizeLine ∧ ∀ p, H p = none → Q (.ref p) (upd H p (.tup xs))
/-! ### readings, a construct at a time -/
section
variable {σ : L2.St} {H : Hp} {Q : VK} {D : Ends} {v : V} {i : Nat} {ta tb tc te : TE} {t u : TS} {r : R2} {K : PySem.W.Frag}
theorem r_var (h : σ[i]? = some (some v)) (q : Q v H) : tVar i σ H Q := ⟨v, h, q⟩
theorem r_c (q : Q v H) : tC v σ H Q := q
theorem r_op (h : ta σ H fun x H1 => tb σ H1 fun y H2 => r x y H2 Q) : tOp r ta tb σ H Q := h
theorem r_seq (h : t { D with nx := u D } σ H) : tSeq t u D σ H := h
theorem r_ret (h : te σ H D.rt) : tRet te D σ H := h
theorem r_retN (h : D.rt .non H) : tRetN D σ H := h
theorem r_set (h : te σ H fun x H1 => D.nx (σ.set i (some x)) H1) : tAsg te (gName i) D σ H := h
theorem r_drop (h : te σ H fun _ H1 => D.nx σ H1) : tDrop te D σ H := h
theorem r_next (h : D.nx σ H) : tNext D σ H := h
theorem r_ifS {c : TT} (h : c σ H fun b H1 => if b = true then t D σ H1 else u D σ H1) : tIfS c t u D σ H := h
theorem r_cons {tr : TA} {R : List V → Hp → Prop} (h : ta σ H fun x H1 => tr σ H1 fun xs H2 => R (x :: xs) H2) : tCons ta tr σ H R := h
theorem r_nil {R : List V → Hp → Prop} (h : R [] H) : tNil σ H R := h
theorem r_call {sp : Sp} {E : XK} {a : TA} (h : a σ H fun vs H1 => sp (vs ++ []) H1 Q E) : tCall sp [] E a σ H Q := h
theorem r_cb {f : List V → Hp → VK → Prop} {a : TA} (h : a σ H fun vs H1 => f vs H1 Q) : tCB f a σ H Q := h
theorem r_test {R : Bool → Hp → Prop} (h : te σ H fun x H1 => ∃ k, x = .bl k ∧ R k H1) : tTest te σ H R := h
theorem r_B {R : Bool → Hp → Prop} (h : te σ H fun x H1 => ∃ k, x = .bl k ∧ R k H1) : tB te σ H R := h
theorem r_not {c : TT} {R : Bool → Hp → Prop} (h : c σ H fun b H1 => R (!b) H1) : tNot c σ H R := h
theorem r_and {a b : TT} {R : Bool → Hp → Prop} (h : a σ H fun c H1 => if c = true then b σ H1 R else R false H1) : tAnd a b σ H R := h
theorem r_or {a b : TT} {R : Bool → Hp → Prop} (h : a σ H fun c H1 => if c = true then R true H1 else b σ H1 R) : tOr a b σ H R := h
theorem r_andV (h : ta σ H fun x H1 => ∃ c, x = .bl c ∧ if c = true then tb σ H1 Q else Q (.bl false) H1) : tAndV ta tb σ H Q := h
theorem r_orV (h : ta σ H fun x H1 => ∃ c, x = .bl c ∧ if c = true then Q (.bl true) H1 else tb σ H1 Q) : tOrV ta tb σ H Q := h
theorem r_notV (h : ta σ H fun x H1 => ∃ c, x = .bl c ∧ Q (.bl (!c)) H1) : tNotV ta σ H Q := h
theorem r_if {c : TT} (h : c σ H fun b H1 => if b = true then ta σ H1 Q else tb σ H1 Q) : tIf c ta tb σ H Q := h
theorem r_chain {r' : R2} (h : ta σ H fun x H1 => tb σ H1 fun y H2 => r x y H2 fun z H3 => ∃ k, z = .bl k ∧
    (if k = true then tc σ H3 fun w' H4 => r' y w' H4 Q else Q (.bl false) H3)) : tChain r r' ta tb tc σ H Q := h
/-- a made list, a made tuple: the heap behind is a letter -/
theorem r_lst {a : TA} (h : a σ H fun xs H1 => AllocL xs H1 Q) : tLst a σ H Q := h
theorem r_tup {a : TA} (h : a σ H fun xs H1 => AllocT xs H1 Q) : tTup a σ H Q := h
/-- the bool that a test hands on -/
theorem r_k {b : Bool} {R : Bool → Prop} (h : R b) : ∃ k, V.bl b = V.bl k ∧ R k := ⟨b, rfl, h⟩
theorem r_k2 {b : Bool} {R : Bool → Hp → Prop} (h : R b H) : ∃ k, V.bl b = V.bl k ∧ R k H := ⟨b, rfl, h⟩
theorem r_I0 {g : Int → Int → V} {a b : Int} (h : Q (g a b) H) : rI0 g (.int a) (.int b) H Q := ⟨a, b, rfl, rfl, h⟩
theorem r_I {C : Int → Int → Prop} {g : Int → Int → V} {a b : Int} (c : C a b) (h : Q (g a b) H) : rI C g (.int a) (.int b) H Q := ⟨a, b, rfl, rfl, c, h⟩
end
theorem Same.new {H : Hp} {p : Addr} {o : HO} (h : H p = none) : Same H (upd H p o) := fun a u e => by
  rw [upd_ne (ne_of_none e h)]
  exact e
/-- an object that H does not know may change -/
theorem Same.mut {H H' : Hp} {p : Addr} {o : HO} (e : Same H H') (h : H p = none) : Same H (upd H' p o) := fun a u ha => by
  rw [upd_ne (ne_of_none ha h)]
  exact e a u ha

/-! ### data -/
/- what is read of a value: none, bools, ints, texts, tuples, lists, the empty dict (lists and dicts: as they stand now) -/
mutual
inductive Dd (K : PySem.W.Frag) (H : Hp) : V → PyData → Prop
  | non : Dd K H .non .none
  | bl (b : Bool) : Dd K H (.bl b) (.bool b)
  | int (i : Int) : Dd K H (.int i) (.int i)
  | str (x : Str) : Dd K H (.str x) (.str x)
  | lst {a : Addr} {xs : List V} {ds : List PyData} : H a = some (.lst xs) → DdAll K H xs ds → Dd K H (.ref a) (.list ds)
  | tup {a : Addr} {xs : List V} {ds : List PyData} : H a = some (.tup xs) → DdAll K H xs ds → Dd K H (.ref a) (.tuple ds)
  | dct {a : Addr} : H a = some (.dK []) → Dd K H (.ref a) (.dict [])
inductive DdAll (K : PySem.W.Frag) (H : Hp) : List V → List PyData → Prop
  | nil : DdAll K H [] []
  | cons {v : V} {vs : List V} {d : PyData} {ds : List PyData} : Dd K H v d → DdAll K H vs ds → DdAll K H (v :: vs) (d :: ds)
end
mutual
theorem Dd.same {K : PySem.W.Frag} {H H' : Hp} (s : Same H H') : ∀ (d : PyData) (v : V), Dd K H v d → Dd K H' v d
  | .none, _, h => by cases h; exact .non
  | .bool b, _, h => by cases h; exact .bl b
  | .int i, _, h => by cases h; exact .int i
  | .str x, _, h => by cases h; exact .str x
  | .list ds, _, h => by
    cases h with
    | lst e a => exact .lst (s _ _ e) (DdAll.same s ds _ a)
  | .tuple ds, _, h => by
    cases h with
    | tup e a => exact .tup (s _ _ e) (DdAll.same s ds _ a)
  | .dict _, _, h => by
    cases h with
    | dct e => exact .dct (s _ _ e)
theorem DdAll.same {K : PySem.W.Frag} {H H' : Hp} (s : Same H H') : ∀ (ds : List PyData) (vs : List V), DdAll K H vs ds → DdAll K H' vs ds
  | [], _, h => by cases h; exact .nil
  | d :: ds, _, h => by
    cases h with
    | cons h1 h2 => exact .cons (Dd.same s d _ h1) (DdAll.same s ds _ h2)
end
theorem Dd.same' {K : PySem.W.Frag} {H H' : Hp} {v : V} {d : PyData} (h : Dd K H v d) (s : Same H H') : Dd K H' v d := Dd.same s d v h
theorem DdAll.length {K : PySem.W.Frag} {H : Hp} : ∀ {vs : List V} {ds : List PyData}, DdAll K H vs ds → vs.length = ds.length
  | _, _, .nil => rfl
  | _, _, .cons _ t => by rw [List.length_cons, List.length_cons, DdAll.length t]
/-- the name of its type -/
def tyN : PyData → String
  | .none => "NoneType"
  | .bool _ => "bool"
  | .int _ => "int"
  | .str _ => "str"
  | .list _ => "list"
  | .tuple _ => "tuple"
  | .dict _ => "dict"
theorem Dd.ty {K : PySem.W.Frag} {H : Hp} {v : V} {d : PyData} (h : Dd K H v d) : TyX K H v (.type (tyN d)) := by
  cases h with
  | non => exact .base .non
  | bl b => exact .base (.bl b)
  | int i => exact .base (.int i)
  | str x => exact .base (.str x)
  | lst e a => exact .base (.lst e)
  | tup e a => exact .base (.tup e)
  | dct e => exact .base (.dK e)
/-- isinstance(x, T) of data -/
def isN (a T : String) : Bool := (kitB a T).getD false
def isOf (d : PyData) (T : String) : Bool := isN (tyN d) T
def TyNames : List String := ["str", "tuple", "int", "bool", "list", "dict"]
theorem kitB_all : ∀ a ∈ ["NoneType", "bool", "int", "str", "list", "tuple", "dict"], ∀ T ∈ TyNames, kitB a T = some (isN a T) := by decide +kernel
theorem isOf_kit {K : PySem.W.Frag} (d : PyData) {T : String} (hT : T ∈ TyNames) : PySem.W.kitOne K (.type (tyN d)) (.type T) = some (isOf d T) :=
  kit_ty (kitB_all (tyN d) (by cases d <;> simp [tyN]) T hT)
theorem isN_str : isN "NoneType" "str" = false ∧ isN "bool" "str" = false ∧ isN "int" "str" = false ∧ isN "str" "str" = true ∧ isN "list" "str" = false ∧ isN "tuple" "str" = false ∧ isN "dict" "str" = false := by decide +kernel
theorem isN_tuple : isN "NoneType" "tuple" = false ∧ isN "bool" "tuple" = false ∧ isN "int" "tuple" = false ∧ isN "str" "tuple" = false ∧ isN "list" "tuple" = false ∧ isN "tuple" "tuple" = true ∧ isN "dict" "tuple" = false := by decide +kernel
theorem isN_int : isN "NoneType" "int" = false ∧ isN "bool" "int" = true ∧ isN "int" "int" = true ∧ isN "str" "int" = false ∧ isN "list" "int" = false ∧ isN "tuple" "int" = false ∧ isN "dict" "int" = false := by decide +kernel
theorem isN_bool : isN "NoneType" "bool" = false ∧ isN "bool" "bool" = true ∧ isN "int" "bool" = false ∧ isN "str" "bool" = false ∧ isN "list" "bool" = false ∧ isN "tuple" "bool" = false ∧ isN "dict" "bool" = false := by decide +kernel
theorem r_isi {K : PySem.W.Frag} {H : Hp} {v : V} {d : PyData} {T : String} {Q : VK} (h : Dd K H v d) (hT : T ∈ TyNames) (q : Q (.bl (isOf d T)) H) : rIsi K [v, .ty T] H Q :=
  ⟨v, .ty T, _, _, _, rfl, .ty T, h.ty, isOf_kit d hT, q⟩
/-! ### repr of bools -/
section
variable {X : Cx}
def reprB (b : Bool) : Str := if b then "True" else "False"
theorem call_repr_bl : CallR X (.builtin "repr") (fun xs H Q => ∃ b, xs = [.bl b] ∧ Q (.str (reprB b)) H) := by
  intro pins s σ H xs us Q I r h
  obtain ⟨b, rfl, q⟩ := h
  obtain ⟨u, rfl, ru⟩ := vals1 r
  obtain rfl : u = Value.bool b := ru
  exact PySem.P.repr_of_bool ⟨.str (reprB b), H, I.tok _, ⟨_, rfl⟩, q⟩
end
theorem reprB_inj {a b : Bool} : decide (V.str (reprB a) = V.str (reprB b)) = (a == b) := by
  cases a <;> cases b <;> decide +kernel
end Tk

set_option Elab.async false
set_option linter.all false
set_option maxRecDepth 100000
set_option maxHeartbeats 4000000
namespace Tk
open PySem PySem.Spec PyProof.Rows L2
/-! ### one rule a sign; its reading says which -/
def rMulS : R2 := fun x y H Q => ∃ z n, x = .str z ∧ y = .int n ∧ MulOk z n ∧ Q (.str (Txt.mul z n)) H
def GAdd (K : PySem.W.Frag) : R2 := fun x y H Q => rI0 (fun i j => .int (i + j)) x y H Q ∨ ((∃ i j, x = .str i ∧ y = .str j ∧ i.length + j.length ≤ sizeLine ∧ Q (.str (i ++ j)) H) ∨ (rCat x y H Q ∨ rCatA K x y H Q))
def GMul : R2 := fun x y H Q => rI CMulW (fun i j => .int (i * j)) x y H Q ∨ (rMulS x y H Q ∨ rRep x y H Q)
/-- any list == [] -/
def rEqNil (K : PySem.W.Frag) : R2 := fun x y H Q => ∃ p q xs, x = .ref p ∧ y = .ref q ∧ SqL K H p xs ∧ SqL K H q [] ∧ Q (.bl xs.isEmpty) H
def GEq (K : PySem.W.Frag) : R2 := fun x y H Q => rEq x y H Q ∨ (rEqD K x y H Q ∨ rEqNil K x y H Q)
def GNe (K : PySem.W.Frag) : R2 := fun x y H Q => rNe x y H Q ∨ rNeD K x y H Q
def sLt : R2 := fun x y H Q => ∃ i j, x = .str i ∧ y = .str j ∧ Q (.bl (decide (i.cps.toList < j.cps.toList))) H
def sLe : R2 := fun x y H Q => ∃ i j, x = .str i ∧ y = .str j ∧ Q (.bl (!decide (j.cps.toList < i.cps.toList))) H
def sGt : R2 := fun x y H Q => ∃ i j, x = .str i ∧ y = .str j ∧ Q (.bl (decide (j.cps.toList < i.cps.toList))) H
def sGe : R2 := fun x y H Q => ∃ i j, x = .str i ∧ y = .str j ∧ Q (.bl (!decide (i.cps.toList < j.cps.toList))) H
def GLt : R2 := fun x y H Q => rI0 (fun i j => .bl (decide (i < j))) x y H Q ∨ sLt x y H Q
def GLe : R2 := fun x y H Q => rI0 (fun i j => .bl (decide (i ≤ j))) x y H Q ∨ sLe x y H Q
def GGt : R2 := fun x y H Q => rI0 (fun i j => .bl (decide (j < i))) x y H Q ∨ sGt x y H Q
def GGe : R2 := fun x y H Q => rI0 (fun i j => .bl (decide (j ≤ i))) x y H Q ∨ sGe x y H Q
def rLen (K : PySem.W.Frag) : List V → Hp → VK → Prop := fun xs H Q => ∃ x n, xs = [x] ∧ LenV K x H n ∧ Q (.int n) H
def rRepr : List V → Hp → VK → Prop := fun xs H Q => ∃ b, xs = [.bl b] ∧ Q (.str (reprB b)) H
def rMax2 : List V → Hp → VK → Prop := fun xs H Q => ∃ i j, xs = [.int i, .int j] ∧ Q (.int (if j > i then j else i)) H
def rMin2 : List V → Hp → VK → Prop := fun xs H Q => ∃ i j, xs = [.int i, .int j] ∧ Q (.int (if j < i then j else i)) H
def rListOf (K : PySem.W.Frag) : List V → Hp → VK → Prop := fun xs H Q => ∃ p ys, xs = [.ref p] ∧ (SqL K H p ys ∨ SqT K H p ys) ∧ ∀ l, H l = none → Q (.ref l) (upd H l (.lst ys))
def rIsN : R2 := fun x y H Q => y = .non ∧ Q (.bl (decide (x = .non))) H
section
variable {X : Cx}
theorem c_len : CallR X (.builtin "len") (rLen X.K) := call_len
theorem c_repr : CallR X (.builtin "repr") rRepr := call_repr_bl
theorem c_max2 (hc : X.calm = true) : CallR X (.builtin "max") rMax2 := call_max2 hc
theorem c_min2 (hc : X.calm = true) : CallR X (.builtin "min") rMin2 := call_min2 hc
theorem c_listOf : CallR X (.type "list") (rListOf X.K) := call_list_of
theorem o_isN : OpR X (compareOp .Is) rIsN := op_isN
theorem op_mul_strI : OpR X (binaryOp .Mult) rMulS := by
  intro pins s σ H x y v u Q I rx ry h
  obtain ⟨z, n, rfl, rfl, hok, q⟩ := h
  obtain ⟨t, rfl⟩ := rx
  obtain ⟨t', rfl⟩ := ry
  exact SB.mul hok fun t2 k => ⟨.str _, H, I.tok _, ⟨_, rfl⟩, q⟩
theorem op_eqNil (hu : X.A.units < cLine) : OpR X (compareOp .Eq) (rEqNil X.K) := by
  intro pins s σ H x y v u Q I rx ry h
  obtain ⟨p, q, xs, rfl, rfl, hp, hq, k⟩ := h
  obtain rfl : v = Value.ref p := rx
  obtain rfl : u = Value.ref q := ry
  obtain ⟨its, r1, l1, _⟩ := I.list hp
  obtain ⟨jts, r2, l2, _⟩ := I.list hq
  cases r2
  cases r1 with
  | nil => exact SeqAt.eq_listAt (e := fun _ => true) l1.isList l2.isList rfl hu (fun j h1 => absurd h1 (Nat.not_lt_zero j)) ⟨.bl true, H, I, rfl, k⟩
  | cons r t => exact SeqAt.eq_list_lengthsAt l1.isList l2.isList (by simp) hu ⟨.bl false, H, I, rfl, k⟩
theorem o_add : OpR X (binaryOp .Add) (GAdd X.K) := OpR.or op_add (OpR.or op_add_str (OpR.or op_cat op_catA))
theorem o_mul : OpR X (binaryOp .Mult) GMul := OpR.or op_mulW (OpR.or op_mul_strI op_rep)
theorem o_fdiv : OpR X (binaryOp .FloorDiv) (rI CDivW fun i j => .int (i / j)) := op_fdivW
theorem o_eq (hu : X.A.units + 64 < cLine) : OpR X (compareOp .Eq) (GEq X.K) := OpR.or op_eq (OpR.or (op_eqD hu) (op_eqNil (Nat.lt_of_le_of_lt (Nat.le_add_right _ _) hu)))
theorem o_ne (hu : X.A.units + 64 < cLine) : OpR X (compareOp .NotEq) (GNe X.K) := OpR.or op_ne (op_neD hu)
theorem o_lt : OpR X (compareOp .Lt) GLt := OpR.or op_lt op_lt_str
theorem o_le : OpR X (compareOp .LtE) GLe := OpR.or op_le op_le_str
theorem o_gt : OpR X (compareOp .Gt) GGt := OpR.or op_gt op_gt_str
theorem o_ge : OpR X (compareOp .GtE) GGe := OpR.or op_ge op_ge_str
theorem o_slice : SlR X (fun x lo hi H Q => rSlL X.K x lo hi H Q ∨ (rSlS x lo hi H Q ∨ rSlA X.K x lo hi H Q)) := SlR.or sl_list (SlR.or sl_str sl_tupA)
end
section
variable {H : Hp} {Q : VK} {K : PySem.W.Frag} {a b : Int} {x y : Str}
theorem g_addI (q : Q (.int (a + b)) H) : GAdd K (.int a) (.int b) H Q := .inl ⟨a, b, rfl, rfl, q⟩
theorem g_addS (hl : x.length + y.length ≤ sizeLine) (q : Q (.str (x ++ y)) H) : GAdd K (.str x) (.str y) H Q := .inr (.inl ⟨x, y, rfl, rfl, hl, q⟩)
theorem g_mulI (hc : CMulW a b) (q : Q (.int (a * b)) H) : GMul (.int a) (.int b) H Q := .inl ⟨a, b, rfl, rfl, hc, q⟩
theorem g_mulS (hc : MulOk x a) (q : Q (.str (Txt.mul x a)) H) : GMul (.str x) (.int a) H Q := .inr (.inl ⟨x, a, rfl, rfl, hc, q⟩)
theorem g_mulB (ha : a.natAbs < 2 ^ 70) (hb : b.natAbs < 2 ^ 70) (q : Q (.int (a * b)) H) : GMul (.int a) (.int b) H Q := g_mulI (wide_mul ha hb (by decide) (by decide) (by decide)) q
theorem r_mod (hb : 0 < b) (q : Q (.int (a % b)) H) : rI (fun _ j => 0 < j) (fun i j => .int (i % j)) (.int a) (.int b) H Q := r_I (C := fun _ j => 0 < j) hb q
theorem r_div (hb : 0 < b) (h2 : b < 2 ^ 60) (q : Q (.int (a / b)) H) : rI CDivW (fun i j => .int (i / j)) (.int a) (.int b) H Q :=
  r_I (C := CDivW) (⟨hb, Nat.lt_of_lt_of_le (PySem.Flt.log2_lt_of (k := 60) (by decide) (by omega)) (by decide)⟩ : CDivW a b) q
theorem g_ltI (q : Q (.bl (decide (a < b))) H) : GLt (.int a) (.int b) H Q := .inl ⟨a, b, rfl, rfl, q⟩
theorem g_leI (q : Q (.bl (decide (a ≤ b))) H) : GLe (.int a) (.int b) H Q := .inl ⟨a, b, rfl, rfl, q⟩
theorem g_gtI (q : Q (.bl (decide (b < a))) H) : GGt (.int a) (.int b) H Q := .inl ⟨a, b, rfl, rfl, q⟩
theorem g_geI (q : Q (.bl (decide (b ≤ a))) H) : GGe (.int a) (.int b) H Q := .inl ⟨a, b, rfl, rfl, q⟩
theorem g_leS (q : Q (.bl (!decide (y.cps.toList < x.cps.toList))) H) : GLe (.str x) (.str y) H Q := .inr ⟨x, y, rfl, rfl, q⟩
theorem g_ltS (q : Q (.bl (decide (x.cps.toList < y.cps.toList))) H) : GLt (.str x) (.str y) H Q := .inr ⟨x, y, rfl, rfl, q⟩
theorem g_eqI (q : Q (.bl (decide (a = b))) H) : GEq K (.int a) (.int b) H Q := .inl ⟨rfl, by rw [dec_int, Bool.beq_eq_decide_eq]; exact q⟩
theorem g_neI (q : Q (.bl (!decide (a = b))) H) : GNe K (.int a) (.int b) H Q := .inl ⟨rfl, by rw [dec_int, Bool.beq_eq_decide_eq]; exact q⟩
theorem g_eqS (q : Q (.bl (decide (x = y))) H) : GEq K (.str x) (.str y) H Q := .inl ⟨rfl, by rw [dec_str, Bool.beq_eq_decide_eq]; exact q⟩
theorem g_neS (q : Q (.bl (!decide (x = y))) H) : GNe K (.str x) (.str y) H Q := .inl ⟨rfl, by rw [dec_str, Bool.beq_eq_decide_eq]; exact q⟩
end
section
variable {H : Hp} {Q : VK} {K : PySem.W.Frag} {p : Addr} {xs : List V} {i k : Int} {v : V} {j : Nat} {σ : L2.St} {D : Ends} {te to ti : TE}
theorem r_ixL (h : H p = some (.lst xs)) (e : atI xs i = some v) (q : Q v H) : rIx K (.ref p) (.int i) H Q := .inl ⟨p, xs, i, v, rfl, rfl, .of h, e, q⟩
theorem r_ixQ (h : SqL K H p xs) (e : atI xs i = some v) (q : Q v H) : rIx K (.ref p) (.int i) H Q := .inl ⟨p, xs, i, v, rfl, rfl, h, e, q⟩
theorem r_ixT (h : H p = some (.tup xs)) (e : atI xs i = some v) (q : Q v H) : rIx K (.ref p) (.int i) H Q := .inr (.inl ⟨p, xs, i, v, rfl, rfl, .of h, e, q⟩)
theorem r_lenS {x : Str} (h : x.length ≤ 100000) (q : Q (.int x.length) H) : rLen K [.str x] H Q := ⟨_, _, rfl, ⟨Nat.le_trans h (by decide), rfl⟩, q⟩
theorem r_lenT (h : H p = some (.tup xs)) (q : Q (.int (xs.length : Nat)) H) : rLen K [.ref p] H Q := ⟨_, _, rfl, .inr ⟨xs, SqT.of h, rfl⟩, q⟩
theorem r_lenQ (h : SqL K H p xs) (q : Q (.int (xs.length : Nat)) H) : rLen K [.ref p] H Q := ⟨_, _, rfl, .inl ⟨xs, h, rfl⟩, q⟩
theorem r_eqNil {q : Addr} (h : H p = some (.lst xs)) (h' : H q = some (.lst [])) (k : Q (.bl xs.isEmpty) H) : GEq K (.ref p) (.ref q) H Q := .inr (.inr ⟨p, q, xs, rfl, rfl, SqL.of h, SqL.of h', k⟩)
theorem r_repr {b : Bool} (q : Q (.str (reprB b)) H) : rRepr [.bl b] H Q := ⟨b, rfl, q⟩
theorem r_max2 {k : Int} (q : Q (.int (if k > i then k else i)) H) : rMax2 [.int i, .int k] H Q := ⟨i, k, rfl, q⟩
theorem r_min2 {k : Int} (q : Q (.int (if k < i then k else i)) H) : rMin2 [.int i, .int k] H Q := ⟨i, k, rfl, q⟩
theorem r_listOfT (h : H p = some (.tup xs)) (q : ∀ l, H l = none → Q (.ref l) (upd H l (.lst xs))) : rListOf K [.ref p] H Q := ⟨p, xs, rfl, .inr (SqT.of h), q⟩
theorem r_isN (q : Q (.bl (decide (v = .non))) H) : rIsN v .non H Q := ⟨rfl, q⟩
theorem r_asg {g : TG} (h : te σ H fun x H1 => g x σ H1 D.nx) : tAsg te g D σ H := h
theorem r_gName {n : Nat} {R : L2.St → Hp → Prop} (q : R (σ.set n (some v)) H) : gName n v σ H R := q
theorem r_gTup {n : Nat} {t : TGs} {R : L2.St → Hp → Prop} (h : H p = some (.tup xs)) (hl : xs.length = n) (q : t xs σ H R) : gTup K n t (.ref p) σ H R := ⟨p, xs, rfl, SqT.of h, hl, q⟩
theorem r_gCons {t : TG} {u : TGs} {ws : List V} {R : L2.St → Hp → Prop} (q : t v σ H fun σ' H' => u ws σ' H' R) : gCons t u (v :: ws) σ H R := ⟨v, ws, rfl, q⟩
theorem r_gNil {R : L2.St → Hp → Prop} (q : R σ H) : gNil [] σ H R := ⟨rfl, q⟩
theorem r_sub {t : TSet} {R : L2.St → Hp → Prop} (h : to σ H fun o H1 => ti σ H1 fun i H2 => t o i v H2 fun H3 => R σ H3) : gSub to ti t v σ H R := h
theorem r_setL {R : Hp → Prop} (h : H p = some (.lst xs)) (e : ixN xs.length k = some j) (q : R (upd H p (.lst (xs.set j v)))) : rSetL (.ref p) (.int k) v H R := ⟨p, xs, k, j, rfl, rfl, h, e, q⟩
theorem r_dec {c A B : Prop} {_i : Decidable c} (h1 : c → A) (h2 : ¬ c → B) : if decide c = true then A else B := by
  by_cases h : c
  · rw [decide_eq_true h]; exact iteT (h1 h)
  · rw [decide_eq_false h]; exact iteF (h2 h)
theorem r_decN {c A B : Prop} {_i : Decidable c} (h1 : ¬ c → A) (h2 : c → B) : if (!decide c) = true then A else B := by
  by_cases h : c
  · rw [decide_eq_true h]; exact iteF (h2 h)
  · rw [decide_eq_false h]; exact iteT (h1 h)
theorem r_bool {b : Bool} {A B : Prop} (h1 : b = true → A) (h2 : b = false → B) : if b = true then A else B := by
  cases b with
  | true => exact iteT (h1 rfl)
  | false => exact iteF (h2 rfl)
end
theorem sz_of {n : Nat} (h : n ≤ 100000) : n ≤ sizeLine := Nat.le_trans h (by decide)
theorem sz_lt {n : Nat} (h : n < 100000) : n < sizeLine := Nat.lt_of_lt_of_le h (by decide)
end Tk

set_option Elab.async false
set_option linter.all false
set_option maxRecDepth 100000
set_option maxHeartbeats 4000000
namespace Tk
open PySem PySem.Spec PyProof.Rows L2
theorem wipe1 (σ : L2.St) (s : Nat) : wipe σ [s] = σ.set s none := rfl
theorem wipe_set (σ : L2.St) (s : Nat) (v : Option V) : wipe ((wipe σ [s]).set s v) [s] = wipe σ [s] := by
  show ((σ.set s none).set s v).set s none = σ.set s none
  rw [List.set_set, List.set_set]
theorem wipe_slot (σ : L2.St) (s : Nat) (v : Option V) : (wipe σ [s]).set s v = σ.set s v := by
  show (σ.set s none).set s v = σ.set s v
  rw [List.set_set]
theorem take_succ_filter {α β : Type} {l : List α} {i : Nat} {x : α} (h : l[i]? = some x) (g : α → Bool) (f : α → β) :
    ((l.take (i + 1)).filter g).map f = ((l.take i).filter g).map f ++ (if g x = true then [f x] else []) := by
  rw [List.take_add_one, h, List.filter_append, List.map_append]
  cases hg : g x <;> simp [hg]
/-- what a comprehension asks, once it is known what it walks -/
def LcG (J : It) (g : TG) (tt : TT) (te : TE) (vs : List Nat) (σ : L2.St) (H1 : Hp) (Q : VK) : Prop := ∀ D, H1 D = none → ∃ W : Nat → Nat → Hp → Prop, (∃ m, W 0 m (upd H1 D (.lst []))) ∧ ∀ i m H, W i m H →
  (J.stop i H ∧ Q (.ref D) H) ∨ (J.go i H ∧ ∃ Nx : Hp → Prop, (∀ H', Nx H' → ∃ m', m' < m ∧ W (i + 1) m' H') ∧ ∀ x H', J.yld i H x H' → g x (wipe σ vs) H' fun σ2 H2 => wipe σ2 vs = wipe σ vs ∧ tt σ2 H2 fun b H3 =>
    if b = true then te σ2 H3 fun y H4 => ∃ acc, H4 D = some (.lst acc) ∧ acc.length < sizeLine ∧ Nx (upd H4 D (.lst (acc ++ [y]))) else Nx H3)
/-- what a for asks -/
def ForG (J : It) (g : TG) (tb : TS) (D : Ends) (σ : L2.St) (H1 : Hp) : Prop := ∃ W : Nat → Nat → L2.St → Hp → Prop, (∃ m, W 0 m σ H1) ∧ ∀ i m σ H, W i m σ H →
  (J.stop i H ∧ D.nx σ H) ∨ (J.go i H ∧ ∃ N : L2.St → Hp → Prop, (∀ σ' H', N σ' H' → ∃ m', m' < m ∧ W (i + 1) m' σ' H') ∧ ∀ x H', J.yld i H x H' → g x σ H' fun σ2 H2 => tb { D with nx := N, ct := N, bk := D.nx } σ2 H2)
section
variable {wi : TI} {g : TG} {tt : TT} {te tl : TE} {ta : TA} {tb : TS} {vs : List Nat} {σ : L2.St} {H : Hp} {Q : VK} {D : Ends} {K : PySem.W.Frag} {R : It → Hp → Prop}
theorem r_lc (h : wi σ H fun J H1 => LcG J g tt te vs σ H1 Q) : tLc wi g tt te vs σ H Q := h
theorem r_for (h : wi σ H fun J H1 => ForG J g tb D σ H1) : tFor wi g tb D σ H := h
theorem r_rng1 (h : ta σ H fun vs H1 => ∃ j : Int, vs = [.int j] ∧ -(2 ^ 62) ≤ j ∧ j < 2 ^ 62 ∧ R (Itr 0 j.toNat) H1) : iRng1 ta σ H R := h
theorem r_j {j lo hi : Int} {P : Int → Prop} (h0 : lo ≤ j) (h1 : j < hi) (q : P j) : ∃ j', [V.int j] = [V.int j'] ∧ lo ≤ j' ∧ j' < hi ∧ P j' := ⟨j, rfl, h0, h1, q⟩
theorem r_iList (h : tl σ H fun x H1 => ∃ a, x = .ref a ∧ (∃ xs, SqL K H1 a xs) ∧ R (Itl K a) H1) : iList K tl σ H R := h
theorem r_iStr (h : te σ H fun v H1 => ∃ x, v = .str x ∧ R (Its x) H1) : iStr te σ H R := h
theorem r_strx {x : Str} {P : Str → Prop} (q : P x) : ∃ y, V.str x = V.str y ∧ P y := ⟨x, rfl, q⟩
theorem r_iTup (h : tl σ H fun x H1 => ∃ a, x = .ref a ∧ (∃ xs, SqT K H1 a xs) ∧ R (Itt K a) H1) : iTup K tl σ H R := h
end
/-- a comprehension that only makes new things: tests and elements told item by item -/
theorem lc_pure {J : It} {G : Hp → Prop} {items : List V} {s : Nat} {tt : TT} {te : TE} {σ : L2.St} {H1 : Hp} {Qd : VK} (w : Walk J items.length G (YAt items)) (hG : ∀ H', Same H1 H' → G H') (hn : items.length ≤ 100000) (gb : V → Bool) (f : V → V)
    (ht : ∀ x ∈ items, ∀ (H2 : Hp) (R : Bool → Hp → Prop), Same H1 H2 → (∀ H3, Same H2 H3 → R (gb x) H3) → tt (σ.set s (some x)) H2 R)
    (he : ∀ x ∈ items, gb x = true → ∀ (H2 : Hp) (R : VK), Same H1 H2 → (∀ H3, Same H2 H3 → R (f x) H3) → te (σ.set s (some x)) H2 R)
    (hd : ∀ (D : Addr) (H' : Hp), H1 D = none → Same H1 H' → H' D = some (.lst ((items.filter gb).map f)) → Qd (.ref D) H') :
    LcG J (gName s) tt te [s] σ H1 Qd := by
  intro D hD
  refine lc_it (Qd := fun H' => Qd (.ref D) H') w (fun i H' => Same H1 H' ∧ H' D = some (.lst (((items.take i).filter gb).map f))) ⟨Same.new hD, by rw [upd_same]; rfl⟩ (fun i H' _ p => hG H' p.1) ?_ (fun H' p => hd D H' hD p.1 (by rw [p.2, List.take_length]))
  rintro i x H2 H2' hi ⟨p1, p2⟩ ⟨rfl, hx⟩
  have hm : x ∈ items := List.mem_of_getElem? hx
  have hl : (((items.take i).filter gb).map f).length ≤ items.length := by
    rw [List.length_map]
    refine Nat.le_trans (List.length_filter_le _ _) ?_
    rw [List.length_take]
    omega
  show wipe ((wipe σ [s]).set s (some x)) [s] = wipe σ [s] ∧ tt ((wipe σ [s]).set s (some x)) H2' _
  refine ⟨wipe_set σ s _, ?_⟩
  rw [wipe_slot]
  refine ht x hm H2' _ p1 fun H3 s3 => ?_
  cases hg : gb x with
  | true =>
    refine iteT ?_
    refine he x hm hg H3 _ (p1.trans s3) fun H4 s4 => ?_
    have e4 := s4 _ _ (s3 _ _ p2)
    refine ⟨_, e4, sz_lt (by have : i < items.length := hi; rw [List.length_map]; have := List.length_filter_le gb (items.take i); rw [List.length_take] at this; omega), ?_⟩
    refine ⟨Same.mut (p1.trans (s3.trans s4)) hD, ?_⟩
    rw [upd_same, take_succ_filter hx, hg, if_pos rfl]
  | false =>
    refine iteF ?_
    refine ⟨p1.trans s3, ?_⟩
    rw [s3 _ _ p2, take_succ_filter hx, hg, if_neg Bool.false_ne_true, List.append_nil]
theorem filt_true {α : Type} (l : List α) : l.filter (fun _ => true) = l := List.filter_eq_self.mpr fun _ _ => rfl
/-- a text's signs as values -/
abbrev signV (c : Nat) : V := .str ⟨#[c]⟩
def codeV : V → Nat
  | .str y => y.cps.getD 0 0
  | _ => 0
theorem codeV_sign (c : Nat) : codeV (signV c) = c := rfl
def signs (z : Str) : List V := z.cps.toList.map signV
theorem walk_signs {z : Str} : Walk (Its z) (signs z).length (fun _ => True) (YAt (signs z)) := by
  have e : (signs z).length = z.cps.size := by unfold signs; rw [List.length_map, Array.length_toList]
  rw [e]
  refine Walk.mono walk_str (fun _ h => h) fun i H x H' hi _ y => ?_
  obtain ⟨h1, c, h2, h3⟩ := y
  refine ⟨h1, ?_⟩
  unfold signs
  rw [List.getElem?_map, Array.getElem?_toList, h2, h3]
  rfl
theorem r_lcStr {s : Nat} {z : Str} {tt : TT} {te : TE} {σ : L2.St} {H : Hp} {Q : VK} (hn : z.length ≤ 100000) (gb : Nat → Bool) (f : V → V)
    (ht : ∀ c ∈ z.cps.toList, ∀ (H2 : Hp) (R : Bool → Hp → Prop), Same H H2 → (∀ H3, Same H2 H3 → R (gb c) H3) → tt (σ.set s (some (signV c))) H2 R)
    (he : ∀ c ∈ z.cps.toList, gb c = true → ∀ (H2 : Hp) (R : VK), Same H H2 → (∀ H3, Same H2 H3 → R (f (signV c)) H3) → te (σ.set s (some (signV c))) H2 R)
    (hd : ∀ (D : Addr) (H' : Hp), H D = none → Same H H' → H' D = some (.lst ((z.cps.toList.filter gb).map fun c => f (signV c))) → Q (.ref D) H') : LcG (Its z) (gName s) tt te [s] σ H Q := by
  have hl : (signs z).length ≤ 100000 := by unfold signs; rw [List.length_map, Array.length_toList]; exact hn
  have inj : ∀ c, gb c = (fun v => match v with | .str y => gb (y.cps.getD 0 0) | _ => false) (signV c) := fun c => rfl
  refine lc_pure (Qd := Q) walk_signs (fun _ _ => trivial) hl (fun v => match v with | .str y => gb (y.cps.getD 0 0) | _ => false) f ?_ ?_ ?_
  · intro x hx H2 R s2 k
    obtain ⟨c, hc, rfl⟩ := List.mem_map.mp hx
    exact ht c hc H2 R s2 k
  · intro x hx hg H2 R s2 k
    obtain ⟨c, hc, rfl⟩ := List.mem_map.mp hx
    exact he c hc hg H2 R s2 k
  · intro D H' h0 s2 e
    refine hd D H' h0 s2 ?_
    rw [e]
    unfold signs
    rw [List.filter_map, List.map_map]
    rfl
/-! ### signs between two -/
theorem sign_le {a c : Nat} : (!decide (([c] : List Nat) < [a])) = decide (a ≤ c) := by
  have h : ([c] : List Nat) < [a] ↔ c < a := by
    constructor
    · intro h
      cases h with
      | cons h => cases h
      | rel h => exact h
    · exact fun h => .rel h
  by_cases q : a ≤ c
  · rw [decide_eq_true q, decide_eq_false (fun z => by have := h.mp z; omega)]; rfl
  · rw [decide_eq_false q, decide_eq_true (h.mpr (by omega))]; rfl
theorem sign_ge {a c : Nat} : (!decide (([a] : List Nat) < [c])) = decide (c ≤ a) := sign_le (a := c) (c := a)
/-- lo <= sign <= hi -/
theorem r_between {s a b c : Nat} {lo hi : Str} {σ : L2.St} {H : Hp} {Q : VK} (hv : σ[s]? = some (some (signV c))) (h1 : lo.cps.toList = [a]) (h2 : hi.cps.toList = [b]) (q : Q (.bl (decide (a ≤ c) && decide (c ≤ b))) H) :
    tChain GLe GLe (tC (.str lo)) (tVar s) (tC (.str hi)) σ H Q := by
  refine ⟨_, hv, g_leS ?_⟩
  refine ⟨_, rfl, ?_⟩
  rw [h1]
  show if (!decide (([c] : List Nat) < [a])) = true then _ else _
  rw [sign_le]
  by_cases k1 : a ≤ c
  · rw [decide_eq_true k1] at q ⊢
    refine iteT (g_leS ?_)
    rw [h2]
    show Q (.bl (!decide (([b] : List Nat) < [c]))) H
    rw [sign_ge]
    exact q
  · rw [decide_eq_false k1] at q ⊢
    exact iteF q
theorem cps_a : (Str.ofString "a").cps.toList = [97] := by decide +kernel
theorem cps_z : (Str.ofString "z").cps.toList = [122] := by decide +kernel
theorem cps_sp : (Str.ofString " ").cps.toList = [32] := by decide +kernel
theorem cps_til : (Str.ofString "~").cps.toList = [126] := by decide +kernel
end Tk

set_option Elab.async false
set_option linter.all false
set_option maxRecDepth 100000
set_option maxHeartbeats 4000000
namespace Tk
open PySem PySem.Spec PyProof.Rows L2
/-! ### words, values, numbers, stamps, entries, as data -/
mutual
def okD : PyData → Prop
  | .str x => x.length ≤ 100000
  | .list xs => xs.length ≤ 100000 ∧ okAll xs
  | .tuple xs => xs.length ≤ 100000 ∧ okAll xs
  | _ => True
def okAll : List PyData → Prop
  | [] => True
  | x :: xs => okD x ∧ okAll xs
end
def lowB (c : Nat) : Bool := decide (97 ≤ c) && decide (c ≤ 122)
def shownB (c : Nat) : Bool := decide (32 ≤ c) && decide (c ≤ 126)
def wordS (x : Str) : Bool := (decide ((1 : Int) ≤ (x.length : Int)) && decide ((x.length : Int) ≤ 8)) && x.cps.toList.all lowB
def valueS (x : Str) : Bool := (!decide ((40 : Int) < (x.length : Int))) && x.cps.toList.all shownB
def wordD : PyData → Bool
  | .str x => wordS x
  | _ => false
def valueD : PyData → Bool
  | .str x => valueS x
  | _ => false
def numD : PyData → Bool
  | .int i => decide (1 ≤ i) && decide (i ≤ 1000000000000000)
  | _ => false
def stampD : PyData → Bool
  | .tuple [a, b] => numD a && wordD b
  | _ => false
def noneD : PyData → Bool
  | .none => true
  | _ => false
def entryD : PyData → Bool
  | .tuple [k, s, v] => wordD k && (stampD s && (noneD v || valueD v))
  | _ => false
/-- a def that tells something of data -/
def spD (K : PySem.W.Frag) (f : PyData → Bool) : Sp := fun vs H Q _ => ∃ (v : V) (d : PyData), vs = [v] ∧ Dd K H v d ∧ okD d ∧ ∀ H', Same H H' → Q (.bl (f d)) H'
theorem spD_len {K : PySem.W.Frag} {f : PyData → Bool} {vs : List V} {H : Hp} {Q : VK} {E : XK} (h : spD K f vs H Q E) : vs.length = 1 := by
  obtain ⟨v, d, rfl, _⟩ := h
  rfl
section
variable {K : PySem.W.Frag} {H : Hp} {Q : VK} {x : Str} {a : Addr} {xs : List V} {A B : Prop} {b : Bool} {v : V}
theorem r_all {bs : List Bool} (h : H a = some (.lst (bs.map V.bl))) (q : Q (.bl (bs.all id)) H) : rAll K [.ref a] H Q := ⟨a, bs, rfl, SqL.of h, q⟩
theorem r_boolN (h1 : b = false → A) (h2 : b = true → B) : if (!b) = true then A else B := by
  cases b with
  | true => exact iteF (h2 rfl)
  | false => exact iteT (h1 rfl)
/-- data stand for isinstance -/
theorem r_isiS {d : PyData} (h : Dd K H v d) (q : Q (.bl (isOf d "str")) H) : rIsi K [v, .ty "str"] H Q := r_isi h (by decide) q
theorem r_isiT {d : PyData} (h : Dd K H v d) (q : Q (.bl (isOf d "tuple")) H) : rIsi K [v, .ty "tuple"] H Q := r_isi h (by decide) q
theorem r_isiI {d : PyData} (h : Dd K H v d) (q : Q (.bl (isOf d "int")) H) : rIsi K [v, .ty "int"] H Q := r_isi h (by decide) q
theorem r_isiB {d : PyData} (h : Dd K H v d) (q : Q (.bl (isOf d "bool")) H) : rIsi K [v, .ty "bool"] H Q := r_isi h (by decide) q
end
/-- a call of a def that tells something of data -/
theorem r_spD {K : PySem.W.Frag} {f : PyData → Bool} {v : V} {d : PyData} {H : Hp} {Q : VK} {E : XK} (h : Dd K H v d) (o : okD d) (q : ∀ H', Same H H' → Q (.bl (f d)) H') : spD K f ([v] ++ []) H Q E := ⟨v, d, rfl, h, o, q⟩
theorem isStr (x : Str) : isOf (.str x) "str" = true := isN_str.2.2.2.1
theorem isTup (x : List PyData) : isOf (.tuple x) "tuple" = true := isN_tuple.2.2.2.2.2.1
theorem isNotStr {d : PyData} (h : ∀ x, d ≠ .str x) : isOf d "str" = false := by
  cases d with
  | str x => exact absurd rfl (h x)
  | none => exact isN_str.1
  | bool _ => exact isN_str.2.1
  | int _ => exact isN_str.2.2.1
  | list _ => exact isN_str.2.2.2.2.1
  | tuple _ => exact isN_str.2.2.2.2.2.1
  | dict _ => exact isN_str.2.2.2.2.2.2
theorem isNotTup {d : PyData} (h : ∀ x, d ≠ .tuple x) : isOf d "tuple" = false := by
  cases d with
  | tuple x => exact absurd rfl (h x)
  | none => exact isN_tuple.1
  | bool _ => exact isN_tuple.2.1
  | int _ => exact isN_tuple.2.2.1
  | str _ => exact isN_tuple.2.2.2.1
  | list _ => exact isN_tuple.2.2.2.2.1
  | dict _ => exact isN_tuple.2.2.2.2.2.2
theorem isInt_or (d : PyData) : (isOf d "int" = true ∧ isOf d "bool" = false ∧ ∃ i, d = .int i) ∨ (isOf d "int" = true ∧ isOf d "bool" = true ∧ ∃ b, d = .bool b) ∨ (isOf d "int" = false ∧ numD d = false) := by
  cases d with
  | int i => exact .inl ⟨isN_int.2.2.1, isN_bool.2.2.1, i, rfl⟩
  | bool b => exact .inr (.inl ⟨isN_int.2.1, isN_bool.2.1, b, rfl⟩)
  | none => exact .inr (.inr ⟨isN_int.1, rfl⟩)
  | str _ => exact .inr (.inr ⟨isN_int.2.2.2.1, rfl⟩)
  | list _ => exact .inr (.inr ⟨isN_int.2.2.2.2.1, rfl⟩)
  | tuple _ => exact .inr (.inr ⟨isN_int.2.2.2.2.2.1, rfl⟩)
  | dict _ => exact .inr (.inr ⟨isN_int.2.2.2.2.2.2, rfl⟩)
theorem all_signs (l : List Nat) (g : Nat → Bool) : (l.map g).all id = l.all g := by rw [List.all_map]; rfl
theorem str_or (d : PyData) : (∃ x, d = .str x) ∨ (∀ x, d ≠ .str x) := by
  cases d with
  | str x => exact .inl ⟨x, rfl⟩
  | _ => exact .inr fun x h => nomatch h
/-- a tuple of data, or none -/
theorem tup_or {K : PySem.W.Frag} {H : Hp} {v : V} {d : PyData} (h : Dd K H v d) : (∃ a xs ds, v = .ref a ∧ d = .tuple ds ∧ H a = some (.tup xs) ∧ DdAll K H xs ds ∧ isOf d "tuple" = true) ∨ (isOf d "tuple" = false ∧ ∀ ds, d ≠ .tuple ds) := by
  cases h with
  | tup e a => exact .inl ⟨_, _, _, rfl, rfl, e, a, isTup _⟩
  | _ => exact .inr ⟨isNotTup (fun x h => nomatch h), (fun x h => nomatch h)⟩
theorem stampD_no {d : PyData} (h : ∀ ds, d ≠ .tuple ds) : stampD d = false := by
  cases d with
  | tuple x => exact absurd rfl (h x)
  | _ => rfl
theorem entryD_no {d : PyData} (h : ∀ ds, d ≠ .tuple ds) : entryD d = false := by
  cases d with
  | tuple x => exact absurd rfl (h x)
  | _ => rfl
theorem stampD_len {ds : List PyData} (h : ¬ ds.length = 2) : stampD (.tuple ds) = false := by
  unfold stampD
  split
  · rename_i e
    cases e
    exact absurd rfl h
  · rfl
theorem entryD_len {ds : List PyData} (h : ¬ ds.length = 3) : entryD (.tuple ds) = false := by
  unfold entryD
  split
  · rename_i e
    cases e
    exact absurd rfl h
  · rfl
theorem all_two {K : PySem.W.Frag} {H : Hp} {xs : List V} {ds : List PyData} (h : DdAll K H xs ds) (e : xs.length = 2) : ∃ v0 v1 d0 d1, xs = [v0, v1] ∧ ds = [d0, d1] ∧ Dd K H v0 d0 ∧ Dd K H v1 d1 := by
  cases h with
  | nil => cases e
  | cons h0 t =>
    cases t with
    | nil => cases e
    | cons h1 t =>
      cases t with
      | nil => exact ⟨_, _, _, _, rfl, rfl, h0, h1⟩
      | cons _ _ => cases e
theorem all_three {K : PySem.W.Frag} {H : Hp} {xs : List V} {ds : List PyData} (h : DdAll K H xs ds) (e : xs.length = 3) : ∃ v0 v1 v2 d0 d1 d2, xs = [v0, v1, v2] ∧ ds = [d0, d1, d2] ∧ Dd K H v0 d0 ∧ Dd K H v1 d1 ∧ Dd K H v2 d2 := by
  cases h with
  | nil => cases e
  | cons h0 t =>
    cases t with
    | nil => cases e
    | cons h1 t =>
      cases t with
      | nil => cases e
      | cons h2 t =>
        cases t with
        | nil => exact ⟨_, _, _, _, _, _, rfl, rfl, h0, h1, h2⟩
        | cons _ _ => cases e
theorem noneD_iff {K : PySem.W.Frag} {H : Hp} {v : V} {d : PyData} (h : Dd K H v d) : decide (v = .non) = noneD d := by
  cases h <;> simp [noneD]
theorem wordD_no {d : PyData} (h : ∀ x, d ≠ .str x) : wordD d = false := by
  cases d with
  | str x => exact absurd rfl (h x)
  | _ => rfl
theorem valueD_no {d : PyData} (h : ∀ x, d ≠ .str x) : valueD d = false := by
  cases d with
  | str x => exact absurd rfl (h x)
  | _ => rfl
end Tk

set_option Elab.async false
set_option linter.all false
set_option maxRecDepth 100000
set_option maxHeartbeats 4000000
namespace Tk
open PySem PySem.Spec PyProof.Rows L2
/-! ### the law's draws: a pool of two numbers -/
def PoolAt (H : Hp) (p : Addr) : Prop := ∃ a b : Int, H p = some (.lst [.int a, .int b]) ∧ 0 ≤ a ∧ 0 ≤ b ∧ b < 2147483648
theorem pool_mk {H : Hp} {p : Addr} {a b : Int} (h0 : 0 ≤ a) (h1 : 0 ≤ b) (h2 : b < 2147483647) : PoolAt (upd H p (.lst [.int a, .int b])) p := ⟨a, b, upd_same, h0, h1, by omega⟩
theorem pool_mk1 {H : Hp} {p : Addr} {a b : Int} (h0 : 0 ≤ a) (h1 : 0 ≤ b) (h2 : b < 2147483648) : PoolAt (upd H p (.lst [.int a, .int b])) p := ⟨a, b, upd_same, h0, h1, h2⟩
/-- something was drawn of the pool at p (and new things made) -/
structure Drawn (p : Addr) (H H' : Hp) : Prop where
  kept : ∀ b o, H b = some o → b ≠ p → H' b = some o
  pool : PoolAt H' p
theorem Drawn.trans {p : Addr} {H H1 H2 : Hp} (a : Drawn p H H1) (b : Drawn p H1 H2) : Drawn p H H2 := ⟨fun c o h n => b.kept c o (a.kept c o h n) n, b.pool⟩
theorem Drawn.same {p : Addr} {H H1 H2 : Hp} (a : Drawn p H H1) (b : Same H1 H2) : Drawn p H H2 := ⟨fun c o h n => b c o (a.kept c o h n), by obtain ⟨x, y, h, r⟩ := a.pool; exact ⟨x, y, b _ _ h, r⟩⟩
theorem Drawn.refl {p : Addr} {H : Hp} (h : PoolAt H p) : Drawn p H H := ⟨fun _ _ h _ => h, h⟩
theorem Drawn.of {p : Addr} {H H' : Hp} (h : PoolAt H p) (s : Same H H') : Drawn p H H' := (Drawn.refl h).same s
theorem PoolAt.same {p : Addr} {H H' : Hp} (h : PoolAt H p) (s : Same H H') : PoolAt H' p := (Drawn.of h s).pool
/-- what stood ahead of the pool stands -/
theorem Drawn.back {p : Addr} {H0 H H' : Hp} (d : Drawn p H H') (s : Same H0 H) (n : H0 p = none) : Same H0 H' := fun b o h => d.kept b o (s b o h) (ne_of_none h n)
theorem PoolAt.ne {p a : Addr} {H : Hp} {xs : List V} (h : PoolAt H p) (e : H a = some (.tup xs)) : a ≠ p := by
  obtain ⟨x, y, h, _⟩ := h
  exact ne_of e h (by intro z; cases z)
theorem Drawn.tup {p a : Addr} {H H' : Hp} {xs : List V} (d : Drawn p H H') (h : PoolAt H p) (e : H a = some (.tup xs)) : H' a = some (.tup xs) := d.kept _ _ e (h.ne e)
/-! ### take -/
def spTake : Sp := fun vs H Q _ => ∃ (p : Addr) (m : Int), vs = [.ref p, .int m] ∧ PoolAt H p ∧ 0 < m ∧ m < 2 ^ 60 ∧ ∀ r H', 0 ≤ r → r < m → Drawn p H H' → Q (.int r) H'
theorem r_take {p : Addr} {m : Int} {H : Hp} {Q : VK} {E : XK} (h : PoolAt H p) (h0 : 0 < m) (h1 : m < 2 ^ 60) (q : ∀ r H', 0 ≤ r → r < m → Drawn p H H' → Q (.int r) H') : spTake ([.ref p, .int m] ++ []) H Q E := ⟨p, m, rfl, h, h0, h1, q⟩
def spPool (K : PySem.W.Frag) : Sp := fun vs H Q _ => ∃ (s : Addr) (ns : List Int) (k : Int), vs = [.ref s, .int k] ∧ SqL K H s (ns.map V.int) ∧ ns.length ≤ 63 ∧ 0 ≤ k ∧ k < 64 ∧ ∀ p H', H p = none → Same H H' → PoolAt H' p → Q (.ref p) H'
theorem spTake_len {vs : List V} {H : Hp} {Q : VK} {E : XK} (h : spTake vs H Q E) : vs.length = 2 := by
  obtain ⟨p, m, rfl, _⟩ := h
  rfl
theorem spPool_len {K : PySem.W.Frag} {vs : List V} {H : Hp} {Q : VK} {E : XK} (h : spPool K vs H Q E) : vs.length = 2 := by
  obtain ⟨p, m, k, rfl, _⟩ := h
  rfl
/-! ### what a written expression gives, as data: only new things are made -/
def EvD (K : PySem.W.Frag) (te : TE) (σ : L2.St) (d : PyData) : Prop := ∀ (H : Hp) (Q : VK), (∀ v H', Same H H' → Dd K H' v d → Q v H') → te σ H Q
def EvDA (K : PySem.W.Frag) (ta : TA) (σ : L2.St) (ds : List PyData) : Prop := ∀ (H : Hp) (Q : List V → Hp → Prop), (∀ vs H', Same H H' → DdAll K H' vs ds → Q vs H') → ta σ H Q
section
variable {K : PySem.W.Frag} {σ : L2.St} {te : TE} {ta : TA} {d : PyData} {ds : List PyData}
theorem ed_int {i : Int} : EvD K (tC (.int i)) σ (.int i) := fun H Q q => q _ H (Same.refl H) (.int i)
theorem ed_str {i : Str} : EvD K (tC (.str i)) σ (.str i) := fun H Q q => q _ H (Same.refl H) (.str i)
theorem ed_bl {i : Bool} : EvD K (tC (.bl i)) σ (.bool i) := fun H Q q => q _ H (Same.refl H) (.bl i)
theorem ed_non : EvD K (tC .non) σ .none := fun H Q q => q _ H (Same.refl H) .non
theorem ed_nil : EvDA K tNil σ [] := fun H Q q => q _ H (Same.refl H) .nil
theorem ed_cons (h : EvD K te σ d) (t : EvDA K ta σ ds) : EvDA K (tCons te ta) σ (d :: ds) := fun H Q q =>
  h H _ fun v H1 s1 dv => t H1 _ fun vs H2 s2 dvs => q _ H2 (s1.trans s2) (.cons (Dd.same s2 d v dv) dvs)
theorem ed_tup (h : EvDA K ta σ ds) (hl : ds.length ≤ 100000) : EvD K (tTup ta) σ (.tuple ds) := fun H Q q =>
  h H _ fun vs H1 s1 dvs => ⟨sz_of (by rw [dvs.length]; exact hl), fun p hp => q _ _ (s1.trans (Same.new hp)) (.tup upd_same (DdAll.same (Same.new hp) ds vs dvs))⟩
theorem ed_lst (h : EvDA K ta σ ds) (hl : ds.length ≤ 100000) : EvD K (tLst ta) σ (.list ds) := fun H Q q =>
  h H _ fun vs H1 s1 dvs => ⟨sz_of (by rw [dvs.length]; exact hl), fun p hp => q _ _ (s1.trans (Same.new hp)) (.lst upd_same (DdAll.same (Same.new hp) ds vs dvs))⟩
theorem ed_dct : EvD K tDNewK σ (.dict []) := fun H Q q => fun p hp => q _ _ (Same.new hp) (.dct upd_same)
theorem ed_neg {i : Int} : EvD K (tUn (rU fun i => .int (-i)) (tC (.int i))) σ (.int (-i)) := fun H Q q => ⟨i, rfl, q _ H (Same.refl H) (.int _)⟩
end
theorem DdAll.append {K : PySem.W.Frag} {H : Hp} : ∀ {vs ws : List V} {ds es : List PyData}, DdAll K H vs ds → DdAll K H ws es → DdAll K H (vs ++ ws) (ds ++ es)
  | _, _, _, _, .nil, b => b
  | _, _, _, _, .cons h t, b => .cons h (DdAll.append t b)
theorem DdAll.mem {K : PySem.W.Frag} {H : Hp} : ∀ {vs : List V} {ds : List PyData} {v : V}, DdAll K H vs ds → okAll ds → v ∈ vs → ∃ d, Dd K H v d ∧ okD d
  | _, _, _, .nil, _, h => by cases h
  | _, _, v, .cons h t, o, m => by
    rcases List.mem_cons.mp m with e | m
    · subst e
      exact ⟨_, h, o.1⟩
    · exact DdAll.mem t o.2 m
/-- a value that needs no heap -/
def Scal (v : V) : Prop := ∃ d, okD d ∧ ∀ K H, Dd K H v d
theorem scal_int (i : Int) : Scal (.int i) := ⟨.int i, trivial, fun _ _ => .int i⟩
theorem scal_bl (i : Bool) : Scal (.bl i) := ⟨.bool i, trivial, fun _ _ => .bl i⟩
theorem scal_non : Scal .non := ⟨.none, trivial, fun _ _ => .non⟩
theorem scal_str (x : Str) (h : x.length ≤ 100000) : Scal (.str x) := ⟨.str x, h, fun _ _ => .str x⟩
theorem PoolAt.ne' {p a : Addr} {H : Hp} (h : PoolAt H p) (e : H a = none) : a ≠ p := by
  obtain ⟨x, y, h, _⟩ := h
  exact (ne_of_none h e).symm
/-- a made list, a made tuple: the heap behind is a letter -/
theorem a_lst {xs : List V} {H : Hp} {Q : VK} (hl : xs.length ≤ 100000) (q : ∀ p H2, H p = none → Same H H2 → H2 p = some (.lst xs) → Q (.ref p) H2) : AllocL xs H Q :=
  ⟨sz_of hl, fun p hp => q p _ hp (Same.new hp) upd_same⟩
theorem a_tup {xs : List V} {H : Hp} {Q : VK} (hl : xs.length ≤ 100000) (q : ∀ p H2, H p = none → Same H H2 → H2 p = some (.tup xs) → Q (.ref p) H2) : AllocT xs H Q :=
  ⟨sz_of hl, fun p hp => q p _ hp (Same.new hp) upd_same⟩
/-- texts of at most n signs -/
def textB (n : Nat) : V → Bool
  | .str x => decide (x.length ≤ n)
  | _ => false
theorem textB_all {n : Nat} {xs : List V} {v : V} (h : xs.all (textB n) = true) (m : v ∈ xs) : ∃ x : Str, v = .str x ∧ x.length ≤ n := by
  have q := List.all_eq_true.mp h v m
  cases v with
  | str x => exact ⟨x, rfl, of_decide_eq_true q⟩
  | _ => cases q
def scalB : V → Bool
  | .non => true
  | .bl _ => true
  | .int _ => true
  | .str x => decide (x.length ≤ 100000)
  | _ => false
theorem scal_of {v : V} (h : scalB v = true) : Scal v := by
  cases v with
  | non => exact scal_non
  | bl b => exact scal_bl b
  | int i => exact scal_int i
  | str x => exact scal_str x (of_decide_eq_true h)
  | _ => cases h
theorem scal_all {xs : List V} {v : V} (h : xs.all scalB = true) (m : v ∈ xs) : Scal v := scal_of (List.all_eq_true.mp h v m)
/-- an item at a drawn place -/
theorem at_drawn {xs : List V} {r : Int} (h0 : 0 ≤ r) (h1 : r < (xs.length : Nat)) : ∃ v, atI xs r = some v ∧ v ∈ xs := by
  obtain ⟨n, rfl⟩ := Int.eq_ofNat_of_zero_le h0
  have hn : n < xs.length := by omega
  exact ⟨xs[n], atI_nat (by simp [hn]), List.getElem_mem hn⟩
theorem r_pow15 {H : Hp} {Q : VK} (q : Q (.int 1000000000000000) H) : rI CPow (fun i j => .int (i ^ j.toNat)) (.int 10) (.int 15) H Q := by
  refine r_I (C := CPow) (⟨by decide, by decide, by decide⟩ : CPow 10 15) ?_
  have e : ((10 : Int) ^ (15 : Int).toNat) = 1000000000000000 := by decide +kernel
  rw [e]
  exact q
theorem r_pow18 {H : Hp} {Q : VK} (q : Q (.int 1000000000000000000) H) : rI CPow (fun i j => .int (i ^ j.toNat)) (.int 10) (.int 18) H Q := by
  refine r_I (C := CPow) (⟨by decide, by decide, by decide⟩ : CPow 10 18) ?_
  have e : ((10 : Int) ^ (18 : Int).toNat) = 1000000000000000000 := by decide +kernel
  rw [e]
  exact q
theorem r_pow6 {H : Hp} {Q : VK} (q : Q (.int 1000000) H) : rI CPow (fun i j => .int (i ^ j.toNat)) (.int 10) (.int 6) H Q := by
  refine r_I (C := CPow) (⟨by decide, by decide, by decide⟩ : CPow 10 6) ?_
  have e : ((10 : Int) ^ (6 : Int).toNat) = 1000000 := by decide +kernel
  rw [e]
  exact q
theorem isEmpty_filter (l : List Nat) (g : Nat → Bool) (f : Nat → V) : ((l.filter fun c => !g c).map f).isEmpty = l.all g := by
  induction l with
  | nil => rfl
  | cons a r ih =>
    rw [List.filter_cons, List.all_cons]
    cases h : g a with
    | true => simpa [h] using ih
    | false => simp
end Tk

set_option Elab.async false
set_option linter.all false
set_option maxRecDepth 100000
set_option maxHeartbeats 4000000
namespace Tk
open PySem PySem.Spec PyProof.Rows L2
/-- a comprehension over a range whose element draws -/
theorem lc_drawn {n s : Nat} {p : Addr} {te : TE} {σ : L2.St} {H1 : Hp} {Qd : VK} (hp : PoolAt H1 p) (hn : n ≤ 100000) (Pv : V → Prop)
    (he : ∀ (i : Nat) (H2 : Hp) (R : VK), i < n → PoolAt H2 p → Drawn p H1 H2 → (∀ v H3, Pv v → Drawn p H2 H3 → R v H3) → te (σ.set s (some (.int (0 + (i : Int))))) H2 R)
    (hd : ∀ (D : Addr) (H' : Hp) (ys : List V), H1 D = none → Drawn p H1 H' → ys.length = n → (∀ y ∈ ys, Pv y) → H' D = some (.lst ys) → Qd (.ref D) H') :
    LcG (Itr 0 n) (gName s) tYes te [s] σ H1 Qd := by
  intro D hD
  have nD : D ≠ p := by
    obtain ⟨a, b, e, _⟩ := hp
    exact (ne_of_none e hD).symm
  refine lc_range (Qd := fun H' => Qd (.ref D) H') (lo := 0) (n := n) (fun i H' => Drawn p H1 H' ∧ ∃ ys : List V, ys.length = i ∧ (∀ y ∈ ys, Pv y) ∧ H' D = some (.lst ys)) ⟨Drawn.of hp (Same.new hD), [], rfl, (fun _ h => by cases h), upd_same⟩ ?_ (fun H' ⟨d, ys, e1, e2, e3⟩ => hd D H' ys hD d e1 e2 e3)
  rintro i H2 hi ⟨d2, ys, e1, e2, e3⟩
  show wipe ((wipe σ [s]).set s (some (V.int (0 + (i : Int))))) [s] = wipe σ [s] ∧ _
  refine ⟨wipe_set σ s _, ?_⟩
  simp only [tYes, reduceIte, wipe_slot]
  refine he i H2 _ hi d2.pool d2 fun v H3 hv d3 => ?_
  have e4 := d3.kept _ _ e3 nD
  refine ⟨ys, e4, sz_lt (by omega), ?_⟩
  have d5 : Drawn p H1 H3 := d2.trans d3
  refine ⟨⟨fun b o h n => by rw [upd_ne (ne_of_none h hD)]; exact d5.kept b o h n, ?_⟩, ys ++ [v], by simp [e1], fun y hy => ?_, upd_same⟩
  · obtain ⟨a, b, e, r⟩ := d5.pool
    exact ⟨a, b, by rw [upd_ne nD.symm]; exact e, r⟩
  · rcases List.mem_append.mp hy with h | h
    · exact e2 y h
    · rw [List.mem_singleton.mp h]; exact hv
theorem strs_of {n : Nat} : ∀ {ys : List V}, (∀ y ∈ ys, ∃ x : Str, y = .str x ∧ x.length ≤ n) → ∃ zs : List Str, ys = zs.map V.str ∧ ∀ z ∈ zs, z.length ≤ n
  | [], _ => ⟨[], rfl, fun _ h => by cases h⟩
  | y :: ys, h => by
    obtain ⟨x, rfl, hx⟩ := h y List.mem_cons_self
    obtain ⟨zs, rfl, hz⟩ := strs_of (ys := ys) fun z hz => h z (List.mem_cons_of_mem _ hz)
    exact ⟨x :: zs, rfl, fun z hz' => by
      rcases List.mem_cons.mp hz' with rfl | h
      · exact hx
      · exact hz z h⟩
theorem sum_le {n : Nat} : ∀ {zs : List Str}, (∀ z ∈ zs, z.length ≤ n) → (zs.map (·.length)).sum ≤ zs.length * n
  | [], _ => by simp
  | z :: zs, h => by
    have h1 := h z List.mem_cons_self
    have h2 := sum_le (zs := zs) fun y hy => h y (List.mem_cons_of_mem _ hy)
    rw [List.map_cons, List.sum_cons, List.length_cons, Nat.succ_mul]
    omega
theorem join_len (sep : Str) (zs : List Str) : (Txt.join sep zs).length = (zs.map (·.length)).sum + (zs.length - 1) * sep.length := size_glued sep zs
def rJoin (K : PySem.W.Frag) : V → List V → Hp → VK → Prop := fun x xs H Q => ∃ a p, ∃ ys : List Str, x = V.str a ∧ xs = [V.ref p] ∧ (SqL K H p (ys.map V.str) ∨ SqT K H p (ys.map V.str)) ∧ (ys.map (·.length)).sum + ys.length * a.length ≤ 16777216 ∧ Q (.str (Txt.join a ys)) H
theorem pe_joinK {X : Cx} {o e : Expr} {to te : TE} {apos pos : Pos} (ho : PE X o to) (he : PE X e te) (hs : starEach [e] X.env = [(false, eval e X.env)] := by rfl) (hbase : attributeBase o "join" X.env (eval o X.env) = eval o X.env := by rfl) (hline : (apos.endLine == pos.line) = true := by rfl) :
    PE X (.Call (.Attribute o "join" apos) [e] [] pos) (tM1 (rJoin X.K) to te) := pe_join ho he hs hbase hline
theorem r_m1 {r : V → List V → Hp → VK → Prop} {to te : TE} {σ : L2.St} {H : Hp} {Q : VK} (h : to σ H fun x H1 => (∃ a, x = .str a) ∧ te σ H1 fun y H2 => r x [y] H2 Q) : tM1 r to te σ H Q := h
theorem r_join {K : PySem.W.Frag} {p : Addr} {zs : List Str} {sep : Str} {H : Hp} {Q : VK} (h : H p = some (.lst (zs.map V.str))) (hz : (zs.map (·.length)).sum + zs.length * sep.length ≤ 16777216) (q : Q (.str (Txt.join sep zs)) H) : rJoin K (.str sep) [.ref p] H Q :=
  ⟨sep, p, zs, rfl, rfl, .inl (SqL.of h), hz, q⟩
/-! ### the rules with the written part said by its letter -/
section
variable {X : Cx} {K : PySem.W.Frag}
theorem k_ix (e : X.K = K := by rfl) : IxR X (rIx K) := by subst e; exact ix_seq
theorem k_add (e : X.K = K := by rfl) : OpR X (binaryOp .Add) (GAdd K) := by subst e; exact o_add
theorem k_eq (hu : X.A.units + 64 < cLine) (e : X.K = K := by rfl) : OpR X (compareOp .Eq) (GEq K) := by subst e; exact o_eq hu
theorem k_ne (hu : X.A.units + 64 < cLine) (e : X.K = K := by rfl) : OpR X (compareOp .NotEq) (GNe K) := by subst e; exact o_ne hu
theorem k_isi (e : X.K = K := by rfl) : CallR X (.builtin "isinstance") (rIsi K) := by subst e; exact call_isi
theorem k_len (e : X.K = K := by rfl) : CallR X (.builtin "len") (rLen K) := by subst e; exact c_len
theorem k_all (hc : X.calm = true) (e : X.K = K := by rfl) : CallR X (.builtin "all") (rAll K) := by subst e; exact cr_all hc
theorem k_any (hc : X.calm = true) (e : X.K = K := by rfl) : CallR X (.builtin "any") (rAny K) := by subst e; exact cr_any hc
theorem k_listOf (e : X.K = K := by rfl) : CallR X (.type "list") (rListOf K) := by subst e; exact c_listOf
def GSlice (K : PySem.W.Frag) : V → Option Int → Option Int → Hp → VK → Prop := fun x lo hi H Q => rSlL K x lo hi H Q ∨ (rSlS x lo hi H Q ∨ rSlA K x lo hi H Q)
theorem k_slice (e : X.K = K := by rfl) : SlR X (GSlice K) := by subst e; exact o_slice
theorem r_sl {r : V → Option Int → Option Int → Hp → VK → Prop} {te : TE} {tl th : TO} {σ : L2.St} {H : Hp} {Q : VK} (h : te σ H fun x H1 => tl σ H1 fun lo H2 => th σ H2 fun hi H3 => r x lo hi H3 Q) : tSl r te tl th σ H Q := h
theorem r_un {r : V → Hp → VK → Prop} {te : TE} {σ : L2.St} {H : Hp} {Q : VK} (h : te σ H fun x H1 => r x H1 Q) : tUn r te σ H Q := h
theorem r_U {g : Int → V} {i : Int} {H : Hp} {Q : VK} (q : Q (g i) H) : rU g (.int i) H Q := ⟨i, rfl, q⟩
theorem g_listOfT {p : Addr} {xs : List V} {H : Hp} {Q : VK} (h : H p = some (.tup xs)) (q : ∀ l H2, H l = none → Same H H2 → H2 l = some (.lst xs) → Q (.ref l) H2) : rListOf K [.ref p] H Q := r_listOfT h fun l hl => q l _ hl (Same.new hl) upd_same
theorem r_noPart {σ : L2.St} {H : Hp} {R : Option Int → Hp → Prop} (h : R none H) : tNoPart σ H R := h
theorem r_part {te : TE} {σ : L2.St} {H : Hp} {R : Option Int → Hp → Prop} (h : te σ H fun x H1 => ∃ i, x = .int i ∧ R (some i) H1) : tPart te σ H R := h
theorem r_inti {i : Int} {P : Int → Prop} (q : P i) : ∃ j, V.int i = V.int j ∧ P j := ⟨i, rfl, q⟩
theorem g_slS {x : Str} {lo hi : Option Int} {H : Hp} {Q : VK} (hx : x.length ≤ 100000) (q : Q (.str (cutS x lo hi)) H) : GSlice K (.str x) lo hi H Q := .inr (.inl ⟨x, rfl, sz_of hx, q⟩)
theorem g_slT {a : Addr} {xs : List V} {n : Nat} {lo hi : Option Int} {H : Hp} {Q : VK} (h : H a = some (.tup xs)) (hn : xs.length = n) (hw : ¬ (HT.sIx n 0 lo = 0 ∧ HT.sIx n n hi = n)) (q : ∀ p H2, H p = none → Same H H2 → H2 p = some (.tup (cutV xs lo hi)) → Q (.ref p) H2) : GSlice K (.ref a) lo hi H Q := by
  subst hn
  exact .inr (.inr ⟨a, xs, rfl, SqT.of h, fun w => absurd w hw, fun _ p hp => q p _ hp (Same.new hp) upd_same⟩)
theorem cutS_len (z : Str) (lo hi : Option Int) : (cutS z lo hi).length ≤ z.length := by
  unfold cutS
  show (List.toArray _).size ≤ z.cps.size
  rw [List.size_toArray, List.length_take, List.length_drop, Array.length_toList]
  omega
theorem k_list {tg l : Expr} {tl : TE} (hl : PE X l tl) (e : X.K = K := by rfl) : PI X tg l (iList K tl) := by subst e; exact pi_list hl
theorem k_tup {tg l : Expr} {tl : TE} (hl : PE X l tl) (e : X.K = K := by rfl) : PI X tg l (iTup K tl) := by subst e; exact pi_tup hl
theorem k_gtup {es : List Expr} {k : Nat} {pos : Pos} {t : TGs} {n : Nat} (hc : X.calm = true) (h : PGs X es t) (e : X.K = K := by rfl) (hn : (assignEach es X.env).length = n := by rfl) (hst : (assignEach es X.env).findIdx? (·.1) = none := by rfl) : PG X (.Tuple es k pos) (gTup K n t) := by subst e; exact pg_tup hc h hn hst
theorem k_joinK {o e' : Expr} {to te : TE} {apos pos : Pos} (ho : PE X o to) (he : PE X e' te) (e : X.K = K := by rfl) (hs : starEach [e'] X.env = [(false, eval e' X.env)] := by rfl) (hbase : attributeBase o "join" X.env (eval o X.env) = eval o X.env := by rfl) (hline : (apos.endLine == pos.line) = true := by rfl) :
    PE X (.Call (.Attribute o "join" apos) [e'] [] pos) (tM1 (rJoin K) to te) := by subst e; exact pe_joinK ho he hs hbase hline
end
def spDraw (Pv : V → Prop) : Sp := fun vs H Q _ => ∃ (p : Addr), vs = [.ref p] ∧ PoolAt H p ∧ ∀ v H', Pv v → Drawn p H H' → Q v H'
theorem spDraw_len {Pv : V → Prop} {vs : List V} {H : Hp} {Q : VK} {E : XK} (h : spDraw Pv vs H Q E) : vs.length = 1 := by
  obtain ⟨p, rfl, _⟩ := h
  rfl
theorem r_draw {Pv : V → Prop} {p : Addr} {H : Hp} {Q : VK} {E : XK} (h : PoolAt H p) (q : ∀ v H', Pv v → Drawn p H H' → Q v H') : spDraw Pv ([.ref p] ++ []) H Q E := ⟨p, rfl, h, q⟩
/-- a text of at most n signs -/
def TextV (n : Nat) (v : V) : Prop := ∃ x : Str, v = .str x ∧ x.length ≤ n
theorem turns_of (m l : Nat) (hm : 1 ≤ m) : ∃ n : Nat, (if (if (m : Int) < (l : Int) then (m : Int) else (l : Int)) > 1 then (if (m : Int) < (l : Int) then (m : Int) else (l : Int)) else 1) = (n : Int) ∧ n ≤ m := by
  by_cases h : (m : Int) < (l : Int)
  · rw [if_pos h]
    by_cases h2 : (m : Int) > 1
    · exact ⟨m, if_pos h2, Nat.le_refl _⟩
    · exact ⟨1, if_neg h2, hm⟩
  · rw [if_neg h]
    by_cases h2 : (l : Int) > 1
    · exact ⟨l, if_pos h2, by omega⟩
    · exact ⟨1, if_neg h2, hm⟩
theorem r_pool {K : PySem.W.Frag} {s : Addr} {ns : List Int} {k : Int} {H : Hp} {Q : VK} {E : XK} (h : SqL K H s (ns.map V.int)) (hl : ns.length ≤ 63) (h0 : 0 ≤ k) (h1 : k < 64) (q : ∀ p H', H p = none → Same H H' → PoolAt H' p → Q (.ref p) H') : spPool K ([.ref s, .int k] ++ []) H Q E :=
  ⟨s, ns, k, rfl, h, hl, h0, h1, q⟩
/-- the law's own promise -/
def spLaw (K : PySem.W.Frag) : Sp := fun vs H Q _ => ∃ (a : Addr) (ns : List Int), vs = [.ref a] ∧ SqL K H a (ns.map V.int) ∧ ns.length ≤ 63 ∧ ∀ H', Q (.bl true) H'
theorem spLaw_len {K : PySem.W.Frag} {vs : List V} {H : Hp} {Q : VK} {E : XK} (h : spLaw K vs H Q E) : vs.length = 1 := by
  obtain ⟨a, ns, rfl, _⟩ := h
  rfl
theorem ev_use {K : PySem.W.Frag} {te : TE} {σ : L2.St} {d : PyData} {H : Hp} {Q : VK} (h : EvD K te σ d) (q : ∀ v H', Same H H' → Dd K H' v d → Q v H') : te σ H Q := h H Q q
theorem g_cat {K : PySem.W.Frag} {v w : V} {ds es : List PyData} {H : Hp} {Q : VK} (h1 : Dd K H v (.list ds)) (h2 : Dd K H w (.list es)) (hl : ds.length + es.length ≤ 100000) (q : ∀ v' H2, Same H H2 → Dd K H2 v' (.list (ds ++ es)) → Q v' H2) : GAdd K v w H Q := by
  cases h1 with
  | lst e1 a1 =>
    cases h2 with
    | lst e2 a2 =>
      exact .inr (.inr (.inl ⟨_, _, _, _, rfl, rfl, e1, e2, sz_of (by rw [a1.length, a2.length]; exact hl), fun p hp => q _ _ (Same.new hp) (.lst upd_same (DdAll.same (Same.new hp) _ _ (a1.append a2)))⟩))
/-- a comprehension over a list of data whose tests all fail -/
theorem lc_none {K : PySem.W.Frag} {T : Addr} {xs : List V} {ds : List PyData} {s : Nat} {tt : TT} {te : TE} {σ : L2.St} {H : Hp} {Q : VK} (e : H T = some (.lst xs)) (al : DdAll K H xs ds) (ok : okAll ds) (hl : ds.length ≤ 100000)
    (ht : ∀ v d, Dd K H v d → okD d → ∀ (H2 : Hp) (R : Bool → Hp → Prop), Same H H2 → (∀ H3, Same H2 H3 → R false H3) → tt (σ.set s (some v)) H2 R)
    (hd : ∀ (D : Addr) (H' : Hp), H D = none → Same H H' → H' D = some (.lst []) → Q (.ref D) H') : LcG (Itl K T) (gName s) tt te [s] σ H Q := by
  refine lc_pure walk_list (fun H' s' => SqL.of (s' _ _ e)) (by rw [al.length]; exact hl) (fun _ => false) (fun v => v) ?_ (fun _ _ h => nomatch h) ?_
  · intro v hv H2 R s2 q
    obtain ⟨d, hd, od⟩ := al.mem ok hv
    exact ht v d hd od H2 R s2 q
  · intro D H' h0 s' e'
    refine hd D H' h0 s' ?_
    rw [e']
    have z : xs.filter (fun _ => false) = [] := List.filter_eq_nil_iff.mpr (fun _ _ h => nomatch h)
    rw [z]
    rfl
/-- a loop over a list of data that only makes new things -/
theorem for_data {K : PySem.W.Frag} {T : Addr} {xs : List V} {g : TG} {tb : TS} {D : Ends} {σ : L2.St} {H : Hp} (e : H T = some (.lst xs)) (Sl : L2.St → Prop) (h0 : Sl σ)
    (hs : ∀ v ∈ xs, ∀ (σ : L2.St) (H2 : Hp), Sl σ → Same H H2 → g v σ H2 fun σ2 H3 => tb { D with nx := fun σ' H' => Sl σ' ∧ Same H H', ct := fun σ' H' => Sl σ' ∧ Same H H', bk := D.nx } σ2 H3) (hd : ∀ σ H', Sl σ → Same H H' → D.nx σ H') :
    ForG (Itl K T) g tb D σ H := by
  refine for_it walk_list (fun _ σ H' => Sl σ ∧ Same H H') ⟨h0, Same.refl H⟩ (fun i σ H' _ p => SqL.of (p.2 _ _ e)) ?_ (fun σ H' p => hd σ H' p.1 p.2)
  rintro i x σ H2 H2' hi ⟨p1, p2⟩ ⟨rfl, hx⟩
  exact hs x (List.mem_of_getElem? hx) σ _ p1 p2
end Tk

set_option Elab.async false
set_option linter.all false
set_option maxRecDepth 100000
set_option maxHeartbeats 4000000
/-! defs as they are called where no repr runs around them: a promise that may lean on it (repr of lists and tuples asks it) -/
namespace Tk
open PySem PySem.Spec PyProof.Rows L2
structure FnG (P : Program) (w : World) (K : PySem.W.Frag) (mg : Str → Option Value) (base : Heap) (CX : CXT) (k : Nat) (f : Addr) (fd : FuncData) (ps : List Str) (sp : Sp) : Prop where
  arity : ∀ zs H Q E, sp zs H Q E → zs.length = ps.length
  go : ∀ (B : Around) (outs : List Env) (t : Shared) (H : Hp) (ar : Args) (us : List Value) (zs : List V) (Q : VK) (E : XK), B.guards = some [] → Room k B → Env0 P w K mg base B outs t H →
    BindsTo t fd ar (ps.zip us) → Vals zs us → sp zs H Q E → codeAny (model P w) B (.call (.ref f) ar) (CR CX outs P w H t Q E) t
section
variable {P : Program} {w : World} {K : PySem.W.Frag} {mg : Str → Option Value} {base : Heap} {CX : CXT} {j k : Nat} {f : Addr} {fd : FuncData} {ps : List Str} {sp : Sp}
theorem FnG.of (F : FnOk P w K mg base CX k f fd ps sp) : FnG P w K mg base CX k f fd ps sp :=
  ⟨F.len, fun B outs t H ar us zs Q E _ rm => F.run B outs t H ar us zs Q E rm⟩
theorem FnG.mono (F : FnG P w K mg base CX j f fd ps sp) (h : j ≤ k) : FnG P w K mg base CX k f fd ps sp :=
  ⟨F.arity, fun B outs t H ar us zs Q E gd rm => F.go B outs t H ar us zs Q E gd (rm.mono h)⟩
end
structure CalG (P : Program) (w : World) (K : PySem.W.Frag) (mg : Str → Option Value) (base : Heap) (CX : CXT) (k : Nat) (x : Str) (ps : List Str) (sp : Sp) : Prop where
  ex : ∃ (f : Addr) (fd : FuncData), mg x = some (.ref f) ∧ PySem.W.keepIn K (.ref f) = true ∧ Binds K fd ps [] ∧ FnG P w K mg base CX k f fd ps sp
section
variable {P : Program} {w : World} {K : PySem.W.Frag} {mg : Str → Option Value} {base : Heap} {CX : CXT} {j k : Nat} {x : Str} {ps : List Str} {sp : Sp}
theorem CalG.mono (C : CalG P w K mg base CX j x ps sp) (h : j ≤ k) : CalG P w K mg base CX k x ps sp := by
  obtain ⟨f, fd, m1, m2, m3, F⟩ := C.ex
  exact ⟨f, fd, m1, m2, m3, F.mono h⟩
theorem Cal.toG (C : Cal P w K mg base CX k x ps sp) : CalG P w K mg base CX k x ps sp := by
  obtain ⟨f, fd, m1, m2, m3, F⟩ := C.ex
  exact ⟨f, fd, m1, m2, m3, FnG.of F⟩
theorem CalG.of {f : Addr} {fd : FuncData} (m1 : mg x = some (.ref f)) (m2 : PySem.W.keepIn K (.ref f) = true) (m3 : Binds K fd ps []) (F : FnG P w K mg base CX k f fd ps sp) : CalG P w K mg base CX k x ps sp := ⟨f, fd, m1, m2, m3, F⟩
end
/-! ### calls -/
section
variable {X : Cx} {CX : CXT} {k : Nat} {f : Addr} {fd : FuncData} {ps : List Str} {sp : Sp} {E : XK} {x : Str} {p pos : Pos} {e : Expr} {es : List Expr} {t : TA}
theorem goG {pn : List (Addr × Obj)} {σ : L2.St} {H : Hp} {s : Shared} {Q : VK} {us : List Value} {zs : List V} (F : FnG X.prog X.w X.K X.mg X.base CX k f fd ps sp) (gd : X.A.guards = some []) (rm : Room k X.A) (bd : Binds X.K fd ps []) (hE : ∀ u s', Inv X pn σ H s → CX X.stack H s E u s' → X.xe u s')
    (I : Inv X pn σ H s) (rv : Vals zs us) (q : sp zs H Q E) : wpAny (model X.prog X.w) X.A (call (.ref f) us) (EP X pn σ Q) X.xe s := by
  have ar : us.length = ps.length := rv.length.symm.trans (F.arity _ _ _ _ q)
  have b := bd s us I.kIn (by rw [List.append_nil]; exact ar)
  rw [List.append_nil] at b
  refine wpAny_call (codeAny_mono (F.go X.A X.stack s H ⟨us, []⟩ us zs Q E gd rm I.env0 b rv q) ?_)
  rintro (e' | fl) s' hq
  · exact hE _ s' I hq
  · rcases fl with _ | _ | _ | u
    all_goals first | exact I.after hq | exact hq.elim
theorem pe_calg (C : CalG X.prog X.w X.K X.mg X.base CX k x ps sp) (gd : X.A.guards = some []) (rm : Room k X.A) (hx : Passes CX X E) (ha : PA X (e :: es) t) (hg : Gl X x := by rfl)
    (hdb : (x == ("__debug__" : Str)) = false := by decide) (he : starEach (e :: es) X.env = (false, eval e X.env) :: starEach es X.env := by rfl) (hpl : (backTo pos (starEach es X.env)).any (·.1) = false := by rfl) :
    PE X (.Call (.Name x p) (e :: es) [] pos) (tCall sp [] E t) := by
  obtain ⟨f, fd, m1, m2, m3, F⟩ := C.ex
  constructor
  intro pn s σ H Q I h
  refine wpAny_Call_Name_kw (ld_glob I hg m1 ?_ hdb)
  refine PySem.W.callWith_K (h₀ := X.base) I.ok.mod.kin m2 (thn (ha.run pos pn s σ H _ I h) ?_) he hpl
  rintro us s1 ⟨zs, H1, I1, rv, q⟩
  refine ⟨I1.kIn, goG F gd rm m3 (fun u s' I c => hx pn σ H1 s1 u s' I c) I1 rv ?_⟩
  rw [List.append_nil] at q
  exact q
end
/-! ### a def's body -/
section
variable {P : Program} {w : World} {K : PySem.W.Frag} {mg : Str → Option Value} {base : Heap} {CX : CXT} {k : Nat} {f : Addr} {N ps : List Str} {sp : Sp} {nm qn : Str} {prm : Arguments} {bd : List Stmt} {sco : Scope} {u1 u2 u3 u4 u5 u6 u7 : Value} {an od : Option Addr} {osl : Array (Option Value)}
theorem fnG_of (at_f : K.lookup f = some ⟨u7, od, .func (PySem.W.fnOf nm qn prm bd sco u1 u2 u3 u4 an u5 u6), osl⟩) (cd : PySem.W.codeIn K u5 qn = true) (S : FnScope N ps sco) (ary : ∀ zs H Q E, sp zs H Q E → zs.length = ps.length)
    (body : ∀ (B : Around) (outs : List Env) (t : Shared) (H : Hp) (zs : List V) (Q : VK) (E : XK), B.guards = some [] → Room k (B.deeper (envOfC qn sco t.heap.objs.size f u5)) → sp zs H Q E →
      ∃ tr, PSs (cxOf CX P w K mg base N qn sco f u5 B outs t H E) bd tr ∧ tr { nx := fun _ H' => Q .non H', rt := Q } (start N zs) H) :
    FnG P w K mg base CX (k + 1) f (PySem.W.fnOf nm qn prm bd sco u1 u2 u3 u4 an u5 u6) ps sp := by
  constructor
  case arity => exact ary
  intro B outs t H ar us zs Q E gd rm e0 bt rv q
  have len := ary _ _ _ _ q
  have up := fun b o e => (e0.bs b o e).1
  have kin : K.In t.heap := e0.mod.kin.keeps up
  have ndl : t.heap.NoLimit := e0.mod.nolimit.keeps up
  have kd : ∀ y ∈ ps.zip us, sco.names.lookup y.1 = some .local ∨ (sco.names.lookup y.1 = some .cell ∧ ((cellsFrom (t.heap.objs.size + 1) sco.names []).lookup y.1).isSome = true) := by
    rintro ⟨a, b⟩ hy
    cases S.par a (List.of_mem_zip hy).1 with
    | inl z => exact .inl z
    | inr z => exact .inr ⟨z, PySem.W.cellsFrom_some _ _ _ (.inl z)⟩
  refine codeAny_call_function rm.depth (kin _ _ at_f) rfl S.co S.gen rfl (PySem.W.codeRec_of kin cd) (bt _ _ _ _ ?_)
  refine wpAny_newFunctionEnv_cells S.kind kd ?_
  intro ff eq t1 xx
  cases eq
  refine ⟨ndl.keeps xx.toInCall.keep, codeAny_func ?_⟩
  obtain ⟨tr, der, rd⟩ := body B outs t H zs Q E gd (rm.deeper _) q
  have I0 := inv_start (CX := CX) (E := E) S rm.hd e0 len rv xx
  refine wpAny_mono (der.run [] t1 (start N zs) H _ I0 rd) ?_ (fun _ _ z => z)
  intro fl t2 hz
  cases fl with
  | next => obtain ⟨σ', H', J, z⟩ := hz; exact ⟨.non, H', J.os, J.bare, J.base, J.hok, rfl, z⟩
  | ret u => obtain ⟨v, σ', H', J, rr, z⟩ := hz; exact ⟨v, H', J.os, J.bare, J.base, J.hok, rr, z⟩
  | brk => obtain ⟨_, _, _, z⟩ := hz; exact z.elim
  | cont => obtain ⟨_, _, _, z⟩ := hz; exact z.elim
theorem funG {x qual : Str} {st : Stmt} {fd : FuncData} (F : Fun K x qual st f fd) (S : FnScope N ps (defScope st)) (ary : ∀ zs H Q E, sp zs H Q E → zs.length = ps.length)
    (body : ∀ (cdv : Value) (B : Around) (outs : List Env) (t : Shared) (H : Hp) (zs : List V) (Q : VK) (E : XK), B.guards = some [] → Room k (B.deeper (envOfC qual (defScope st) t.heap.objs.size f cdv)) → sp zs H Q E →
      ∃ tr, PSs (cxOf CX P w K mg base N qual (defScope st) f cdv B outs t H E) (defBody st) tr ∧ tr { nx := fun _ H' => Q .non H', rt := Q } (start N zs) H) : FnG P w K mg base CX (k + 1) f fd ps sp := by
  obtain ⟨_, _, _, _, _, _, cdv, _, _, rfl, at_f, cd⟩ := F.ex
  exact fnG_of at_f cd S ary fun B outs t H zs Q E gd rm q => body cdv B outs t H zs Q E gd rm q
/-- where no error leaves it -/
theorem funG0 {x qual : Str} {st : Stmt} {fd : FuncData} (F : Fun K x qual st f fd) (S : FnScope N ps (defScope st)) (ary : ∀ zs H Q E, sp zs H Q E → zs.length = ps.length)
    (body : ∀ (cdv : Value) (B : Around) (outs : List Env) (t : Shared) (H : Hp) (zs : List V) (Q : VK) (E : XK), B.guards = some [] → Room k (B.deeper (envOfC qual (defScope st) t.heap.objs.size f cdv)) → sp zs H Q E →
      ∃ tr, PSs (cxOf CX0 P w K mg base N qual (defScope st) f cdv B outs t H E).nox (defBody st) tr ∧ tr { nx := fun _ H' => Q .non H', rt := Q } (start N zs) H) : FnG P w K mg base CX0 (k + 1) f fd ps sp :=
  funG F S ary fun cdv B outs t H zs Q E gd rm q => by
    obtain ⟨tr, d, r⟩ := body cdv B outs t H zs Q E gd rm q
    exact ⟨tr, d.nox, r⟩
end
/-! ### the law's own call -/
section
variable {P : Program} {w : World} {K : PySem.W.Frag} {mg mb : Str → Option Value} {k : Nat} {fa a : Addr} {fd : FuncData} {x : Str} {t : Shared} {vs : List Value} {ns : List Int}
theorem lawG (kin : K.In t.heap) (n1 : t.heap.Ns mainGlobals mg) (n2 : t.heap.Ns builtinsNs mb) (n3 : ∀ y : Str, y ≠ "__name__" → mb y = bootBuiltins y) (ndl : t.heap.NoLimit) (gz : t.gens = #[])
    (obj : t.heap.get? a = some { cls := .type "list", data := .seq vs.toArray }) (are : IntsAre vs ns) (small : ns.length ≤ 63) (rm : Room k callerA)
    (F : ∀ bh : Heap, K.In bh → bh.Ns mainGlobals mg → FnG P w K mg bh CX0 k fa fd [x] (spLaw K)) (bt : ∀ (s : Shared) (u : Value), BindsTo s fd ⟨[u], []⟩ [(x, u)]) :
    codeAny (model P w) callerA (.call (.ref fa) ⟨[.ref a], []⟩) (fun r s' => r = .ok (.ret (.bool true)) ∧ OldK t.heap s'.heap ∧ s'.os = t.os ∧ AllBare s'.gens) t := by
  have lens := are.length
  have rel := vals_ints are
  have main : ∀ H : Hp, (∀ b, H b = none ∨ (b = a ∧ H b = some (.frz { cls := .type "list", data := .seq vs.toArray } (.lst (ns.map V.int))))) → (H a ≠ none → K.lookup a = none) → SqL K H a (ns.map V.int) →
      codeAny (model P w) callerA (.call (.ref fa) ⟨[.ref a], []⟩) (fun r s' => r = .ok (.ret (.bool true)) ∧ OldK t.heap s'.heap ∧ s'.os = t.os ∧ AllBare s'.gens) t := by
    intro H form free sq
    have hok : HOk P w H t.heap := by
      intro b u e
      rcases form b with z | ⟨rfl, z⟩
      · rw [z] at e; cases e
      · rw [z] at e
        cases e
        exact ⟨obj, by rw [List.length_map]; exact sz_of (by omega), vs, _, rel, obj⟩
    have hide : ∀ {b : Addr} {o : Obj}, t.heap.get? b = some o → H b = none → (hidT t.heap H).get? b = some o := fun e z => hidT_get e z
    have plain : ∀ {b : Addr} {o : Obj} {es : Array DictEntry} {ep : Nat}, t.heap.get? b = some o → o.data = .dict es ep → H b = none := by
      intro b o es ep e dd
      rcases form b with z | ⟨rfl, _⟩
      · exact z
      · rw [obj] at e
        cases e
        exact nomatch dd
    have names : ∀ {b : Addr} {m : Str → Option Value}, t.heap.Ns b m → (hidT t.heap H).Ns b m := by
      rintro b m ⟨o, es, ep, e, dd, rr⟩
      exact ⟨o, es, ep, hide e (plain e dd), dd, rr⟩
    have kin2 : K.In (hidT t.heap H) := by
      intro b o e
      refine hide (kin b o e) ?_
      rcases form b with z | ⟨rfl, z⟩
      · exact z
      · rw [free (by rw [z]; exact fun q => nomatch q)] at e
        cases e
    obtain ⟨mc, c1, c2⟩ := ndl
    have md : Mod K mg (hidT t.heap H) := ⟨kin2, names n1, ⟨mb, names n2, n3⟩, ⟨mc, names c1, c2⟩⟩
    have e0 : Env0 P w K mg (hidT t.heap H) callerA [] t H :=
      { frames := rfl, mod := md, bs := fun b o e => of_hidT e, bsz := Nat.le_of_eq (hidT_size _ _), funs := trivial, frf := (fun _ hb => nomatch hb), hok := hok, bare := .of_eq gz }
    refine codeAny_mono ((F _ kin2 (names n1)).go callerA [] t H ⟨[.ref a], []⟩ [.ref a] [.ref a] (fun v _ => v = .bl true) (fun _ _ _ => False) rfl rm e0 (bt t (.ref a)) (.cons rfl .nil) ⟨a, ns, rfl, sq, small, fun _ => rfl⟩) ?_
    rintro (e' | fl) s' hz
    · exact False.elim hz
    · rcases fl with _ | _ | _ | u
      · exact False.elim hz
      · exact False.elim hz
      · exact False.elim hz
      · obtain ⟨v, H', h1, h2, h3, h4, h5, h6⟩ := hz
        have h6' : v = .bl true := h6
        subst h6'
        obtain rfl : u = Value.bool true := h5
        refine ⟨rfl, OldK.of_keep ?_, h1, h2⟩
        intro b o e
        rcases form b with z | ⟨rfl, z⟩
        · exact h3.keep b o e z (by intro y; cases y) (by intro y; cases y)
        · obtain ⟨y1, _⟩ := h4 b _ (h3.frzs b _ _ z)
          rw [obj] at e
          cases e
          exact y1
  cases lk : K.lookup a with
  | some o =>
    have e := kin a o lk
    rw [obj] at e
    cases e
    exact main (fun _ => none) (fun _ => .inl rfl) (fun z => absurd rfl z) (.inr ⟨_, vs.toArray, _, lk, rfl, rfl, rfl, by rw [List.size_toArray, lens]; exact sz_of (by omega), by simpa using rel⟩)
  | none =>
    refine main (fun b => if b = a then some (.frz { cls := .type "list", data := .seq vs.toArray } (.lst (ns.map V.int))) else none) ?_ (fun _ => lk) (.inl (.inr ⟨_, if_pos rfl⟩))
    intro b
    by_cases z : b = a
    · exact .inr ⟨z, if_pos z⟩
    · exact .inl (if_neg z)
end
theorem walkG {l : PySem.W.OpenLaw} {k : Nat} {q : Program} {loose : List Str} {XP : (Str → Option Value) → Heap → Prop} {YP : World → Heap → Prop} {d : DefRec} {K : Params → PySem.W.Frag} {x : Str} (hn : l.most = some 63) (hdf : d.params.defaults = []) (rm : Room k callerA)
    (hY : ∀ (w : World) (h : Heap), YP w h → (K w.params).In h)
    (F : ∀ (w : World) (mg : Str → Option Value) (fa : Addr) (h : Heap), (K w.params).In h → h.Ns mainGlobals mg → mg d.name = some (.ref fa) →
      ∃ fd : FuncData, (∀ (s : Shared) (u : Value), BindsTo s fd ⟨[u], []⟩ [(x, u)]) ∧ ∀ bh : Heap, (K w.params).In bh → bh.Ns mainGlobals mg → FnG l.prog w (K w.params) mg bh CX0 k fa fd [x] (spLaw (K w.params))) :
    PySem.W.WalkO q loose XP YP l.row.toRowW d [] (fun f vs => PySem.call f vs) := by
  refine Att.attach_call hn hdf ?_
  intro w s₀ t mg mb fa o pm cd doc a vs ns G Y ho hd hcd hmg obj are small gz
  have kin := hY w _ Y
  obtain ⟨fd, bt, FF⟩ := F w mg fa _ kin G.T.g hmg
  exact lawG kin G.T.g G.T.b G.T.builtins G.T.nolimit gz obj are small rm FF bt
end Tk

set_option Elab.async false
set_option linter.all false
set_option maxRecDepth 100000
set_option maxHeartbeats 4000000
/-! repr of data; errors of own classes that store their argument as value -/
namespace Tk
open PySem PySem.Spec PyProof.Rows L2
section
variable {X : Cx} {pn : List (Addr × Obj)} {σ : L2.St} {H : Hp} {s : Shared}
mutual
theorem Dd.reads (I : Inv X pn σ H s) : ∀ (d : PyData) (v : V) (u : Value), Dd X.K H v d → RelV v u → ∃ as, Reads s.heap u d as
  | .none, _, _, h, r => by
    cases h; cases r
    exact ⟨_, Reads.none⟩
  | .bool b, _, _, h, r => by
    cases h; cases r
    exact ⟨_, Reads.bool b⟩
  | .int i, _, _, h, r => by
    cases h
    obtain ⟨t, rfl⟩ := r
    exact ⟨_, Reads.int i t⟩
  | .str x, _, _, h, r => by
    cases h
    obtain ⟨t, rfl⟩ := r
    exact ⟨_, Reads.str x t⟩
  | .list ds, _, _, h, r => by
    cases h with
    | lst e al =>
      cases r
      obtain ⟨its, rv, ⟨o, n, ho, hc, _, hd⟩, _⟩ := I.list (SqL.of e)
      obtain ⟨as, q⟩ := DdAll.reads I ds _ its al rv
      exact ⟨_, Reads.list ho hc hd q⟩
  | .tuple ds, _, _, h, r => by
    cases h with
    | tup e al =>
      cases r
      obtain ⟨its, rv, ⟨o, ho, hc, n, hd⟩, _⟩ := I.tuple (SqT.of e)
      obtain ⟨as, q⟩ := DdAll.reads I ds _ its al rv
      exact ⟨_, Reads.tuple ho hc hd q⟩
  | .dict kvs, _, _, h, r => by
    cases h with
    | dct e =>
      cases r
      obtain ⟨_, _, vs, kv, o, es, ep, h1, h2, h3, h4, h5, h6⟩ := (show ObjOk X.prog X.w H s.heap _ (.dK []) from I.hok _ _ e)
      cases kv
      have z : es.toList = [] := by
        generalize es.toList = l at h5
        cases h5
        rfl
      exact ⟨_, Reads.dict (as := []) (bs := []) h1 h2.1 h3 (by rw [z]; exact .nil) (by rw [z]; exact .nil)⟩
theorem DdAll.reads (I : Inv X pn σ H s) : ∀ (ds : List PyData) (vs : List V) (us : List Value), DdAll X.K H vs ds → Vals vs us → ∃ as, ReadsAll s.heap us ds as
  | [], _, _, h, r => by
    cases h; cases r
    exact ⟨_, ReadsAll.nil⟩
  | d :: ds, _, _, h, r => by
    cases h with
    | cons h1 h2 =>
      cases r with
      | cons r1 r2 =>
        obtain ⟨as, q1⟩ := Dd.reads I d _ _ h1 r1
        obtain ⟨bs, q2⟩ := DdAll.reads I ds _ _ h2 r2
        exact ⟨_, ReadsAll.cons q1 q2⟩
end
end
/-- what repr is asked of -/
structure Shows (d : PyData) : Prop where
  form : d.hasDict = false ∨ d = .dict []
  show_ : d.showable = true
  len : d.shown.length ≤ 1000000
  deep : d.depth ≤ 60
def rReprD (K : PySem.W.Frag) : List V → Hp → VK → Prop := fun xs H Q => ∃ v d, xs = [v] ∧ Dd K H v d ∧ Shows d ∧ Q (.str d.shown) H
theorem r_reprD {K : PySem.W.Frag} {v : V} {d : PyData} {H : Hp} {Q : VK} (h : Dd K H v d) (S : Shows d) (q : Q (.str d.shown) H) : rReprD K [v] H Q := ⟨v, d, rfl, h, S, q⟩
theorem call_reprD {X : Cx} {K : PySem.W.Frag} (gd : X.A.guards = some []) (hu : X.A.units + 64 < cLine) (e : X.K = K := by rfl) : CallR X (.builtin "repr") (rReprD K) := by
  subst e
  intro pn s σ H xs us Q I r h
  obtain ⟨v, d, rfl, hd, S, q⟩ := h
  obtain ⟨u, rfl, ru⟩ := vals1 r
  have hl : d.shown.length ≤ sizeLine := Nat.le_trans S.len (by decide)
  obtain ⟨as, rd⟩ := Dd.reads I d v u hd ru
  have dp := S.deep
  have fin : ∀ a : Addr, Reads s.heap (.ref a) d as → (d.hasDict = true → sysModules ∉ as) → wpAny (model X.prog X.w) X.A (call (.builtin "repr") [.ref a]) (EP X pn σ Q) X.xe s := fun a rd hs =>
    repr_of_reads' rd S.show_ hs gd (by omega) (fun _ _ z => z) (fun h' t tk k => ⟨.str d.shown, H, I.kept (t' := tk) k, ⟨t, rfl⟩, q⟩) hl
  cases hd with
  | non => cases ru; exact PySem.P.repr_of_none ⟨.str _, H, I.tok _, ⟨_, rfl⟩, q⟩
  | bl b =>
    cases ru
    have q' : Q (.str (if b then "True" else "False")) H := q
    exact PySem.P.repr_of_bool ⟨.str _, H, I.tok _, ⟨_, rfl⟩, q'⟩
  | int i =>
    obtain ⟨t, rfl⟩ := ru
    exact PySem.P.repr_of_int (by simpa [PyData.showable] using S.show_) ⟨.str _, H, I.tok _, ⟨_, rfl⟩, q⟩
  | str x =>
    obtain ⟨t, rfl⟩ := ru
    exact PySem.P.repr_of_str ⟨.str _, H, I.tok _, ⟨_, rfl⟩, q⟩ hl
  | lst e al =>
    cases ru
    exact fin _ rd (PyData.noDict_hsm (S.form.resolve_right fun z => nomatch z))
  | tup e al =>
    cases ru
    exact fin _ rd (PyData.noDict_hsm (S.form.resolve_right fun z => nomatch z))
  | dct e =>
    cases ru
    obtain ⟨_, ns, _⟩ := (show ObjOk X.prog X.w H s.heap _ (.dK []) from I.hok _ _ e)
    cases rd with
    | dict h1 h2 h3 h4 h5 =>
      rename_i es ep as1 bs1
      cases h4' : es.toList with
      | nil =>
        rw [h4'] at h4 h5
        cases h4; cases h5
        refine fin _ (.dict h1 h2 h3 (by rw [h4']; exact .nil) (by rw [h4']; exact .nil)) fun _ m => ?_
        rcases List.mem_cons.mp m with z | z
        · rw [← z] at ns; simp at ns
        · cases z
      | cons y ys => rw [h4'] at h4; cases h4
/-! ### own errors with one argument, kept as value -/
structure ExcCls (K : PySem.W.Frag) (mg : Str → Option Value) (x : Str) (C fI : Addr) : Prop where
  gC : mg x = some (.ref C)
  T : OexC K C
  nv : PySem.W.findIn K (.ref C) "value" = some none
  iC : PySem.W.findIn K (.ref C) "__init__" = some (some (.ref fI))
  tI : PySem.W.typeIn K (.ref fI) = some (.type "function")
  xf : XfC K C
  te : PySem.W.exmOne K (.ref C) (.ref C) = some true
theorem exm_own {K : PySem.W.Frag} {C : Addr} (a : PySem.W.subIn K (.ref C) (.type "BaseException") = some true) (b : PySem.W.isClsIn K C = true) (c : PySem.W.typeIn K (.ref C) = some (.type "type")) (d : PySem.W.subIn K (.ref C) (.ref C) = some true) : PySem.W.exmOne K (.ref C) (.ref C) = some true := by
  have b' : (PySem.W.clsIn K C).isSome = true := b
  unfold PySem.W.exmOne PySem.W.kitCls
  simp [a, b', c, d]
abbrev valF (v : V) : List (Str × V) := [(("value" : Str), v)]
def spIni (K : PySem.W.Frag) (C : Addr) : Sp := fun vs H Q _ => ∃ (a : Addr) (v : V), vs = [.ref a, v] ∧ H a = some (exo a C none) ∧ ∀ dx, H dx = none → dx ≠ a → Q .non (upd (upd H dx (exd dx (valF v))) a (exo a C (some dx)))
structure ExcR (P : Program) (w : World) (K : PySem.W.Frag) (mg : Str → Option Value) (base : Heap) (x : Str) (C : Addr) : Prop where
  cls : ∃ (fI : Addr) (fd : FuncData), ExcCls K mg x C fI ∧ Binds K fd ["self", "value"] [] ∧ FnOk P w K mg base CX0 1 fI fd ["self", "value"] (spIni K C)
theorem ok_ini {P : Program} {w : World} {K : PySem.W.Frag} {mg : Str → Option Value} {base : Heap} {st : Stmt} {q : Str} {f C : Addr} {fd : FuncData} (F : Fun K "__init__" q st f fd) (sc : FnScope ["self", "value"] ["self", "value"] (defScope st))
    (hb : ∃ p1 p2 p3 p4, defBody st = [.Assign [.Attribute (.Name "self" p1) "value" p2] (.Name "value" p3) p4]) (T : OexC K C) (nv : PySem.W.findIn K (.ref C) "value" = some none) : FnOk P w K mg base CX0 1 f fd ["self", "value"] (spIni K C) := by
  refine F.ok sc (fun vs H Q E h => ?_) (fun cdv A outer s H vs Q E hr h => ?_)
  · obtain ⟨a, v, rfl, _⟩ := h
    rfl
  · obtain ⟨a, v, rfl, ha, k⟩ := h
    obtain ⟨p1, p2, p3, p4, eb⟩ := hb
    rw [eb]
    have v0 : Vis (defScope st) "self" := (sc.par "self" (by simp)).elim Or.inl fun z => Or.inr (Or.inl z)
    have v1 : Vis (defScope st) "value" := (sc.par "value" (by simp)).elim Or.inl fun z => Or.inr (Or.inl z)
    refine ⟨_, pss_one (ps_ost (pv 0 rfl v0) (pv 1 rfl v1)), ?_⟩
    exact ⟨_, rfl, _, rfl, a, C, rfl, T, nv, .inl ⟨ha, fun dx hd hn => k dx hd hn⟩⟩
/-- what is wished where such an error is made -/
def MkG (K : PySem.W.Frag) (C : Addr) (v : V) (H1 : Hp) (R : XK) : Prop := [v].length ≤ 1000 ∧ ∀ a, H1 a = none → spIni K C (.ref a :: ([v] ++ [])) (upd H1 a (exo a C none))
  (fun z H2 => z = .non ∧ ∃ (d : Addr) (fs : List (Str × V)), H2 a = some (exo a C (some d)) ∧ H2 d = some (exd d fs) ∧ H1 d = none ∧ R (.ref C) (some d) (upd (del H2 a) d (.xd fs))) (fun _ _ _ => False)
theorem r_mk {K : PySem.W.Frag} {C : Addr} {v : V} {H : Hp} {R : XK} (q : ∀ d H2, H d = none → Same H H2 → H2 d = some (.xd (valF v)) → R (.ref C) (some d) H2) : MkG K C v H R := by
  refine ⟨by simp, fun a ha => ⟨a, v, rfl, upd_same, fun dx hd hn => ⟨rfl, dx, valF v, upd_same, by rw [upd_ne hn, upd_same], ?_, ?_⟩⟩⟩
  · rw [upd_ne hn] at hd
    exact hd
  · rw [upd_ne hn] at hd
    refine q dx _ hd (fun b o e => ?_) upd_same
    have n1 := ne_of_none e hd
    have n2 := ne_of_none e ha
    rw [upd_ne n1, del_ne n2, upd_ne n2, upd_ne n1, upd_ne n2]
    exact e
def tRaiseV (K : PySem.W.Frag) (C : Addr) (W : WX) (te : TE) : TS := fun _ σ H => te σ H fun v H1 => MkG K C v H1 fun cls d H' => W cls d σ H'
theorem ps_raiseV {X : Cx} {K : PySem.W.Frag} {x : Str} {C : Addr} {W : WX} {e : Expr} {te : TE} {p pos pos2 : Pos} (R : ExcR X.prog X.w K X.mg X.base x C) (tk : Takes X W) (hr : Room 2 X.A) (he : PE X e te) (eK : X.K = K := by rfl) (hc : X.calm = true := by rfl) (hg : Gl X x := by rfl)
    (hdb : (x == ("__debug__" : Str)) = false := by decide) (hs : starEach (e :: []) X.env = (false, eval e X.env) :: starEach [] X.env := by rfl) (hpl : (backTo pos (starEach [] X.env)).any (·.1) = false := by rfl) :
    PS X (.Raise (some (.Call (.Name x p) [e] [] pos)) none pos2) (tRaiseV K C W te) := by
  subst eK
  obtain ⟨fI, fd, c, b, F1⟩ := R.cls
  exact ps_raise hc tk (pmk_oex (p := p) c.T c.iC c.tI F1 hr b .nil pass0 hg c.gC (pa_cons he pa_nil hs) hdb hs hpl)
theorem r_raise {K : PySem.W.Frag} {C : Addr} {W : WX} {te : TE} {D : Ends} {σ : L2.St} {H : Hp} (h : te σ H fun v H1 => MkG K C v H1 fun cls d H' => W cls d σ H') : tRaiseV K C W te D σ H := h
/-! ### isinstance of the caught error, where it is one -/
section
open PySem.W
variable {prog : Program} {w : World} {A : Around} {E : Value → Shared → Prop} {Q : Value → Shared → Prop} {s : Shared} {K : PySem.W.Frag} {x D : Addr} {ox : Obj} {od : Option Obj} {c : Value}
theorem isi_yes (X : K.In s.heap) (I : InstAt s.heap x ox D od) (ht : ∀ h : Heap, K.In h → Looks (model prog w) h (typeOf c) (.type "type")) (hi : ∀ h : Heap, K.In h → Looks (model prog w) h (isType c) true) (hs : subIn K (.ref D) c = some true) (q : Q (.bool true) s) :
    wpAny (model prog w) A (call (.builtin "isinstance") [.ref x, c]) Q E s := by
  refine PyProof.Rows.call_isinstance_of ?_ (fun z => nomatch z)
  unfold Builtin.«isinstance.nested»
  have L0 := I.type (M := model prog w)
  refine wpAny_bind (m := typeOf (.ref x)) (L0.at ?_)
  show wpAny _ _ (if (Value.ref D == c) = true then _ else _) _ _ s
  by_cases he : (Value.ref D == c) = true
  · rw [if_pos he]
    repeat (first | refine wpAny_pure ?_ | refine wpAny_rule ?_ | refine wpAny_bind ?_)
    exact q
  · rw [if_neg he]
    refine wpAny_bind (m := typeOf c) ((ht _ X).at ?_)
    show wpAny _ _ (if (Value.type "type" == Value.type "type") = true then _ else _) _ _ s
    rw [if_pos (by decide)]
    refine wpAny_bind (wpAny_bind (m := isType c) ((hi _ X).at ?_))
    have L9 : Looks (model prog w) s.heap (isInstance (.ref x) c) true := L0.andThen (looks_subIn X hs)
    refine wpAny_bind (m := isInstance (.ref x) c) (L9.at ?_)
    exact wpAny_pure (a := true) (wpAny_pure q)
theorem isType_ref {C : Addr} (hd : hasDictIn K C = true) (h : Heap) (X : K.In h) : Looks (model prog w) h (isType (.ref C)) true := by
  obtain ⟨cd, hc, _⟩ := any_some hd
  unfold clsIn at hc
  split at hc
  · rename_i c' d' cd' sl' ho
    intro A' Q' E' s' k q
    unfold isType
    unfold loadHead
    exact wpAny_bind (wpAny_loadPart (k _ _ (X _ _ ho)) (wpAny_pure q))
  · cases hc
end
/-- isinstance(e, c) is True -/
def rIsE1 (K : PySem.W.Frag) (D a : Addr) (dd : Addr) : List V → Hp → VK → Prop := fun xs H Q => ∃ (c : V) (cv : Value) (fs : List (Str × V)), xs = [.ref a, c] ∧ H dd = some (.xd fs) ∧ (∀ u, RelV c u → u = cv) ∧
  (PySem.W.typeIn K cv = some (.type "type") ∨ typeOf cv = pure (.type "type")) ∧ ((∃ n, cv = .type n) ∨ ∃ C, cv = .ref C ∧ PySem.W.hasDictIn K C = true) ∧ PySem.W.subIn K (.ref D) cv = some true ∧ Q (.bl true) H
theorem call_isE1 {X : Cx} {K : PySem.W.Frag} {a D dd : Addr} {oe : Obj} {pn : List (Addr × Obj)} (hz : Zc (.ref D) (some dd) oe) (hf : ∃ vs, oe.data = .fields vs) (eK : X.K = K := by rfl) : CallR (X.suite a ((a, oe) :: pn)) (.builtin "isinstance") (rIsE1 K D a dd) := by
  subst eK
  intro pins s σ H xs us Q I r h
  obtain ⟨c, cv, fs, rfl, hx, hcv, ht, hk, hs, q⟩ := h
  obtain ⟨u1, u2, rfl, r1, r2⟩ := vals2 r
  cases r1
  obtain rfl := hcv _ r2
  obtain ⟨hget, _⟩ := I.pin (a, oe) (List.mem_append.mpr (.inl List.mem_cons_self))
  obtain ⟨vs, hv⟩ := hf
  obtain ⟨mA, hns, _⟩ := (show ObjOk X.prog X.w H s.heap dd (.xd fs) from I.hok dd _ hx)
  obtain ⟨od, ho, _⟩ := lookIn_ns hns
  have J : PySem.W.InstAt s.heap a oe D (some od) := ⟨hget, hz.1, by unfold PySem.W.notCls; rw [hv] <;> rfl, by rw [hz.2]; exact ho⟩
  refine isi_yes I.kIn J (fun h Xh => ht.elim (fun e => PySem.W.looks_typeIn Xh e) fun e => PySem.W.Looks.of_pure e) ?_ hs ⟨.bl true, H, I, rfl, q⟩
  rcases hk with ⟨n, rfl⟩ | ⟨C, rfl, hd⟩
  · exact fun _ _ => PySem.W.Looks.of_pure rfl
  · exact isType_ref hd
end Tk

set_option Elab.async false
set_option linter.all false
set_option maxRecDepth 100000
set_option maxHeartbeats 4000000
/-! an entry as text: what is written is read back, and nothing else is -/
namespace TkM
open PySem PySem.StrLaws PySem.Builtin.Str SX
open TL (spl par joinL numL)
def esc (v : List Nat) : List Nat := v.flatMap fun c => if c = 92 ∨ c = 34 then [92, c] else [c]
def esc1 (v : List Nat) : List Nat := v.flatMap fun c => if c = 92 then [92, 92] else [c]
theorem esc_cons (c : Nat) (v : List Nat) : esc (c :: v) = (if c = 92 ∨ c = 34 then [92, c] else [c]) ++ esc v := by
  unfold esc
  rw [List.flatMap_cons]
theorem esc1_cons (c : Nat) (v : List Nat) : esc1 (c :: v) = (if c = 92 then [92, 92] else [c]) ++ esc1 v := by
  unfold esc1
  rw [List.flatMap_cons]
theorem repl1 (a : Nat) (z : List Nat) : ∀ l : List Nat, replL [a] z l = l.flatMap fun c => if c = a then z else [c]
  | [] => by rw [replL_nil]; rfl
  | c :: r => by
    rw [List.flatMap_cons]
    by_cases e : c = a
    · subst e
      rw [if_pos rfl, replL_hit (by simp) (by simp), ← repl1 c z r]
      rfl
    · rw [if_neg e, replL_miss (by simp [e]), repl1 a z r]
      rfl
theorem esc_repl (v : List Nat) : replL [34] [92, 34] (replL [92] [92, 92] v) = esc v := by
  rw [repl1, repl1, List.flatMap_assoc]
  unfold esc
  congr 1
  funext c
  by_cases e : c = 92
  · subst e; rfl
  · by_cases e2 : c = 34
    · subst e2; rfl
    · simp [e, e2]
theorem esc_head : ∀ (v : List Nat) (r : List Nat), esc v ≠ 34 :: r
  | [], _ => by intro h; cases h
  | c :: v, r => by
    rw [esc_cons]
    by_cases e : c = 92 ∨ c = 34
    · rw [if_pos e]
      intro h
      injection h with h1 _
      omega
    · rw [if_neg e]
      intro h
      injection h with h1 _
      omega
theorem back1 : ∀ v : List Nat, replL [92, 34] [34] (esc v) = esc1 v
  | [] => replL_nil
  | c :: v => by
    have ih := back1 v
    rw [esc_cons, esc1_cons]
    by_cases e : c = 92
    · subst e
      rw [if_pos (.inl rfl), if_pos rfl]
      show replL [92, 34] [34] (92 :: 92 :: esc v) = 92 :: 92 :: esc1 v
      rw [replL_miss (by simp), replL_miss, ih]
      intro h
      cases ev : esc v with
      | nil => rw [ev] at h; cases h
      | cons d r =>
        rw [ev] at h
        have h2 : [92, d] = [92, 34] := h
        injection h2 with _ h3
        injection h3 with h4 _
        exact esc_head v r (by rw [ev, h4])
    · by_cases e2 : c = 34
      · subst e2
        rw [if_pos (.inr rfl), if_neg e]
        show replL [92, 34] [34] (92 :: 34 :: esc v) = 34 :: esc1 v
        rw [replL_hit (by simp) (by simp)]
        show [34] ++ replL [92, 34] [34] (esc v) = _
        rw [ih]
        rfl
      · rw [if_neg (by omega), if_neg e]
        show replL [92, 34] [34] (c :: esc v) = c :: esc1 v
        rw [replL_miss (by
          intro h
          have h2 : c = 92 := by
            cases ev : esc v with
            | nil => rw [ev] at h; cases h
            | cons d r =>
              rw [ev] at h
              have h2 : [c, d] = [92, 34] := h
              injection h2
          exact e h2), ih]
theorem back2 : ∀ v : List Nat, replL [92, 92] [92] (esc1 v) = v
  | [] => replL_nil
  | c :: v => by
    have ih := back2 v
    rw [esc1_cons]
    by_cases e : c = 92
    · subst e
      rw [if_pos rfl]
      show replL [92, 92] [92] (92 :: 92 :: esc1 v) = _
      rw [replL_hit (by simp) (by simp)]
      show [92] ++ replL [92, 92] [92] (esc1 v) = _
      rw [ih]
      rfl
    · rw [if_neg e]
      show replL [92, 92] [92] (c :: esc1 v) = c :: v
      rw [replL_miss (by
        intro h
        have h2 : c = 92 := by
          cases ev : esc1 v with
          | nil => rw [ev] at h; cases h
          | cons d r =>
            rw [ev] at h
            have h2 : [c, d] = [92, 92] := h
            injection h2
        exact e h2), ih]
theorem esc_back (v : List Nat) : replL [92, 92] [92] (replL [92, 34] [34] (esc v)) = v := by rw [back1, back2]
/-! ### the careful reader of a value -/
def vr : List Nat → List Nat → Option (List Nat)
  | [], found => some found
  | [c], found => if c = 34 ∨ c = 92 then none else some (found ++ [c])
  | c :: d :: r, found => if c = 34 then none else if c = 92 then (if d = 92 ∨ d = 34 then vr r (found ++ [d]) else none) else vr (d :: r) (found ++ [c])
theorem vr_esc : ∀ (v found : List Nat), vr (esc v) found = some (found ++ v)
  | [], found => by
    show some found = some (found ++ [])
    rw [List.append_nil]
  | c :: v, found => by
    have ih := vr_esc v (found ++ [c])
    rw [List.append_assoc] at ih
    rw [esc_cons]
    by_cases e : c = 92 ∨ c = 34
    · rw [if_pos e]
      show vr (92 :: c :: esc v) found = _
      unfold vr
      rw [if_neg (by decide), if_pos rfl, if_pos e, ih]
      rfl
    · rw [if_neg e]
      show vr (c :: esc v) found = _
      cases ev : esc v with
      | nil =>
        rw [ev] at ih
        unfold vr
        rw [if_neg (by omega)]
        have : v = [] := by
          cases v with
          | nil => rfl
          | cons d v => rw [esc_cons] at ev; split at ev <;> cases ev
        subst this
        rfl
      | cons d r =>
        rw [ev] at ih
        unfold vr
        rw [if_neg (by omega), if_neg (by omega), ih]
        rfl
theorem vr_back : ∀ (n : Nat) (t found w : List Nat), t.length ≤ n → vr t found = some w → ∃ v, w = found ++ v ∧ esc v = t
  | _, [], found, w, _, h => by
    have h2 : some found = some w := h
    injection h2 with h3
    exact ⟨[], by rw [List.append_nil]; exact h3.symm, rfl⟩
  | _, [c], found, w, _, h => by
    unfold vr at h
    by_cases e : c = 34 ∨ c = 92
    · rw [if_pos e] at h; cases h
    · rw [if_neg e] at h
      injection h with h3
      refine ⟨[c], h3.symm, ?_⟩
      rw [esc_cons, if_neg (by omega)]
      rfl
  | n + 1, c :: d :: r, found, w, hl, h => by
    unfold vr at h
    simp only [List.length_cons] at hl
    by_cases e : c = 34
    · rw [if_pos e] at h; cases h
    · rw [if_neg e] at h
      by_cases e2 : c = 92
      · rw [if_pos e2] at h
        by_cases e3 : d = 92 ∨ d = 34
        · rw [if_pos e3] at h
          obtain ⟨v, h1, h2⟩ := vr_back n r _ _ (by omega) h
          refine ⟨d :: v, by rw [h1, List.append_assoc]; rfl, ?_⟩
          rw [esc_cons, if_pos e3, h2, e2]
          rfl
        · rw [if_neg e3] at h; cases h
      · rw [if_neg e2] at h
        obtain ⟨v, h1, h2⟩ := vr_back n (d :: r) _ _ (by simp only [List.length_cons]; omega) h
        refine ⟨c :: v, by rw [h1, List.append_assoc]; rfl, ?_⟩
        rw [esc_cons, if_neg (by omega), h2]
        rfl
  | 0, _ :: _ :: _, _, _, h, _ => by simp at h
/-! ### numbers -/
theorem num_back {a : List Nat} (h : NumText.AllDigits a) (h0 : ∃ c r, a = c :: r ∧ c ≠ 48) : numL (NumText.digitsVal a) = a := by
  obtain ⟨c, r, rfl, h1⟩ := h0
  have hc := h.head
  show (Nat.toDigits 10 (NumText.digitsVal (c :: r))).map Char.toNat = c :: r
  rw [NumText.toDigits_digitsVal r.length (c :: r) rfl h (.inr ⟨c, r, rfl, by omega⟩), List.map_map]
  refine (List.map_congr_left fun d hd => ?_).trans (List.map_id _)
  have := h d hd
  show (Char.ofNat d).toNat = d
  have key : ∀ d : Nat, d < 58 → (Char.ofNat d).toNat = d := by decide
  exact key d (by omega)
theorem numL_head {n : Nat} (h : 1 ≤ n) : ∃ c r, numL n = c :: r ∧ c ≠ 48 := by
  induction n using Nat.strongRecOn with
  | _ n ih =>
    by_cases hn : n < 10
    · rw [TL.numL_lt hn]
      exact ⟨_, _, rfl, by omega⟩
    · rw [TL.numL_step (by omega)]
      obtain ⟨c, r, e, h1⟩ := ih (n / 10) (by omega) (by omega)
      exact ⟨c, r ++ [48 + n % 10], by rw [e]; rfl, h1⟩
end TkM

set_option Elab.async false
set_option linter.all false
set_option maxRecDepth 100000
set_option maxHeartbeats 4000000
/-! split at most twice; numbers as text; an entry read and written -/
namespace TkM
open PySem PySem.StrLaws PySem.Builtin PySem.Builtin.Str SX Tk
open TL (spl par joinL numL tl)
/-! ### occurrences, at most so many -/
theorem occ_most (s sub : Str) (hi most lo : Nat) (hw : 1 ≤ sub.length) : ∀ (m cur : Nat) (p : Array Nat × Nat), ChainG s sub hi lo p.1.toList p.2 → (p.1.size < most → ∀ k, p.2 ≤ k → k < cur → ¬ At s sub hi k) →
    ∃ q : Array Nat × Nat, (forIn (List.range' cur m) p (occBody s sub hi most)).run = q ∧ ChainG s sub hi lo q.1.toList q.2 ∧ (q.1.size < most → ∀ k, q.2 ≤ k → k < cur + m → ¬ At s sub hi k)
  | 0, cur, p, g, no => ⟨p, rfl, g, no⟩
  | m + 1, cur, p, g, no => by
    rw [List.range'_succ, List.forIn_cons, show cur + (m + 1) = cur + 1 + m by omega]
    unfold occBody
    split
    · rename_i c
      obtain ⟨⟨⟨c1, c2⟩, c3⟩, c4⟩ := c
      refine occ_most s sub hi most lo hw m (cur + 1) (p.1.push cur, cur + sub.length) ?_ ?_
      · show ChainG s sub hi lo (p.1.push cur).toList _
        rw [Array.toList_push]
        exact chainG_snoc g c2 ⟨c3, c4⟩ (no c1)
      · intro _ k k1 k2
        have k1' : cur + sub.length ≤ k := k1
        omega
    · rename_i c
      refine occ_most s sub hi most lo hw m (cur + 1) p g ?_
      intro z k k1 k2 at_k
      rcases Nat.lt_or_ge k cur with q | q
      · exact no z k k1 q at_k
      · obtain rfl : k = cur := by omega
        exact c ⟨⟨⟨z, k1⟩, at_k.1⟩, at_k.2⟩
theorem occ_two (x y : Str) (most : Nat) (hw : 1 ≤ y.length) : ∃ f, ChainG x y x.length 0 (occurrences x y 0 x.length most) f ∧ ((occurrences x y 0 x.length most).length < most → ∀ k, f ≤ k → ¬ At x y x.length k) := by
  rw [occ_eq]
  obtain ⟨q, e, g, no⟩ := occ_most x y x.length most 0 hw (x.length + 1 - 0) 0 ((#[] : Array Nat), 0) rfl (fun _ k _ z => by omega)
  refine ⟨q.2, ?_, ?_⟩
  · rw [e]; exact g
  · rw [e]
    intro z k k1 a
    exact no (by rw [← Array.length_toList]; exact z) k k1 (by have := a.1; omega) a
/-- parts, at most three -/
theorem split2_few (x : Str) (c : Nat) : (Txt.splitMax x (S [c]) 2).length ≤ 3 := by
  unfold Txt.splitMax
  split
  · exact Nat.le_add_left 1 2
  · split
    · exact Nat.le_add_left 1 2
    · rw [length_partsBetween]
      have : (occurrences x (S [c]) 0 x.length (limitOf x 2)).length ≤ limitOf x 2 := occ_length_le _ _ _ _ _
      have e : limitOf x 2 = 2 := rfl
      omega
theorem first_at {L : List Nat} {c f : Nat} {p r : List Nat} (x : Str) (ex : x = S L) (hp : c ∉ p) (e : L.drop f = p ++ c :: r) {k : Nat} (k1 : f ≤ k) (at_k : At x (S [c]) x.length k) (no : ∀ j, f ≤ j → j < k → ¬ At x (S [c]) x.length j) : k = f + p.length := by
  subst ex
  have is : ∀ j, At (S L) (S [c]) (S L).length j ↔ L[j]? = some c := subAt_one (S L) c
  have g : ∀ j, L[f + j]? = (p ++ c :: r)[j]? := fun j => by rw [← e, List.getElem?_drop]
  have here : At (S L) (S [c]) (S L).length (f + p.length) := (is _).mpr (by rw [g, List.getElem?_append_right (Nat.le_refl _), Nat.sub_self]; rfl)
  rcases Nat.lt_trichotomy k (f + p.length) with q | q | q
  · have z := (is k).mp at_k
    rw [show k = f + (k - f) by omega, g, List.getElem?_append_left (by omega)] at z
    exact absurd (List.mem_of_getElem? z) hp
  · exact q
  · exact absurd here (no _ (by omega) q)
theorem split2 {p q r : List Nat} {c : Nat} (hc : c < 256) (hp : c ∉ p) (hq : c ∉ q) : Txt.splitMax (S (p ++ c :: (q ++ c :: r))) (S [c]) 2 = [S p, S q, S r] := by
  obtain ⟨f, g, no⟩ := occ_two (S (p ++ c :: (q ++ c :: r))) (S [c]) 2 (Nat.le_refl _)
  have lim : limitOf (S (p ++ c :: (q ++ c :: r))) 2 = 2 := rfl
  have hl : (S (p ++ c :: (q ++ c :: r))).length = p.length + (q.length + (r.length + 1) + 1) := by rw [S_len]; simp only [List.length_append, List.length_cons]
  have is : ∀ j, At (S (p ++ c :: (q ++ c :: r))) (S [c]) (S (p ++ c :: (q ++ c :: r))).length j ↔ (p ++ c :: (q ++ c :: r))[j]? = some c := subAt_one _ c
  have d1 : (p ++ c :: (q ++ c :: r)).drop (p.length + 1) = q ++ c :: r := by rw [← List.drop_drop, List.drop_left]; rfl
  have d2 : (p ++ c :: (q ++ c :: r)).drop (p.length + 1 + q.length + 1) = r := by rw [← List.drop_drop, ← List.drop_drop, d1, List.drop_left]; rfl
  have a1 : At (S (p ++ c :: (q ++ c :: r))) (S [c]) (S (p ++ c :: (q ++ c :: r))).length p.length := (is _).mpr (by rw [List.getElem?_append_right (Nat.le_refl _), Nat.sub_self]; rfl)
  have a2 : At (S (p ++ c :: (q ++ c :: r))) (S [c]) (S (p ++ c :: (q ++ c :: r))).length (p.length + 1 + q.length) := (is _).mpr (by rw [← List.getElem?_drop, d1, List.getElem?_append_right (Nat.le_refl _), Nat.sub_self]; rfl)
  have key : occurrences (S (p ++ c :: (q ++ c :: r))) (S [c]) 0 (S (p ++ c :: (q ++ c :: r))).length 2 = [p.length, p.length + 1 + q.length] := by
    have few : (occurrences (S (p ++ c :: (q ++ c :: r))) (S [c]) 0 (S (p ++ c :: (q ++ c :: r))).length 2).length ≤ 2 := occ_length_le _ _ _ _ _
    generalize occurrences (S (p ++ c :: (q ++ c :: r))) (S [c]) 0 (S (p ++ c :: (q ++ c :: r))).length 2 = cs at g no few
    match cs, g, no, few with
    | [], g, no, _ =>
      have e : f = 0 := g
      exact absurd a1 (no (by decide) _ (by omega))
    | [b], g, no, _ =>
      obtain ⟨g1, g2, g3, g4⟩ := g
      have e : f = b + 1 := g4
      have eb := first_at (L := p ++ c :: (q ++ c :: r)) (f := 0) (p := p) (r := q ++ c :: r) _ rfl hp rfl g1 g2 g3
      exact absurd a2 (no (by simp) _ (by omega))
    | [b, d], g, no, _ =>
      obtain ⟨g1, g2, g3, g4, g5, g6, g7⟩ := g
      have eb := first_at (L := p ++ c :: (q ++ c :: r)) (f := 0) (p := p) (r := q ++ c :: r) _ rfl hp rfl g1 g2 g3
      have e0 : b + (S [c]).length = p.length + 1 := by rw [eb]; show 0 + p.length + 1 = _; omega
      rw [e0] at g4 g6
      have ed := first_at (L := p ++ c :: (q ++ c :: r)) (f := p.length + 1) (p := q) (r := r) _ rfl hq d1 g4 g5 g6
      rw [eb, ed, Nat.zero_add]
    | _ :: _ :: _ :: _, _, _, few => simp at few
  unfold Txt.splitMax
  rw [lim, key, if_neg, if_neg (by simp), partsBetween_eq]
  · show [strSub _ 0 p.length, strSub _ (p.length + 1) (p.length + 1 + q.length), strSub _ (p.length + 1 + q.length + 1) (S (p ++ c :: (q ++ c :: r))).length] = _
    have e1 : strSub (S (p ++ c :: (q ++ c :: r))) 0 p.length = S p := TL.ext_tl (by rw [TL.tl_strSub]; show ((p ++ _).drop 0).take (p.length - 0) = p; rw [List.drop_zero, Nat.sub_zero, List.take_left])
    have e2 : strSub (S (p ++ c :: (q ++ c :: r))) (p.length + 1) (p.length + 1 + q.length) = S q := TL.ext_tl (by
      rw [TL.tl_strSub]
      show ((p ++ c :: (q ++ c :: r)).drop (p.length + 1)).take _ = q
      rw [d1, Nat.add_sub_cancel_left, List.take_left])
    have e3 : strSub (S (p ++ c :: (q ++ c :: r))) (p.length + 1 + q.length + 1) (S (p ++ c :: (q ++ c :: r))).length = S r := TL.ext_tl (by
      rw [TL.tl_strSub_end]
      exact d2)
    rw [e1, e2, e3]
  · rw [Bool.or_eq_true, decide_eq_true_eq, decide_eq_true_eq]
    rintro (z | z)
    · rw [hl] at z
      have : (S [c]).length = 1 := rfl
      omega
    · exact TL.kind_ok (all256 (b := [c]) (by simp [hc])) z
/-! ### numbers -/
theorem ascii_digit {c : Nat} (h : c < 128) : Unicode.isDigit c = (decide (48 ≤ c) && decide (c ≤ 57)) := by
  have key : ∀ c : Fin 128, Unicode.isDigit c.val = (decide (48 ≤ c.val) && decide (c.val ≤ 57)) := by decide +kernel
  exact key ⟨c, h⟩
def digB (c : Nat) : Bool := decide (48 ≤ c) && decide (c ≤ 57)
theorem all_dig : ∀ a : List Nat, (∀ x ∈ a, x < 128) → a.all Unicode.isDigit = a.all digB
  | [], _ => rfl
  | c :: r, h => by
    rw [List.all_cons, List.all_cons, all_dig r fun x hx => h x (List.mem_cons_of_mem _ hx), ascii_digit (h c (List.mem_cons_self ..))]
    rfl
theorem digits_told (a : List Nat) : (Txt.isascii (S a) && Txt.isdigit (S a)) = (!a.isEmpty && a.all digB) := by
  have e1 : Txt.isascii (S a) = a.all fun c => decide (c < 128) := by
    unfold Txt.isascii
    rw [← Array.all_toList]
  have e2 : Txt.isdigit (S a) = (decide (0 < a.length) && a.all Unicode.isDigit) := by
    unfold Txt.isdigit
    rw [← Array.all_toList, S_len]
  have e3 : (!a.isEmpty) = decide (0 < a.length) := by cases a <;> simp
  rw [e1, e2, e3]
  cases h : a.all fun c => decide (c < 128) with
  | true =>
    rw [Bool.true_and, all_dig a fun x hx => of_decide_eq_true (List.all_eq_true.mp h x hx)]
  | false =>
    rw [Bool.false_and]
    symm
    rw [Bool.and_eq_false_iff]
    right
    rw [List.all_eq_false] at h ⊢
    obtain ⟨c, hc, hn⟩ := h
    refine ⟨c, hc, fun z => hn ?_⟩
    unfold digB at z
    simp at z ⊢
    omega
end TkM

set_option Elab.async false
set_option linter.all false
set_option maxRecDepth 100000
set_option maxHeartbeats 4000000
/-! an entry, its text, its two readers -/
namespace TkM
open PySem PySem.StrLaws PySem.Builtin PySem.Builtin.Str SX Tk L2
open TL (spl par joinL numL tl)
abbrev Ent := List Nat × Nat × List Nat × Option (List Nat)
def optV : Option (List Nat) → PyData
  | none => .none
  | some v => .str (S v)
def entD (e : Ent) : PyData := .tuple [.str (S e.1), .tuple [.int e.2.1, .str (S e.2.2.1)], optV e.2.2.2]
def optD : Option Ent → PyData
  | none => .none
  | some e => entD e
def toldL : Option (List Nat) → List Nat
  | none => [45]
  | some v => 34 :: (esc v ++ [34])
def fmtL (e : Ent) : List Nat := e.1 ++ 32 :: ((numL e.2.1 ++ 46 :: e.2.2.1) ++ 32 :: toldL e.2.2.2)
def midL (t : List Nat) : List Nat := (t.drop 1).take (t.length - 2)
def valR (t : List Nat) : Option (Option (List Nat)) :=
  if t = [45] then some none else if t.length < 2 ∨ t.head? ≠ some 34 ∨ t.getLast? ≠ some 34 then none else (vr (midL t) []).map some
def entR (a b w : List Nat) (v : Option (List Nat)) : Option Ent :=
  if (a ≠ [] ∧ a.head? ≠ some 48 ∧ a.length ≤ 16 ∧ a.all digB = true) ∧ entryD (entD (w, NumText.digitsVal a, b, v)) = true then some (w, NumText.digitsVal a, b, v) else none
def readL (t : List Nat) : Option Ent :=
  match spl [32] 0 [] t with
  | w0 :: w1 :: w2 :: ws =>
    match spl [46] 0 [] w1, valR (joinL [32] (w2 :: ws)) with
    | [a, b], some v => entR a b w0 v
    | _, _ => none
  | _ => none
/-! what an entry is -/
structure IsE (e : Ent) : Prop where
  key : wordS (S e.1) = true
  lo : 1 ≤ e.2.1
  hi : e.2.1 ≤ 1000000000000000
  home : wordS (S e.2.2.1) = true
  val : ∀ v, e.2.2.2 = some v → valueS (S v) = true
theorem isE_iff {e : Ent} : entryD (entD e) = true ↔ IsE e := by
  obtain ⟨k, n, h, v⟩ := e
  have num : numD (.int (n : Int)) = true ↔ 1 ≤ n ∧ n ≤ 1000000000000000 := by
    unfold numD
    rw [Bool.and_eq_true, decide_eq_true_eq, decide_eq_true_eq]
    omega
  have val : (noneD (optV v) || valueD (optV v)) = true ↔ ∀ u, v = some u → valueS (S u) = true := by
    cases v with
    | none => exact ⟨fun _ _ z => (nomatch z), fun _ => rfl⟩
    | some u => exact ⟨fun z w e => by cases e; exact z, fun z => z u rfl⟩
  have e0 : entryD (entD (k, n, h, v)) = (wordS (S k) && ((numD (.int (n : Int)) && wordS (S h)) && (noneD (optV v) || valueD (optV v)))) := rfl
  rw [e0, Bool.and_eq_true, Bool.and_eq_true, Bool.and_eq_true, num, val]
  exact ⟨fun ⟨a, ⟨⟨b, c⟩, d⟩, e⟩ => ⟨a, b, c, d, e⟩, fun ⟨a, b, c, d, e⟩ => ⟨a, ⟨⟨b, c⟩, d⟩, e⟩⟩
theorem ent_of {d : PyData} (h : entryD d = true) : ∃ e : Ent, d = entD e := by
  unfold entryD at h
  split at h
  · rename_i k s v
    rw [Bool.and_eq_true, Bool.and_eq_true, Bool.or_eq_true] at h
    obtain ⟨hk, hs, hv⟩ := h
    have ek : ∃ x, k = .str (S x) := by
      unfold wordD at hk
      split at hk
      · rename_i x
        exact ⟨x.cps.toList, by rw [S_tl]⟩
      · cases hk
    have es : ∃ n x, s = .tuple [.int ((n : Nat) : Int), .str (S x)] := by
      unfold stampD at hs
      split at hs
      · rename_i a b
        rw [Bool.and_eq_true] at hs
        obtain ⟨h1, h2⟩ := hs
        unfold numD at h1
        split at h1
        · rename_i i
          rw [Bool.and_eq_true, decide_eq_true_eq, decide_eq_true_eq] at h1
          unfold wordD at h2
          split at h2
          · rename_i x
            refine ⟨i.toNat, x.cps.toList, ?_⟩
            rw [S_tl, Int.toNat_of_nonneg (by omega)]
          · cases h2
        · cases h1
      · cases hs
    have ev : ∃ o, v = optV o := by
      rcases hv with z | z
      · cases v <;> first | exact ⟨none, rfl⟩ | cases z
      · unfold valueD at z
        split at z
        · rename_i x
          exact ⟨some x.cps.toList, by show _ = PyData.str (S _); rw [S_tl]⟩
        · cases z
    obtain ⟨x, rfl⟩ := ek
    obtain ⟨n, y, rfl⟩ := es
    obtain ⟨o, rfl⟩ := ev
    exact ⟨(x, n, y, o), rfl⟩
  · cases h
theorem word_free {x : List Nat} (h : wordS (S x) = true) {c : Nat} (hc : c < 97) : c ∉ x := by
  intro m
  unfold wordS at h
  rw [Bool.and_eq_true] at h
  have := List.all_eq_true.mp h.2 c m
  unfold lowB at this
  rw [Bool.and_eq_true, decide_eq_true_eq] at this
  omega
theorem word_len {x : List Nat} (h : wordS (S x) = true) : 1 ≤ x.length ∧ x.length ≤ 8 := by
  unfold wordS at h
  rw [Bool.and_eq_true, Bool.and_eq_true, decide_eq_true_eq, decide_eq_true_eq, S_len] at h
  omega
theorem value_len {x : List Nat} (h : valueS (S x) = true) : x.length ≤ 40 := by
  unfold valueS at h
  rw [Bool.and_eq_true] at h
  have h1 := h.1
  rw [Bool.not_eq_true', decide_eq_false_iff_not, S_len] at h1
  omega
/-! joined again -/
theorem spl_ne (S0 : List Nat) : ∀ (t acc : List Nat), spl S0 0 acc t ≠ []
  | [], acc => by rw [TL.spl_nil]; simp
  | c :: r, acc => by
    cases h : TL.pre S0 (c :: r) with
    | true => rw [TL.spl_hit h]; simp
    | false => rw [TL.spl_miss h]; exact spl_ne S0 r _
theorem spl_joined (c : Nat) : ∀ (t acc : List Nat), joinL [c] (spl [c] 0 acc t) = acc ++ t
  | [], acc => by
    rw [TL.spl_nil, List.append_nil]
    rfl
  | d :: r, acc => by
    by_cases e : d = c
    · subst e
      rw [TL.spl_hit (by unfold TL.pre; simp)]
      have ih := spl_joined d r []
      cases h : spl [d] 0 [] r with
      | nil => exact absurd h (spl_ne _ _ _)
      | cons x y =>
        rw [h] at ih
        show joinL [d] (acc :: (spl [d] 0 [] r)) = _
        rw [h]
        show acc ++ ([d] ++ joinL [d] (x :: y)) = _
        rw [ih]
        rfl
    · rw [TL.spl_miss (by unfold TL.pre; simp [e]), spl_joined c r, List.append_assoc]
      rfl
theorem mid_back {t : List Nat} (h1 : ¬ t.length < 2) (h2 : t.head? = some 34) (h3 : t.getLast? = some 34) : t = 34 :: (midL t ++ [34]) := by
  cases t with
  | nil => simp at h1
  | cons c r =>
    have e : c = 34 := by simpa using h2
    subst e
    have hr : r ≠ [] := by rintro rfl; simp at h1
    have hl : r.getLast hr = 34 := by
      rw [List.getLast?_eq_some_getLast (by simp), List.getLast_cons hr] at h3
      exact Option.some.inj h3
    have em : midL (34 :: r) = r.dropLast := by
      unfold midL
      rw [List.dropLast_eq_take]
      rfl
    rw [em]
    have := List.dropLast_concat_getLast hr
    rw [hl] at this
    rw [this]
theorem mid_of (m : List Nat) : midL (34 :: (m ++ [34])) = m := by
  unfold midL
  have e : (34 :: (m ++ [34])).length - 2 = m.length := by simp
  rw [e]
  show (m ++ [34]).take m.length = m
  rw [List.take_left]
theorem valR_back {t : List Nat} {v : Option (List Nat)} (h : valR t = some v) : toldL v = t := by
  unfold valR at h
  by_cases e : t = [45]
  · rw [if_pos e] at h
    cases h
    exact e.symm
  · rw [if_neg e] at h
    by_cases e2 : t.length < 2 ∨ t.head? ≠ some 34 ∨ t.getLast? ≠ some 34
    · rw [if_pos e2] at h; cases h
    · rw [if_neg e2] at h
      rw [not_or, not_or] at e2
      obtain ⟨h1, h2, h3⟩ := e2
      cases hv : vr (midL t) [] with
      | none => rw [hv] at h; cases h
      | some w =>
        rw [hv] at h
        cases h
        obtain ⟨u, eu, hu⟩ := vr_back _ _ _ _ (Nat.le_refl _) hv
        rw [List.nil_append] at eu
        subst eu
        show 34 :: (esc w ++ [34]) = t
        rw [hu]
        exact (mid_back h1 (Classical.not_not.mp h2) (Classical.not_not.mp h3)).symm
theorem valR_told (v : Option (List Nat)) : valR (toldL v) = some v := by
  cases v with
  | none => rfl
  | some u =>
    unfold valR toldL
    rw [if_neg (by intro h; injection h with h1 _; omega), if_neg, mid_of, vr_esc, List.nil_append]
    · rfl
    · have e : (34 :: (esc u ++ [34])).getLast? = some 34 := by
        show ((34 :: esc u) ++ [34]).getLast? = _
        rw [List.getLast?_concat]
      rw [e]
      simp
theorem read_back {t : List Nat} {e : Ent} (h : readL t = some e) : IsE e ∧ fmtL e = t := by
  unfold readL at h
  split at h
  · rename_i w0 w1 w2 ws e1
    split at h
    · rename_i a b v e2 e3
      unfold entR at h
      by_cases c : (a ≠ [] ∧ a.head? ≠ some 48 ∧ a.length ≤ 16 ∧ a.all digB = true) ∧ entryD (entD (w0, NumText.digitsVal a, b, v)) = true
      · rw [if_pos c] at h
        cases h
        obtain ⟨⟨c1, c2, c3, c4⟩, c5⟩ := c
        refine ⟨isE_iff.mp c5, ?_⟩
        have ad : NumText.AllDigits a := fun x hx => by
          have := List.all_eq_true.mp c4 x hx
          unfold digB at this
          rw [Bool.and_eq_true, decide_eq_true_eq, decide_eq_true_eq] at this
          exact this
        have na : numL (NumText.digitsVal a) = a := num_back ad (by
          cases a with
          | nil => exact absurd rfl c1
          | cons x y => exact ⟨x, y, rfl, fun z => c2 (by rw [z]; rfl)⟩)
        have j1 := spl_joined 32 t []
        rw [e1] at j1
        have j2 := spl_joined 46 w1 []
        rw [e2] at j2
        show w0 ++ 32 :: ((numL (NumText.digitsVal a) ++ 46 :: b) ++ 32 :: toldL v) = t
        rw [na, valR_back e3]
        have j2' : a ++ 46 :: b = w1 := j2
        rw [j2']
        exact j1
      · rw [if_neg c] at h; cases h
    · cases h
  · cases h
theorem num_len {n : Nat} (h : n ≤ 1000000000000000) : (numL n).length ≤ 16 := TL.numL_len (by decide) (by omega)
theorem read_fmt {e : Ent} (h : IsE e) : readL (fmtL e) = some e := by
  obtain ⟨k, n, m, v⟩ := e
  have k1 : 32 ∉ k := word_free h.key (by decide)
  have m1 : 32 ∉ m := word_free h.home (by decide)
  have m2 : 46 ∉ m := word_free h.home (by decide)
  have lo : 1 ≤ n := h.lo
  have hi : n ≤ 1000000000000000 := h.hi
  have n1 : 32 ∉ numL n := TL.numL_free (by decide)
  have n2 : 46 ∉ numL n := TL.numL_free (by decide)
  have s1 : 32 ∉ numL n ++ 46 :: m := by
    intro z
    rcases List.mem_append.mp z with z | z
    · exact n1 z
    · rcases List.mem_cons.mp z with z | z
      · cases z
      · exact m1 z
  have e1 : spl [32] 0 [] (fmtL (k, n, m, v)) = k :: (numL n ++ 46 :: m) :: spl [32] 0 [] (toldL v) := by
    show spl [32] 0 [] (k ++ ([32] ++ ((numL n ++ 46 :: m) ++ ([32] ++ toldL v)))) = _
    rw [TL.spl_part1 k1, TL.spl_part1 s1]
    rfl
  have e2 : spl [46] 0 [] (numL n ++ 46 :: m) = [numL n, m] := by
    show spl [46] 0 [] (numL n ++ ([46] ++ m)) = _
    rw [TL.spl_part1 n2, TL.spl_last1 m2]
    rfl
  have e3 := spl_joined 32 (toldL v) []
  rw [List.nil_append] at e3
  have ne := spl_ne [32] (toldL v) []
  unfold readL
  rw [e1]
  cases h0 : spl [32] 0 [] (toldL v) with
  | nil => exact absurd h0 ne
  | cons x y =>
    rw [h0] at e3
    show (match spl [46] 0 [] (numL n ++ 46 :: m), valR (joinL [32] (x :: y)) with
      | [a, b], some v => entR a b k v
      | _, _ => none) = _
    rw [e2, e3, valR_told]
    show entR (numL n) m k v = _
    unfold entR
    rw [TL.numL_val, if_pos]
    refine ⟨⟨TL.numL_ne n, ?_, num_len hi, ?_⟩, isE_iff.mpr h⟩
    · obtain ⟨c, r, e, q⟩ := numL_head lo
      rw [e]
      intro z
      exact q (by simpa using z)
    · refine List.all_eq_true.mpr fun c hc => ?_
      have := TL.numL_digits n c hc
      unfold digB
      rw [Bool.and_eq_true, decide_eq_true_eq, decide_eq_true_eq]
      exact this
theorem read_iff {t : List Nat} {e : Ent} : readL t = some e ↔ IsE e ∧ fmtL e = t := ⟨read_back, fun ⟨a, b⟩ => b ▸ read_fmt a⟩
/-! ### the quick reader -/
def likN (a : Str) : PyData := if decide ((16 : Int) < (a.length : Int)) || !(Txt.isascii a && Txt.isdigit a) then .none else .int (NumText.digitsVal a.cps.toList)
def unq (x : Str) : Str := Txt.replace (Txt.replace (cutS x (some 1) (some (-1))) (S [92, 34]) (S [34])) (S [92, 92]) (S [92])
def likT (k st told : Str) : PyData := .tuple [.str k, .tuple [likN (Txt.partition st (S [46])).1, .str (Txt.partition st (S [46])).2.2], if (told == S [45]) = true then .none else .str (unq told)]
def likE (x : Str) : PyData :=
  match Txt.splitMax x (S [32]) 2 with
  | [k, st, told] => likT k st told
  | _ => .none
theorem unq_told (u : List Nat) : unq (S (34 :: (esc u ++ [34]))) = S u := by
  have c : cutS (S (34 :: (esc u ++ [34]))) (some 1) (some (-1)) = S (esc u) := by
    refine TL.ext_tl ?_
    have l : (S (34 :: (esc u ++ [34]))).length = (esc u).length + 2 := by rw [S_len]; simp
    have i1 : HT.sIx (S (34 :: (esc u ++ [34]))).length 0 (some 1) = 1 := by rw [l]; unfold HT.sIx; simp
    have i2 : HT.sIx (S (34 :: (esc u ++ [34]))).length (S (34 :: (esc u ++ [34]))).length (some (-1)) = (esc u).length + 1 := by rw [l]; unfold HT.sIx; simp; omega
    unfold cutS
    rw [i1, i2]
    show (((34 :: (esc u ++ [34])).drop 1).take ((esc u).length + 1 - 1)) = esc u
    rw [Nat.add_sub_cancel]
    show (esc u ++ [34]).take (esc u).length = _
    rw [List.take_left]
  unfold unq
  rw [c]
  refine TL.ext_tl ?_
  show (Txt.replace (Txt.replace (S (esc u)) (S [92, 34]) (S [34])) (S [92, 92]) (S [92])).cps.toList = u
  rw [replace_list (by decide), replace_list (by decide)]
  exact esc_back u
theorem lik_fmt {e : Ent} (h : IsE e) : likE (S (fmtL e)) = entD e := by
  obtain ⟨k, n, m, v⟩ := e
  have k1 : 32 ∉ k := word_free h.key (by decide)
  have m1 : 32 ∉ m := word_free h.home (by decide)
  have n1 : 32 ∉ numL n := TL.numL_free (by decide)
  have n2 : 46 ∉ numL n := TL.numL_free (by decide)
  have hi : n ≤ 1000000000000000 := h.hi
  have s1 : 32 ∉ numL n ++ 46 :: m := by
    intro z
    rcases List.mem_append.mp z with z | z
    · exact n1 z
    · rcases List.mem_cons.mp z with z | z
      · cases z
      · exact m1 z
  unfold likE
  have e1 : Txt.splitMax (S (fmtL (k, n, m, v))) (S [32]) 2 = [S k, S (numL n ++ 46 :: m), S (toldL v)] := split2 (by decide) k1 s1
  rw [e1]
  show likT (S k) (S (numL n ++ 46 :: m)) (S (toldL v)) = _
  unfold likT
  have e2 : Txt.partition (S (numL n ++ 46 :: m)) (S [46]) = (S (numL n), S [46], S m) := partition_some (by simp) (TL.par_part1 (S := []) (acc := []) n2)
  have e3 : likN (S (numL n)) = .int n := by
    unfold likN
    have al : (numL n).all digB = true := List.all_eq_true.mpr fun c hc => by
      have := TL.numL_digits n c hc
      unfold digB
      rw [Bool.and_eq_true, decide_eq_true_eq, decide_eq_true_eq]
      exact this
    have ne : (numL n).isEmpty = false := by
      cases z : numL n with
      | nil => exact absurd z (TL.numL_ne n)
      | cons _ _ => rfl
    have hl := num_len hi
    rw [digits_told, al, ne, if_neg]
    · show PyData.int (NumText.digitsVal (numL n)) = _
      rw [TL.numL_val]
    · rw [S_len]
      simp
      omega
  rw [e2, e3]
  have e4 : (if (S (toldL v) == S [45]) = true then PyData.none else PyData.str (unq (S (toldL v)))) = optV v := by
    cases v with
    | none => rfl
    | some u =>
      rw [if_neg]
      · show PyData.str (unq (S (34 :: (esc u ++ [34])))) = _
        rw [unq_told]
        rfl
      · rw [S_beq]
        intro z
        have := eq_of_beq z
        injection this with q _
        cases q
  rw [e4]
  rfl
/-- what the program's reader tells is what the careful one tells -/
theorem parse_none {t : List Nat} (h : readL t = none) : ¬ ∃ e : Ent, IsE e ∧ fmtL e = t := fun ⟨e, a, b⟩ => by
  rw [read_iff.mpr ⟨a, b⟩] at h
  cases h
end TkM

set_option Elab.async false
set_option linter.all false
set_option maxRecDepth 100000
set_option maxHeartbeats 4000000
/-! texts: written texts out (replace), f-strings, split, partition; calls that may raise, in a try -/
namespace Tk
open PySem PySem.Spec PyProof.Rows L2 CwR
section
variable {X : Cx} {te : TE} {e : Expr} {pos : Pos}
/-- name = value, a token out -/
theorem pst_set {i : Nat} {x : Str} {pos' : Pos} (hN : X.N.Nodup) (hi : X.N[i]? = some x) (hx : Loc X.env.scope x) (he : PET X e te) (hs : swapsWith e (some (.Name x pos')) pos.line X.env = pure false := by rfl)
    (hf : X.fn x = true ∨ X.env.scope.names.lookup x = some .local := by first | exact .inl rfl | exact .inr rfl | assumption) : PST X (.Assign [.Name x pos'] e pos) (tAsg te (gName i)) := by
  intro pn s σ H D h0 I h
  refine wpAny_Assign_Name (thn (he pn s σ H _ h0 I h) fun v s1 hv => ?_) hs
  obtain ⟨y, H1, I1, r1, q1⟩ := hv
  exact store_ok I1 hN hi hx r1 (fun s2 I2 => ⟨_, H1, I2, q1⟩) hf
end
/-- a def with parameters, none of them in a cell: when it begins a token is out -/
theorem Fun_okT {P : Program} {w : World} {K : PySem.W.Frag} {mg : Str → Option Value} {base : Heap} {k : Nat} {x qual : Str} {st : Stmt} {f : Addr} {fd : FuncData} {N ps : List Str} {sp : Sp} (F : Fun K x qual st f fd) (S : FnScope N ps (defScope st)) (hnc : ∀ y ∈ (defScope st).names, y.2 ≠ .cell) (hps : 1 ≤ ps.length)
    (len : ∀ vs H Q E, sp vs H Q E → vs.length = ps.length)
    (go : ∀ (cdv : Value) (A : Around) (outer : List Env) (s : Shared) (H : Hp) (vs : List V) (Q : VK) (E : XK), Room k (A.deeper (envOfC qual (defScope st) s.heap.objs.size f cdv)) → sp vs H Q E →
      ∃ t, PSsT (cxOf CX0 P w K mg base N qual (defScope st) f cdv A outer s H E) (defBody st) t ∧ t { nx := fun _ H' => Q .non H', rt := Q } (start N vs) H) : FnOk P w K mg base CX0 (k + 1) f fd ps sp := by
  obtain ⟨_, _, _, _, _, _, cdv, _, _, rfl, at_f, cd⟩ := F.ex
  exact fn_ofT at_f cd S hnc hps len fun A outer s H vs Q E hr h => go cdv A outer s H vs Q E hr h
/-! ### calls that may raise -/
section
variable {X : Cx} {k : Nat} {sp : Sp} {x : Str} {ps : List Str} {p pos : Pos} {e : Expr} {es : List Expr} {t : TA} {W : WX}
theorem pe_calS {CX : CXT} {E : L2.St → XK} (C : Cal X.prog X.w X.K X.mg X.base CX k x ps sp) (hr : Room k X.A) (hx : ∀ σ, PassesAt CX X σ (E σ)) (ha : PA X (e :: es) t) (hg : Gl X x := by rfl)
    (hdb : (x == ("__debug__" : Str)) = false := by decide) (he : starEach (e :: es) X.env = (false, eval e X.env) :: starEach es X.env := by rfl) (hpl : (backTo pos (starEach es X.env)).any (·.1) = false := by rfl) :
    PE X (.Call (.Name x p) (e :: es) [] pos) (tCallS sp E t) := by
  obtain ⟨f, fd, m1, m2, m3, F⟩ := C.ex
  exact pe_callS F hr hg m1 m2 m3 hx ha hdb he hpl
/-- a raising def called in a def that lets it out -/
theorem passOut (tk : Takes X fun cls d _ H => E cls d H) : Passes (L2.CX X.prog X.w) X E := fun pn σ H s e s' I c => passes_call tk (fun _ _ _ _ h => h) pn σ H s e s' I c
end
theorem r_callS {sp : Sp} {E : L2.St → XK} {t : TA} {σ : L2.St} {H : Hp} {Q : VK} (h : t σ H fun vs H1 => sp vs H1 Q (E σ)) : tCallS sp E t σ H Q := h
/-! ### methods of texts -/
def rSplit1 : V → List V → Hp → VK → Prop := fun x xs H Q => ∃ a b, x = .str a ∧ xs = [.str b] ∧ (b.length == 0) = false ∧ a.length + 2 ≤ sizeLine ∧ rNewStrs (Txt.split a b) H Q
def rSplit2 : V → List V → Hp → VK → Prop := fun x xs H Q => ∃ (a b : Str) (k : Int), x = .str a ∧ xs = [.str b, .int k] ∧ (b.length == 0) = false ∧ -(2 ^ 63) ≤ k ∧ k < 2 ^ 63 ∧ a.length + 2 ≤ sizeLine ∧ rNewStrs (Txt.splitMax a b k) H Q
def rPart3 : V → List V → Hp → VK → Prop := fun x xs H Q => ∃ a b, x = .str a ∧ xs = [.str b] ∧ (b.length == 0) = false ∧ a.length ≤ sizeLine ∧
  ∀ p, H p = none → Q (.ref p) (upd H p (.tup [.str (Txt.partition a b).1, .str (Txt.partition a b).2.1, .str (Txt.partition a b).2.2]))
def rTold (g : Str → Bool) : V → List V → Hp → VK → Prop := fun x xs H Q => ∃ a, x = .str a ∧ xs = [] ∧ True ∧ Q (.bl (g a)) H
section
variable {X : Cx}
theorem k_split1 : MtR X "str.split" rSplit1 := mt_split
theorem k_split2 : MtR X "str.split" rSplit2 := mt_splitMax
theorem k_part3 : MtR X "str.partition" rPart3 := mt_partition
theorem k_ascii : MtR X "str.isascii" (rTold Txt.isascii) := mt_isascii
theorem k_digit : MtR X "str.isdigit" (rTold Txt.isdigit) := mt_isdigit
end
section
variable {K : PySem.W.Frag} {σ : L2.St} {H : Hp} {Q : VK} {a b : Str} {r : V → List V → Hp → VK → Prop} {to te : TE} {t : TA}
theorem r_m0 (h : to σ H fun x H1 => (∃ a, x = .str a) ∧ r x [] H1 Q) : tM0 r to σ H Q := h
theorem r_bm {T : String} (h : to σ H fun x H1 => tyV K T x H1 ∧ t σ H1 fun xs H2 => r x xs H2 Q) : tBM K T r to t σ H Q := h
theorem new_strs {ys : List Str} (q : ∀ p H', H p = none → Same H H' → H' p = some (.lst (ys.map V.str)) → Q (.ref p) H') : rNewStrs ys H Q := fun p hp => q p _ hp (Same.new hp) upd_same
theorem r_split1 (hb : (b.length == 0) = false) (ha : a.length ≤ 90000) (q : ∀ p H', H p = none → Same H H' → H' p = some (.lst ((Txt.split a b).map V.str)) → Q (.ref p) H') : rSplit1 (.str a) [.str b] H Q := ⟨a, b, rfl, rfl, hb, sz_of (n := a.length + 2) (by omega), new_strs q⟩
theorem r_split2 {k : Int} (hb : (b.length == 0) = false) (h0 : 0 ≤ k) (h1 : k < 100) (ha : a.length ≤ 90000) (q : ∀ p H', H p = none → Same H H' → H' p = some (.lst ((Txt.splitMax a b k).map V.str)) → Q (.ref p) H') : rSplit2 (.str a) [.str b, .int k] H Q :=
  ⟨a, b, k, rfl, rfl, hb, by omega, by omega, sz_of (n := a.length + 2) (by omega), new_strs q⟩
theorem r_part3 (hb : (b.length == 0) = false) (ha : a.length ≤ 100000) (q : ∀ p H', H p = none → Same H H' → H' p = some (.tup [.str (Txt.partition a b).1, .str (Txt.partition a b).2.1, .str (Txt.partition a b).2.2]) → Q (.ref p) H') : rPart3 (.str a) [.str b] H Q :=
  ⟨a, b, rfl, rfl, hb, sz_of ha, fun p hp => q p _ hp (Same.new hp) upd_same⟩
theorem r_told {g : Str → Bool} (q : Q (.bl (g a)) H) : rTold g (.str a) [] H Q := ⟨a, rfl, rfl, trivial, q⟩
theorem r_isS {B : Prop} (q : B) : (∃ u, V.str a = .str u) ∧ B := ⟨⟨a, rfl⟩, q⟩
theorem r_gLst {n : Nat} {t : TGs} {p : Addr} {xs : List V} {R : L2.St → Hp → Prop} (h : H p = some (.lst xs)) (hl : xs.length = n) (q : t xs σ H R) : gLst K n t (.ref p) σ H R := ⟨p, xs, rfl, SqL.of h, hl, q⟩
theorem k_glst {X : Cx} {es : List Expr} {k : Nat} {pos : Pos} {t : TGs} {n : Nat} (hc : X.calm = true) (h : PGs X es t) (e : X.K = K := by rfl) (hn : (assignEach es X.env).length = n := by rfl) (hst : (assignEach es X.env).findIdx? (·.1) = none := by rfl) : PG X (.Tuple es k pos) (gLst K n t) := by subst e; exact pg_lst hc h hn hst
theorem r_lenL {p : Addr} {xs : List V} (h : H p = some (.lst xs)) (q : Q (.int (xs.length : Nat)) H) : rLen K [.ref p] H Q := r_lenQ (SqL.of h) q
/-! f-strings -/
theorem r_fmtS (h : te σ H fun x H1 => ∃ y : Str, x = .str y ∧ y.length ≤ 100000 ∧ Q (.str y) H1) (mono : ∀ R R' : VK, (∀ v H', R v H' → R' v H') → te σ H R → te σ H R') : tFmt te σ H Q :=
  mono _ _ (fun v H' ⟨y, e, hl, q⟩ => .inl ⟨y, e, sz_of hl, q⟩) h
theorem r_fmtVar {i : Nat} {x : Str} (hv : σ[i]? = some (some (.str x))) (hl : x.length ≤ 100000) (q : Q (.str x) H) : tFmt (tVar i) σ H Q := ⟨_, hv, .inl ⟨x, rfl, sz_of hl, q⟩⟩
theorem r_fmtInt {i : Nat} {n : Int} (hv : σ[i]? = some (some (.int n))) (hl : n.natAbs.log2 < 1920) (q : Q (.str (toString n)) H) : tFmt (tVar i) σ H Q := ⟨_, hv, .inr ⟨n, rfl, hl, q⟩⟩
theorem r_js {ts : List TE} {acc : Str} {t : TE} {R : Str → Hp → Prop} (h : t σ H fun x H1 => ∃ y : Str, x = .str y ∧ (acc ++ y).length ≤ sizeLine ∧ tJs ts (acc ++ y) σ H1 R) : tJs (t :: ts) acc σ H R := h
theorem r_jsNil {acc : Str} {R : Str → Hp → Prop} (h : R acc H) : tJs [] acc σ H R := h
theorem r_jsIs {acc y : Str} {P : Str → Prop} (hl : (acc ++ y).length ≤ 100000) (q : P y) : ∃ z : Str, V.str y = .str z ∧ (acc ++ z).length ≤ sizeLine ∧ P z := ⟨y, rfl, sz_of hl, q⟩
/-! replace -/
theorem r_repl {y z : Str} (h : to σ H fun v H1 => ∃ x, v = .str x ∧ x.length + (x.length + 1) * z.length ≤ 16777216 ∧ Q (.str (Txt.replace x y z)) H1) : tReplC to y z σ H Q := h
theorem r_replIs {x y z : Str} (hl : x.length + (x.length + 1) * z.length ≤ 16777216) (q : Q (.str (Txt.replace x y z)) H) : ∃ u, V.str x = .str u ∧ u.length + (u.length + 1) * z.length ≤ 16777216 ∧ Q (.str (Txt.replace u y z)) H := ⟨x, rfl, hl, q⟩
theorem r_replU {B : Prop} {x z : Str} (hx : x.length ≤ 100000) (hz : z.length ≤ 100) (q : B) : x.length + (x.length + 1) * z.length ≤ 16777216 ∧ B :=
  ⟨by have := Nat.mul_le_mul (show x.length + 1 ≤ 100001 by omega) hz; omega, q⟩
theorem cat_len (x y : Str) : (x ++ y).length = x.length + y.length := by rw [TL.len_tl, TL.tl_append, List.length_append, ← TL.len_tl, ← TL.len_tl]
theorem r_fits {B : Prop} {x : Str} (hx : x.length ≤ 100000) (q : B) : x.length ≤ sizeLine ∧ B := ⟨sz_of hx, q⟩
theorem repl_le {x y z : Str} {n : Nat} (hx : x.length ≤ n) {m : Nat} (hz : z.length ≤ m) : (Txt.replace x y z).length ≤ n + (n + 1) * m := by
  have h1 := TK.replace_len x y z
  have h2 := Nat.mul_le_mul (show x.length + 1 ≤ n + 1 by omega) hz
  omega
end
/-! parts are no longer than the whole -/
theorem sub_le (x : Str) (i j : Nat) : (Builtin.Str.strSub x i j).length ≤ x.length := by
  rw [TL.len_tl, TL.tl_strSub, TL.len_tl x, List.length_take, List.length_drop]
  omega
theorem from_le (x : Str) (n : Nat) : ∀ (cs : List Nat) (a : Nat), ∀ p ∈ StrLaws.partsFrom x n a cs, p.length ≤ x.length
  | [], a, p, h => by
    rw [List.mem_singleton.mp h]
    exact sub_le _ _ _
  | c :: cs, a, p, h => by
    rcases List.mem_cons.mp h with rfl | h
    · exact sub_le _ _ _
    · exact from_le x n cs _ p h
theorem splitMax_le (x y : Str) (k : Int) : ∀ p ∈ Txt.splitMax x y k, p.length ≤ x.length := by
  intro p h
  unfold Txt.splitMax at h
  split at h
  · rw [List.mem_singleton.mp h]; exact Nat.le_refl _
  · split at h
    · rw [List.mem_singleton.mp h]; exact Nat.le_refl _
    · rw [StrLaws.partsBetween_eq] at h
      exact from_le _ _ _ _ p h
theorem split_le (x y : Str) : ∀ p ∈ Txt.split x y, p.length ≤ x.length := by
  intro p h
  unfold Txt.split at h
  split at h
  · rw [List.mem_singleton.mp h]; exact Nat.le_refl _
  · split at h
    · rw [List.mem_singleton.mp h]; exact Nat.le_refl _
    · rw [StrLaws.partsBetween_eq] at h
      exact from_le _ _ _ _ p h
theorem part3_le (x y : Str) : (Txt.partition x y).1.length ≤ x.length ∧ (Txt.partition x y).2.2.length ≤ x.length := by
  have h := congrArg Str.length (StrLaws.partition_sum x y)
  rw [cat_len, cat_len] at h
  omega
end Tk

set_option Elab.async false
set_option linter.all false
set_option maxRecDepth 100000
set_option maxHeartbeats 4000000
/-! == of data without dicts, membership among written texts, int of a bool, text at a place, while -/
namespace Tk
open PySem PySem.Spec PyProof.Rows L2 SX
def rEqP (K : PySem.W.Frag) : R2 := fun x y H Q => ∃ d e, Dd K H x d ∧ Dd K H y e ∧ d.plain = true ∧ e.plain = true ∧ d.depth ≤ 60 ∧ Q (.bl (PyData.eqv d e)) H
def rNeP (K : PySem.W.Frag) : R2 := fun x y H Q => ∃ d e, Dd K H x d ∧ Dd K H y e ∧ d.plain = true ∧ e.plain = true ∧ d.depth ≤ 60 ∧ Q (.bl (!PyData.eqv d e)) H
section
variable {X : Cx} {K : PySem.W.Frag}
theorem k_eqP (hu : X.A.units + 64 < cLine) (e : X.K = K := by rfl) : OpR X (compareOp .Eq) (rEqP K) := by
  subst e
  intro pn s σ H x y v u Q I rx ry h
  obtain ⟨d, e, hd, he, pd, pe, dp, q⟩ := h
  obtain ⟨as, r1⟩ := Dd.reads I d x v hd rx
  obtain ⟨bs, r2⟩ := Dd.reads I e y u he ry
  exact PySem.SeqAt.eq_plain r1 r2 pd pe (by have := Nat.min_le_left d.depth e.depth; omega) ⟨.bl _, H, I, rfl, q⟩
theorem k_neP (hu : X.A.units + 64 < cLine) (e : X.K = K := by rfl) : OpR X (compareOp .NotEq) (rNeP K) := by
  subst e
  intro pn s σ H x y v u Q I rx ry h
  obtain ⟨d, e, hd, he, pd, pe, dp, q⟩ := h
  obtain ⟨as, r1⟩ := Dd.reads I d x v hd rx
  obtain ⟨bs, r2⟩ := Dd.reads I e y u he ry
  exact PySem.SeqAt.ne_plain r1 r2 pd pe (by have := Nat.min_le_left d.depth e.depth; omega) ⟨.bl _, H, I, rfl, q⟩
theorem k_in (e : X.K = K := by rfl) : OpR X (compareOp .In) (rIn K false) := by subst e; exact op_in_seq
theorem k_notin (e : X.K = K := by rfl) : OpR X (compareOp .NotIn) (rIn K true) := by subst e; exact op_notIn_seq
end
section
variable {K : PySem.W.Frag} {H : Hp} {Q : VK} {v w : V} {d : PyData}
theorem r_neSame (h1 : Dd K H v d) (h2 : Dd K H w d) (pl : d.plain = true) (dp : d.depth ≤ 60) (q : Q (.bl false) H) : rNeP K v w H Q := ⟨d, d, h1, h2, pl, pl, dp, by rw [PySem.SeqAt.eqv_refl_plain d pl]; exact q⟩
theorem r_inL {p : Addr} {xs : List V} {x : V} (h : H p = some (.lst xs)) (fx : flatV x = true) (fs : xs.all flatV = true) (q : Q (.bl (inV x xs)) H) : rIn K false x (.ref p) H Q := ⟨p, xs, rfl, .inl (SqL.of h), fx, fs, q⟩
theorem r_notinL {p : Addr} {xs : List V} {x : V} (h : H p = some (.lst xs)) (fx : flatV x = true) (fs : xs.all flatV = true) (q : Q (.bl (!inV x xs)) H) : rIn K true x (.ref p) H Q := ⟨p, xs, rfl, .inl (SqL.of h), fx, fs, q⟩
theorem in_two (c a b : Nat) : inV (signV c) [.str (S [a]), .str (S [b])] = decide (c = a ∨ c = b) := by
  have e : ∀ x y : Nat, (S [x] == S [y]) = decide (x = y) := fun x y => by
    rw [S_beq_eq]
    by_cases h : x = y
    · subst h; simp
    · simp [h]
  show ((S [a] == S [c]) || ((S [b] == S [c]) || false)) = _
  rw [e, e, Bool.or_false]
  by_cases h1 : c = a
  · subst h1; simp
  · by_cases h2 : c = b
    · subst h2; simp
    · simp [h1, h2, Ne.symm h1, Ne.symm h2, eq_comm]
theorem in_two_none (a b : Nat) : inV (.str (S [])) [.str (S [a]), .str (S [b])] = false := by
  show ((S [a] == S []) || ((S [b] == S []) || false)) = _
  rw [S_beq, S_beq]
  rfl
def rInt1 : List V → Hp → VK → Prop := fun xs H Q => (∃ i, xs = [.int i] ∧ Q (.int i) H) ∨ ∃ k, xs = [.bl k] ∧ Q (.int (if k then 1 else 0)) H
theorem k_int1 {X : Cx} : CallR X (.type "int") rInt1 := call_int1
theorem r_int1 {k : Bool} (q : Q (.int (if k then 1 else 0)) H) : rInt1 [.bl k] H Q := .inr ⟨k, rfl, q⟩
def rStr1 : List V → Hp → VK → Prop := fun xs H Q => ∃ i, xs = [.int i] ∧ i.natAbs.log2 < 1920 ∧ Q (.str (toString i)) H
theorem k_str1 {X : Cx} : CallR X (.type "str") rStr1 := call_str_int
theorem r_str1 {i : Int} (hi : i.natAbs.log2 < 1920) (q : Q (.str (toString i)) H) : rStr1 [.int i] H Q := ⟨i, rfl, hi, q⟩
/-! a text at a place -/
theorem r_ixS {x : Str} {i : Int} {c : Nat} (hx : x.length ≤ 100000) (e : atI x.cps.toList i = some c) (q : Q (signV c) H) : rIx K (.str x) (.int i) H Q := .inr (.inr ⟨x, i, c, rfl, rfl, sz_of hx, e, q⟩)
theorem r_par {i j : Nat} {ta : TA} {D : Ends} {σ : L2.St} (h : ta σ H fun vs H1 => ∃ v w, vs = [v, w] ∧ D.nx ((σ.set i (some v)).set j (some w)) H1) : tPar i j ta D σ H := h
theorem r_pair {P : V → V → Prop} (q : P v w) : ∃ v' w', [v, w] = [v', w'] ∧ P v' w' := ⟨v, w, rfl, q⟩
theorem sg {c d : Nat} : ((⟨#[c]⟩ : Str) = (⟨#[d]⟩ : Str)) ↔ c = d := by
  constructor
  · intro h
    have : ([c] : List Nat) = [d] := congrArg (fun x : Str => x.cps.toList) h
    exact (List.cons.inj this).1
  · intro h
    rw [h]
end
section
variable {K : PySem.W.Frag} {H : Hp} {Q : VK}
def rSgn : R2 := fun x y H Q => ∃ (c : Nat) (z : Str), x = .str ⟨#[c]⟩ ∧ y = .str z ∧ Q (.bl (!decide (c ∈ z.cps.toList))) H
theorem k_notSign {X : Cx} : OpR X (compareOp .NotIn) rSgn := op_notIn_sign
theorem r_notSign {c : Nat} {z : Str} (q : Q (.bl (!decide (c ∈ z.cps.toList))) H) : rSgn (signV c) (.str z) H Q := ⟨c, z, rfl, rfl, q⟩
theorem g_slL {a : Addr} {xs : List V} {lo hi : Option Int} (h : H a = some (.lst xs)) (q : ∀ p H2, H p = none → Same H H2 → H2 p = some (.lst (cutV xs lo hi)) → Q (.ref p) H2) : GSlice K (.ref a) lo hi H Q := .inl ⟨a, xs, rfl, SqL.of h, fun p hp => q p _ (by exact hp) (Same.new hp) upd_same⟩
end
theorem cutV2 (a b : V) (xs : List V) : cutV (a :: b :: xs) (some 2) none = xs := by
  unfold cutV
  have i1 : HT.sIx (a :: b :: xs).length 0 (some 2) = 2 := by
    unfold HT.sIx
    simp
  rw [i1, HT.sIx_none]
  show xs.take ((a :: b :: xs).length - 2) = xs
  rw [List.take_of_length_le (by simp)]
theorem signs_data {K : PySem.W.Frag} {H : Hp} {p : Addr} : ∀ {cs : List Nat}, H p = some (.lst (cs.map signV)) → Dd K H (.ref p) (.list (cs.map fun c => .str (S [c]))) := fun {cs} h => .lst h (by
  clear h
  induction cs with
  | nil => exact .nil
  | cons c cs ih => exact .cons (.str _) ih)
theorem signs_plain (cs : List Nat) : (PyData.list (cs.map fun c => .str (S [c]))).plain = true := by
  show PyData.plainAll _ = true
  induction cs with
  | nil => rfl
  | cons c cs ih =>
    rw [List.map_cons, PyData.plainAll, ih]
    rfl
theorem signs_deep (cs : List Nat) : (PyData.list (cs.map fun c => .str (S [c]))).depth ≤ 60 := by
  have : PyData.depthAll (cs.map fun c => PyData.str (S [c])) = 0 := by
    induction cs with
    | nil => rfl
    | cons c cs ih =>
      rw [List.map_cons, PyData.depthAll, ih]
      rfl
  rw [PyData.depth, this]
  decide
theorem signs_eqv (cs : List Nat) : PyData.eqv (.list (cs.map fun c => .str (S [c]))) (.list []) = cs.isEmpty := by
  cases cs <;> rfl
/-! isinstance of what was caught, its class and dict by their letters -/
def rIsE2 (K : PySem.W.Frag) (cls : Value) (d : Option Addr) (a : Addr) : List V → Hp → VK → Prop := fun xs H Q => ∃ D dd, cls = .ref D ∧ d = some dd ∧ rIsE1 K D a dd xs H Q
theorem call_isE2 {X : Cx} {K : PySem.W.Frag} {a : Addr} {cls : Value} {d : Option Addr} {oe : Obj} {pn : List (Addr × Obj)} (hz : Zc cls d oe) (hf : ∃ vs, oe.data = .fields vs) (eK : X.K = K := by rfl) : CallR (X.suite a ((a, oe) :: pn)) (.builtin "isinstance") (rIsE2 K cls d a) := by
  intro pins s σ H xs us Q I r h
  obtain ⟨D, dd, rfl, rfl, h⟩ := h
  exact call_isE1 hz hf eK pins s σ H xs us Q I r h
theorem r_isE2 {K : PySem.W.Frag} {a D dd : Addr} {c : V} {cv : Value} {fs : List (Str × V)} {H : Hp} {Q : VK} (hd : H dd = some (.xd fs)) (hc : ∀ u, RelV c u → u = cv) (ht : PySem.W.typeIn K cv = some (.type "type") ∨ typeOf cv = pure (.type "type")) (hk : (∃ n, cv = .type n) ∨ ∃ C, cv = .ref C ∧ PySem.W.hasDictIn K C = true)
    (hs : PySem.W.subIn K (.ref D) cv = some true) (q : Q (.bl true) H) : rIsE2 K (.ref D) (some dd) a [.ref a, c] H Q := ⟨D, dd, rfl, rfl, c, cv, fs, rfl, hd, hc, ht, hk, hs, q⟩
theorem r_xf {K : PySem.W.Frag} {a C dd : Addr} {v : V} {te : TE} {σ : L2.St} {H : Hp} {Q : VK} (h : te σ H fun x H1 => x = .ref a ∧ H1 dd = some (.xd (valF v)) ∧ Q v H1) (mono : ∀ R R' : VK, (∀ v H', R v H' → R' v H') → te σ H R → te σ H R') : tXf a (.ref C) (some dd) C "value" te σ H Q :=
  mono _ _ (fun x H' ⟨e, h1, q⟩ => ⟨e, rfl, dd, _, v, rfl, h1, rfl, q⟩) h
theorem r_xfVar {a C dd : Addr} {v : V} {i : Nat} {σ : L2.St} {H : Hp} {Q : VK} (hv : σ[i]? = some (some (.ref a))) (hd : H dd = some (.xd (valF v))) (q : Q v H) : tXf a (.ref C) (some dd) C "value" (tVar i) σ H Q := ⟨_, hv, rfl, rfl, dd, _, v, rfl, hd, rfl, q⟩
/-! cuts of a text by its list -/
theorem cut1 (c : Nat) (r : List Nat) : cutS (S (c :: r)) (some 1) none = S r := by
  refine TL.ext_tl ?_
  have l : (S (c :: r)).length = r.length + 1 := by rw [S_len]; rfl
  have i1 : HT.sIx (S (c :: r)).length 0 (some 1) = 1 := by
    rw [l]
    unfold HT.sIx
    simp
  have i2 : HT.sIx (S (c :: r)).length (S (c :: r)).length none = r.length + 1 := by rw [HT.sIx_none, l]
  unfold cutS
  rw [i1, i2]
  show ((c :: r).drop 1).take (r.length + 1 - 1) = r
  rw [Nat.add_sub_cancel]
  exact List.take_length
theorem cut12 (c : Nat) (r : List Nat) : cutS (S (c :: r)) (some 1) (some 2) = S (r.take 1) := by
  refine TL.ext_tl ?_
  have l : (S (c :: r)).length = r.length + 1 := by rw [S_len]; rfl
  have i1 : HT.sIx (S (c :: r)).length 0 (some 1) = 1 := by
    rw [l]
    unfold HT.sIx
    simp
  have i2 : HT.sIx (S (c :: r)).length (S (c :: r)).length (some 2) = min 2 (r.length + 1) := by
    rw [l]
    rfl
  unfold cutS
  rw [i1, i2]
  show ((c :: r).drop 1).take (min 2 (r.length + 1) - 1) = r.take 1
  show r.take _ = _
  cases r with
  | nil => rfl
  | cons d r =>
    have : min 2 ((d :: r).length + 1) - 1 = 1 := by simp
    rw [this]
theorem cut1m {l : List Nat} (h : 2 ≤ l.length) : cutS (S l) (some 1) (some (-1)) = S ((l.drop 1).take (l.length - 2)) := by
  refine TL.ext_tl ?_
  have i1 : HT.sIx (S l).length 0 (some 1) = 1 := by
    rw [S_len]
    unfold HT.sIx
    simp
    omega
  have i2 : HT.sIx (S l).length (S l).length (some (-1)) = l.length - 1 := by
    rw [S_len]
    unfold HT.sIx
    simp
    omega
  unfold cutS
  rw [i1, i2]
  show (l.drop 1).take (l.length - 1 - 1) = _
  rw [show l.length - 1 - 1 = l.length - 2 by omega]
end Tk

set_option Elab.async false
set_option linter.all false
set_option maxRecDepth 100000
set_option maxHeartbeats 4000000
/-! in, not in, len, [] over instances of own classes -/
namespace Tk
open PySem PySem.Spec PyProof.Rows L2
section
variable {X : Cx} {CX : CXT} {n : Nat} {C g : Addr} {sp : Sp} {E : XK}
theorem ins_at {pn : List (Addr × Obj)} {σ : L2.St} {H : Hp} {s : Shared} {a dx : Addr} {fs : List (Str × V)} (I : Inv X pn σ H s) (e : H a = some (.ins C dx fs)) : ∃ od, PySem.W.InstAt s.heap a (PySem.W.instObj C dx) C od := by
  obtain ⟨mA, O, _, _, _, _⟩ := ins_get I.hok e
  obtain ⟨od, ho, _⟩ := lookIn_ns O.ns
  exact ⟨some od, O.obj, rfl, rfl, ho⟩
/-- what the class at C writes under a name: a plain def at g -/
structure Own (K : PySem.W.Frag) (C : Addr) (m : Str) (g : Addr) : Prop where
  at_ : PySem.W.findIn K (.ref C) m = some (some (.ref g))
  fn : PySem.W.isFn K (.ref g) = true
def rInOwn (f : Bool → Bool) (C : Addr) (sp : Sp) (E : XK) : R2 := fun x y H Q => ∃ (a dx : Addr) (fs : List (Str × V)), y = .ref a ∧ H a = some (.ins C dx fs) ∧ sp [.ref a, x] H (fun r H' => ∃ b, r = .bl b ∧ Q (.bl (f b)) H') E
theorem k_inOwn (o : Own X.K C "__contains__" g) (F : FnR X.prog X.w X.K X.mg X.base CX n g sp) (hr : Room n X.A) (hx : Passes CX X E) : OpR X (compareOp .In) (rInOwn (fun b => b) C sp E) := by
  intro pn s σ H x y v u Q I rx ry h
  obtain ⟨a, dx, fs, rfl, ha, q⟩ := h
  obtain rfl : u = Value.ref a := ry
  obtain ⟨od, J⟩ := ins_at I ha
  obtain ⟨m, fr⟩ := I.fr
  refine PySem.W.in_K fr I.ok.mod.kin J o.at_ o.fn (wpAny_mono (wpAny_call (run_fnR (us := [.ref a, v]) (vs := [.ref a, x]) F hr hx I (.cons rfl (.cons rx .nil)) q)) (fun w s' z => ?_) fun _ _ z => z)
  obtain ⟨z', H', I', rz, b, rfl, qb⟩ := z
  obtain rfl : w = Value.bool b := rz
  exact wpAny_pure ⟨.bl b, H', I', rfl, qb⟩
theorem k_notinOwn (o : Own X.K C "__contains__" g) (F : FnR X.prog X.w X.K X.mg X.base CX n g sp) (hr : Room n X.A) (hx : Passes CX X E) : OpR X (compareOp .NotIn) (rInOwn (fun b => !b) C sp E) := by
  intro pn s σ H x y v u Q I rx ry h
  obtain ⟨a, dx, fs, rfl, ha, q⟩ := h
  obtain rfl : u = Value.ref a := ry
  obtain ⟨od, J⟩ := ins_at I ha
  obtain ⟨m, fr⟩ := I.fr
  refine PySem.W.notIn_K fr I.ok.mod.kin J o.at_ o.fn (wpAny_mono (wpAny_call (run_fnR (us := [.ref a, v]) (vs := [.ref a, x]) F hr hx I (.cons rfl (.cons rx .nil)) q)) (fun w s' z => ?_) fun _ _ z => z)
  obtain ⟨z', H', I', rz, b, rfl, qb⟩ := z
  obtain rfl : w = Value.bool b := rz
  exact wpAny_pure ⟨.bl (!b), H', I', rfl, qb⟩
/-- a op b, both of the class at C that writes op -/
def rBinOwn (C : Addr) (sp : Sp) (E : XK) : R2 := fun x y H Q => ∃ (a b dx dy : Addr) (fs gs : List (Str × V)), x = .ref a ∧ y = .ref b ∧ H a = some (.ins C dx fs) ∧ H b = some (.ins C dy gs) ∧ sp [.ref a, .ref b] H Q E
theorem k_binOwn {op : Operator} (o : Own X.K C (PySem.dunder op.info.2) g) (hc : PySem.W.selfFirst X.K C = true) (F : FnR X.prog X.w X.K X.mg X.base CX n g sp) (hr : Room n X.A) (hx : Passes CX X E) : OpR X (binaryOp op) (rBinOwn C sp E) := by
  intro pn s σ H x y v u Q I rx ry h
  obtain ⟨a, b, dx, dy, fs, gs, rfl, rfl, ha, hb, q⟩ := h
  obtain rfl : v = Value.ref a := rx
  obtain rfl : u = Value.ref b := ry
  obtain ⟨od, J⟩ := ins_at I ha
  obtain ⟨oe, J'⟩ := ins_at I hb
  obtain ⟨m, fr⟩ := I.fr
  refine PySem.W.binop_K fr I.ok.mod.kin J J'.type hc o.at_ o.fn (wpAny_mono (wpAny_call (run_fnR (us := [.ref a, .ref b]) (vs := [.ref a, .ref b]) F hr hx I (.cons rfl (.cons rfl .nil)) q)) (fun w s' z => ?_) fun _ _ z => z)
  obtain ⟨z', H', I', rz, qz⟩ := z
  exact SlX.cmpback rz ⟨z', H', I', rz, qz⟩
/-- a == b (or another comparison that the class at C writes), both of that class -/
theorem k_cmpOwn {op : CmpOp} (hop : ∀ a b, compareOp op a b = richCompare op a b) (o : Own X.K C (cmpInfo op).2.1 g) (F : FnR X.prog X.w X.K X.mg X.base CX n g sp) (hr : Room n X.A) (hx : Passes CX X E) : OpR X (compareOp op) (rBinOwn C sp E) := by
  intro pn s σ H x y v u Q I rx ry h
  obtain ⟨a, b, dx, dy, fs, gs, rfl, rfl, ha, hb, q⟩ := h
  obtain rfl : v = Value.ref a := rx
  obtain rfl : u = Value.ref b := ry
  obtain ⟨od, J⟩ := ins_at I ha
  obtain ⟨oe, J'⟩ := ins_at I hb
  obtain ⟨m, fr⟩ := I.fr
  rw [hop]
  refine PySem.W.cmp_K (op := op) (tb := .ref C) hr.units0 fr I.ok.mod.kin J J'.type (by simp [PySem.W.notFirst]) o.at_ o.fn (wpAny_mono (wpAny_call (run_fnR (us := [.ref a, .ref b]) (vs := [.ref a, .ref b]) F hr hx I (.cons rfl (.cons rfl .nil)) q)) (fun w s' z => ?_) fun _ _ z => z)
  obtain ⟨z', H', I', rz, qz⟩ := z
  exact SlX.cmpback rz ⟨z', H', I', rz, qz⟩
/-- len(a) -/
def rLenOwn (C : Addr) (sp : Sp) (E : XK) : List V → Hp → VK → Prop := fun xs H Q => ∃ (a dx : Addr) (fs : List (Str × V)), xs = [.ref a] ∧ H a = some (.ins C dx fs) ∧ sp [.ref a] H (fun r H' => ∃ k : Nat, r = .int k ∧ k ≤ 100000 ∧ Q (.int k) H') E
theorem k_lenOwn (o : Own X.K C "__len__" g) (F : FnR X.prog X.w X.K X.mg X.base CX n g sp) (hr : Room (n + 1) X.A) (hx : Passes CX X E) : CallR X (.builtin "len") (rLenOwn C sp E) := by
  intro pn s σ H xs us Q I r h
  obtain ⟨a, dx, fs, rfl, ha, q⟩ := h
  obtain ⟨u, rfl, ru⟩ := vals1 r
  obtain rfl : u = Value.ref a := ru
  obtain ⟨od, J⟩ := ins_at I ha
  obtain ⟨m, fr⟩ := I.fr
  refine PySem.W.len_K fr I.ok.mod.kin J o.at_ o.fn (wpAny_mono (wpAny_call (SlX.run_at (us := [.ref a]) (ws := [.ref a]) F (Room.in1 hr) I.env0.in1 hx I (.cons rfl .nil) q)) (fun w s' z => ?_) fun _ _ z => z)
  obtain ⟨z', H', I', rz, k, rfl, hk, qz⟩ := z
  obtain ⟨t, rfl⟩ := (show ∃ t, w = Value.int k t from rz)
  exact ⟨⟨by omega, by omega⟩, .int k, H', I'.tok _, ⟨_, rfl⟩, qz⟩
/-- a[k], a of the class at C that writes __getitem__ -/
def rSubOwn (C : Addr) (sp : Sp) (E : XK) : R2 := fun x y H Q => ∃ (a dx : Addr) (fs : List (Str × V)), x = .ref a ∧ H a = some (.ins C dx fs) ∧ sp [.ref a, y] H Q E
theorem pe_subOwn {e1 e2 : Expr} {t1 t2 : TE} {pos : Pos} (o : Own X.K C "__getitem__" g) (hg : PySem.W.fnIn X.K g = true) (F : FnR X.prog X.w X.K X.mg X.base CX n g sp) (hr : Room (n + 1) X.A) (hx : Passes CX X E) (h1 : PE X e1 t1) (h2 : PE X e2 t2)
    (hs : ∀ v u, subscripted e2 true v u = runValue (.builtin "lifetime.subscript" ⟨[v, u], []⟩) := by intro _ _; rfl) : PE X (.Subscript e1 e2 pos) (tOp (rSubOwn C sp E) t1 t2) := by
  refine ⟨fun pn s σ H Q I h => ?_⟩
  refine Subscript_ (binT h1 h2 I h fun v u s2 x y H2 I2 rx ry q => ?_)
  obtain ⟨a, dx, fs, rfl, ha, q⟩ := q
  obtain rfl : v = Value.ref a := rx
  obtain ⟨od, J⟩ := ins_at I2 ha
  obtain ⟨m, fr⟩ := I2.fr
  refine PySem.W.sub_K fr I2.ok.mod.kin J o.at_ hg o.fn (wpAny_mono (wpAny_call (SlX.run_at (us := [.ref a, u]) (ws := [.ref a, y]) F (Room.in1 hr) I2.env0.in1 hx I2 (.cons rfl (.cons ry .nil)) q)) (fun w s' z => z) fun _ _ z => z) (hs _ _)
end
end Tk

set_option Elab.async false
set_option linter.all false
set_option maxRecDepth 100000
set_option maxHeartbeats 4000000
/-! sets of texts: set(xs), len, sorted; the members as a list, none twice, in some order -/
namespace Ts
open PySem PySem.Spec PyProof.Rows L2
section
variable {P : Program} {w : World} {h h' : Heap} {a : Addr} {S : List Str}
abbrev sk (P : Program) (w : World) := PySem.strKind P w
/-- the text of a row of the table -/
def txOf (e : Int × Value) : Str := match e.2 with | .str x _ => x | _ => Str.empty
def IsTx (P : Program) (w : World) (e : Int × Value) : Prop := ∃ (x : Str) (u : Tok), e.2 = Value.str x u ∧ e.1 = (sk P w).hash x
/-- one more text -/
def addT (S : List Str) (x : Str) : List Str := if x ∈ S then S else x :: S
structure Raw (P : Program) (w : World) (h : Heap) (a : Addr) (S : List Str) (ob : Obj) (rows : Array (Int × Value)) (ep : Nat) (tb : SetTable) : Prop where
  at_ : h.get? a = some ob
  ex : ob.ExactSet
  dat : ob.data = .set rows ep tb
  txt : ∀ e ∈ rows.toList, IsTx P w e
  mem : (rows.toList.map txOf).Perm S
  nd : S.Nodup
  few : rows.size < scanBound
  fits : tb.fits rows.size = true
  ris : Ris tb.place.toList
  led : w.params.followText "set-order" = true ∨ tb.led = true
/-- the set of texts at a -/
def TSet (P : Program) (w : World) (h : Heap) (a : Addr) (S : List Str) : Prop := ∃ ob rows ep tb, Raw P w h a S ob rows ep tb
theorem TSet.keep (R : TSet P w h a S) (k : ∀ o, h.get? a = some o → h'.get? a = some o) : TSet P w h' a S := by
  obtain ⟨ob, rows, ep, tb, r⟩ := R
  exact ⟨ob, rows, ep, tb, { r with at_ := k ob r.at_ }⟩
theorem Raw.size {ob : Obj} {rows : Array (Int × Value)} {ep : Nat} {tb : SetTable} (r : Raw P w h a S ob rows ep tb) : rows.size = S.length := by
  have q := r.mem.length_eq
  rw [List.length_map, Array.length_toList] at q
  exact q
theorem tx_elems {l : List (Int × Value)} (g : ∀ e ∈ l, IsTx P w e) : ElemsOf (sk P w) l := by
  intro e he
  obtain ⟨x, u, h1, h2⟩ := g e he
  refine ⟨⟨x, ?_, h2⟩, ?_⟩ <;> rw [h1]
  · exact strKind_is P w x u
  · rfl
theorem tx_is {e : Int × Value} (g : IsTx P w e) (x : Str) : (sk P w).is x e.2 = true ↔ txOf e = x := by
  obtain ⟨y, u, h1, _⟩ := g
  unfold txOf
  rw [h1]
  constructor
  · intro z
    obtain ⟨u', z'⟩ := Value.isStrOf_shape (show Value.isStrOf x (.str y u) = true from z)
    injection z'
  · intro z
    rw [← z]
    exact strKind_is P w y u
end
section
variable {P : Program} {w : World} {A : Around} {E : Value → Shared → Prop} {s : Shared} {a : Addr} {S : List Str}
/-- the end of an adding: the rows are stored, and laid anew where they are too many -/
theorem add_end {gv : Bool → Sem Unit} (hgv : ∀ (b : Bool) (t : Shared) (Q' : Unit → Shared → Prop), Q' () t → wpAny (model P w) A (gv b) Q' E t) {ob : Obj} {rows rows1 : Array (Int × Value)} {ep : Nat} {tb tb1 : SetTable}
    (e1 : s.heap.get? a = some ob) (e2 : ob.ExactSet) (e3 : ob.data = .set rows ep tb) (g1 : ∀ e ∈ rows1.toList, IsTx P w e) (m1 : (rows1.toList.map txOf).Perm S) (n1 : S.Nodup) (f1 : rows1.size < scanBound)
    (t1 : tb1.fits rows1.size = true) (r1 : Ris tb1.place.toList) (l1 : w.params.followText "set-order" = true ∨ tb1.led = true) {dm : Bool} {R : Option Bool → Shared → Prop}
    (hR : ∀ h', Heap.SameBut a s.heap h' → TSet P w h' a S → R (some true) { s with heap := h' }) :
    wpAny (model P w) A (do storeSet a rows1 tb1; if (!dm && tb1.tooFull) = true then do { gv (relayAll tb1 rows1 (SetTable.grown rows1.size)).2.2; storeSet a (relayAll tb1 rows1 (SetTable.grown rows1.size)).1 (relayAll tb1 rows1 (SetTable.grown rows1.size)).2.1; pure (some true) } else pure (some true)) R E s := by
  have k1 := store_at (es' := rows1) (t' := tb1) e1 e3
  have b1 := Heap.SameBut.update s.heap a (Obj.putSet rows1 tb1)
  refine wpAny_bind (wpAny_storeSet_of e1 e3 ?_ (fits_of_scanBound f1))
  split
  case isFalse => exact wpAny_pure (hR _ b1 ⟨_, rows1, _, tb1, k1, e2, rfl, g1, m1, n1, f1, t1, r1, l1⟩)
  case isTrue =>
    have p2 := relayAll_perm tb1 rows1 (SetTable.grown rows1.size)
    have t2 := relayAll_fits tb1 rows1 (SetTable.grown rows1.size)
    have r2 := relayAll_ris tb1 rows1 (SetTable.grown rows1.size)
    have l2 := relayAll_led tb1 rows1 (SetTable.grown rows1.size)
    generalize relayAll tb1 rows1 (SetTable.grown rows1.size) = Z at p2 t2 r2 l2 ⊢
    obtain ⟨rows2, tb2, gw⟩ := Z
    dsimp only at p2 t2 r2 l2 ⊢
    have sz : rows2.size = rows1.size := by rw [← Array.length_toList, p2.length_eq, Array.length_toList]
    have f2 : rows2.size < scanBound := by rw [sz]; exact f1
    refine wpAny_bind (hgv _ _ _ (wpAny_bind (wpAny_storeSet_of k1 rfl ?_ (fits_of_scanBound f2))))
    have k2 := store_at (es' := rows2) (t' := tb2) k1 rfl
    exact wpAny_pure (hR _ (b1.trans (Heap.SameBut.update _ a _)) ⟨_, rows2, _, tb2, k2, e2, rfl, fun e he => g1 e (p2.mem_iff.mp he), (p2.map txOf).trans m1, n1, f2, t2, r2, l1.imp id fun z => by rw [l2]; exact z⟩)
theorem add_txt {x : Str} {u : Tok} {Q : Bool → Shared → Prop} (R : TSet P w s.heap a S) (room : S.length + 1 < scanBound)
    (hQ : ∀ h' b, Heap.SameBut a s.heap h' → TSet P w h' a (addT S x) → Q b { s with heap := h' }) : wpAny (model P w) A (setAddHashed a (.str x u) ((sk P w).hash x)) Q E s := by
  obtain ⟨ob, rows, ep, tb, r⟩ := R
  have isx : (sk P w).is x (.str x u) = true := strKind_is P w x u
  have sc : (Value.str x u).scannable = true := rfl
  have el : ElemsOf (sk P w) rows.toList := tx_elems r.txt
  unfold setAddHashed setAddHashedIn
  refine wpAny_holding (wpAny_bind (wpAny_setState_of r.at_ r.dat r.fits ?_))
  dsimp only
  rw [byScan_of sc r.few el]
  simp only [↓reduceIte]
  unfold setAddByScan
  refine wpAny_bind (wpAny_bind (wpAny_rule (wpAny_bind (wpAny_setScan_of isx r.at_ r.dat r.fits el ?_))))
  cases fi : List.findIdx? (fun e => (sk P w).is x e.2) rows.toList with
  | some j =>
    dsimp only
    obtain ⟨hj, pj, _⟩ := List.findIdx?_eq_some_iff_getElem.mp fi
    have hm : x ∈ S := r.mem.mem_iff.mp (List.mem_map.mpr ⟨rows.toList[j], List.getElem_mem hj, (tx_is (r.txt _ (List.getElem_mem hj)) x).mp pj⟩)
    refine wpAny_pure (wpAny_pure (hQ s.heap _ (Heap.SameBut.refl a s.heap) ?_))
    unfold addT
    rw [if_pos hm]
    exact ⟨ob, rows, ep, tb, r⟩
  | none =>
    dsimp only
    have nm : x ∉ S := fun z => by
      obtain ⟨e, he, q⟩ := List.mem_map.mp (r.mem.mem_iff.mpr z)
      have c := List.findIdx?_eq_none_iff.mp fi e he
      rw [(tx_is (r.txt e he) x).mpr q] at c
      cases c
    have gw : ∀ (b : Bool) {t : Shared} {Q' : Unit → Shared → Prop}, Q' () t → wpAny (model P w) A (match b with | true => rule "set.scan.the-table-gave-way" | false => pure ()) Q' E t := fun b t Q' q => by
      cases b
      · exact wpAny_pure q
      · exact wpAny_rule q
    have p1 := layNew_perm tb rows ((sk P w).hash x) (.str x u)
    have t1 := layNew_fits tb rows ((sk P w).hash x) (.str x u)
    have r1 := layNew_ris tb rows ((sk P w).hash x) (.str x u) r.ris
    have l1 := layNew_led tb rows ((sk P w).hash x) (.str x u)
    generalize layNew tb rows ((sk P w).hash x) (.str x u) = Z at p1 t1 r1 l1 ⊢
    obtain ⟨rows1, tb1, dm, gv⟩ := Z
    dsimp only at p1 t1 r1 l1 ⊢
    rw [Array.toList_push] at p1
    have pc : rows1.toList.Perm (((sk P w).hash x, Value.str x u) :: rows.toList) := p1.trans (List.perm_append_singleton _ _)
    have g1 : ∀ e ∈ rows1.toList, IsTx P w e := fun e he => by
      rcases List.mem_cons.mp (pc.mem_iff.mp he) with z | z
      · exact ⟨x, u, by rw [z], by rw [z]⟩
      · exact r.txt e z
    have es : addT S x = x :: S := if_neg nm
    have m1 : (rows1.toList.map txOf).Perm (addT S x) := by
      rw [es]
      exact (pc.map txOf).trans (List.Perm.cons x r.mem)
    have n1 : (addT S x).Nodup := by
      rw [es]
      exact List.nodup_cons.mpr ⟨nm, r.nd⟩
    have sz : rows1.size = S.length + 1 := by
      have q := m1.length_eq
      rw [es, List.length_map, Array.length_toList] at q
      exact q
    have f1 : rows1.size < scanBound := by rw [sz]; exact room
    have ld : w.params.followText "set-order" = true ∨ tb1.led = true := r.led.imp id fun z => by rw [l1]; exact z
    refine wpAny_bind (gw _ ?_)
    split
    · refine wpAny_bind ?_
      rw [hashByValue_scannable 8 sc]
      refine wpAny_pure ?_
      refine add_end ?_ r.at_ r.ex r.dat g1 m1 n1 f1 ?_ ?_ ?_ ?_
      · intro b t Q' q
        cases b <;> first | exact wpAny_pure q | exact wpAny_rule q
      · first | (split <;> first | exact t1 | exact SetTable.fits_plain_off t1) | exact t1
      · first | (split <;> exact r1) | exact r1
      · first | (split <;> exact ld) | exact ld
      · intro h' sb y; dsimp only; exact wpAny_pure (hQ h' _ sb y)
    · refine wpAny_bind (wpAny_pure ?_)
      simp only [↓reduceIte]
      refine add_end ?_ r.at_ r.ex r.dat g1 m1 n1 f1 t1 r1 ld ?_
      · intro b t Q' q
        cases b <;> first | exact wpAny_pure q | exact wpAny_rule q
      · intro h' sb y; dsimp only; exact wpAny_pure (hQ h' _ sb y)
end
/-- the texts of a row, the last one added last -/
def gather : List Str → List Str
  | [] => []
  | x :: xs => addT (gather xs) x
theorem addT_mem {S : List Str} {x y : Str} : y ∈ addT S x ↔ y = x ∨ y ∈ S := by
  unfold addT
  split
  · rename_i h
    exact ⟨.inr, fun z => z.elim (fun e => e ▸ h) id⟩
  · exact List.mem_cons
theorem gather_mem {xs : List Str} {y : Str} : y ∈ gather xs ↔ y ∈ xs := by
  induction xs with
  | nil => exact Iff.rfl
  | cons x xs ih => rw [gather, addT_mem, ih, List.mem_cons]
theorem addT_len (S : List Str) (x : Str) : (addT S x).length ≤ S.length + 1 := by
  unfold addT
  split
  · omega
  · exact Nat.le_refl _
theorem gather_len (xs : List Str) : (gather xs).length ≤ xs.length := by
  induction xs with
  | nil => exact Nat.le_refl _
  | cons x xs ih =>
    rw [gather, List.length_cons]
    exact Nat.le_trans (addT_len _ _) (by omega)

section
variable {P : Program} {w : World} {A : Around} {E : Value → Shared → Prop} {s : Shared}
theorem tset_new {h : Heap} {a : Addr} (e : h.get? a = some { cls := .type "set", dict := none, data := .set #[] 0 (.fresh 0 0 (!w.params.followText "set-order")) }) : TSet P w h a [] := by
  refine ⟨_, #[], 0, _, e, ⟨rfl, rfl, rfl⟩, rfl, ?_, .nil, .nil, by decide, rfl, .nil, ?_⟩
  · intro e he
    exact absurd he (by simp)
  · cases q : w.params.followText "set-order" with
    | true => exact .inl rfl
    | false => exact .inr rfl
/-- set.update's own loop, over anything that walks texts -/
theorem upd_loop {It : Addr} {fp wr : List Addr} {G : Array GenState → Array GenState → Prop} {n : Nat} {Pv : Nat → Value → Prop} {St : Nat → Shared → Prop} {R : Result → Shared → Prop} (W : WalksS P w A.in1 It fp wr G n Pv St) (D : Addr) (nf : D ∉ fp) (xs : List Str)
    (en : n = xs.length) (room : xs.length + 1 < scanBound) (hv : ∀ i v, Pv i v → ∃ x u, xs[i]? = some x ∧ v = Value.str x u) : ∀ (m i : Nat) (s : Shared), n - i = m → i ≤ n → St i s → TSet P w s.heap D (gather (xs.take i).reverse) →
      (∀ s', Moved (D :: wr) G s s' → TSet P w s'.heap D (gather xs.reverse) → R (.ok (.ret .none)) s') → codeAny (model P w) A (.builtin "set.update.loop" ⟨[.ref D, .ref It], []⟩) R s := by
  have nw : D ∉ wr := fun z => nf (W.sub _ z)
  have up : ∀ b ∈ wr, b ∈ D :: wr := fun b z => List.mem_cons_of_mem _ z
  intro m
  induction m with
  | zero =>
    intro i s e1 e2 st hS hR
    obtain rfl : i = n := by omega
    refine codeAny_builtin F.entry_set_update_loop (?_ : _)
    rw [Around.under_plainId F.plain_set_update_loop (_ : _)]
    show wpAny (model P w) A.in1 (pyNext (.ref It) >>= _) _ _ s
    refine wpAny_bind (W.done s _ _ st fun t mv => ?_)
    show wpAny (model P w) A.in1 (ret Value.none) _ _ t
    rw [List.take_of_length_le (show xs.length ≤ i by omega)] at hS
    exact wpAny_pure (hR t (mv.mono up) (hS.keep fun o e => mv.heap D o nw e))
  | succ m ih =>
    intro i s e1 e2 st hS hR
    have lt : i < n := by omega
    refine codeAny_builtin F.entry_set_update_loop (?_ : _)
    rw [Around.under_plainId F.plain_set_update_loop (_ : _)]
    show wpAny (model P w) A.in1 (pyNext (.ref It) >>= _) _ _ s
    refine wpAny_bind (W.item i s _ _ lt st fun v t pv st' mv => ?_)
    obtain ⟨x, u, hx, rfl⟩ := hv i v pv
    have hS1 : TSet P w t.heap D (gather (xs.take i).reverse) := hS.keep fun o e => mv.heap D o nw e
    show wpAny (model P w) A.in1 (holding [Value.str x u] (setAdd D (.str x u)) >>= _) _ _ t
    refine wpAny_bind (wpAny_holding (?_ : _))
    unfold setAdd
    refine wpAny_holding (wpAny_bind ((sk P w).pyHash (k := x) (strKind_is _ _ _ _) ?_))
    have ln : (gather (xs.take i).reverse).length + 1 < scanBound := by
      have q := gather_len (xs.take i).reverse
      rw [List.length_reverse, List.length_take] at q
      omega
    refine add_txt (s := { t with toks := t.toks + 1 }) hS1 ln fun h' b sb hS2 => ?_
    have hS3 : TSet P w h' D (gather (xs.take (i + 1)).reverse) := by
      rw [List.take_add_one, hx, List.reverse_append]
      exact hS2
    refine wpAny_pure ⟨plainId_quiet F.plain_set_update_loop _, ih (i + 1) _ (by omega) lt (W.frame _ t _ _ st' (Nat.le_succ _) fun c hc o e => ?_) hS3 fun t2 mv2 hS4 => ?_⟩
    · rw [sb.2 c fun z : c = D => nf (z ▸ hc)]
      exact e
    · refine hR t2 (Moved.trans W.gtrans ((mv.mono up).then_heap (Nat.le_succ _) fun c o hc e => ?_) mv2) hS4
      rw [sb.2 c fun z : c = D => hc (z ▸ List.mem_cons_self)]
      exact e
end
section
variable {P : Program} {w : World} {A : Around} {E : Value → Shared → Prop} {s : Shared}
/-- a new set -/
abbrev newS (w : World) : Obj := { cls := .type "set", dict := none, data := .set #[] 0 (.fresh 0 0 (!w.params.followText "set-order")) }

set_option maxHeartbeats 8000000 in
/-- set(xs), xs a list of texts -/
theorem set_list {l : Addr} {its : Array Value} {xs : List Str} {Q : Value → Shared → Prop} (hn : A.handled = none) (hl : s.heap.IsList l its) (hx : StrsAre its.toList xs) (room : xs.length + 1 < scanBound)
    (hQ : ∀ (h' : Heap) (tk : Nat), TSet P w h' s.heap.objs.size (gather xs.reverse) → (∀ b o, s.heap.get? b = some o → h'.get? b = some o) → Q (.ref s.heap.objs.size) { s with heap := h', toks := tk }) : wpAny (model P w) A (call (.type "set") [.ref l]) Q E s := by
  obtain ⟨mc, ml, mro⟩ := F.called_set.mro
  have mk := F.called_set.made
  have sb := F.called_set.sub
  refine wpAny_call (codeAny_of_tree (show wpAny (model P w) _ (callAny (.type "set") _) _ _ s from ?_))
  refine wpAny_pure ⟨Code.quiet_builtin _ (by decide +kernel), codeAny_builtin F.entry_type_call (?_ : _)⟩
  rw [Around.under_plain (weight_type_call_type "set" [.ref l] []) (by rfl)]
  have q1 := F.called_set.notType
  have q2 := F.called_set.canCreate
  have q3 := F.typeCall_set_1 (.ref l)
  repeat any_goals first | assumption | wp_step
  refine codeAny_mono (code_set_led1 (.ref l) (E := E) (Q₁ := fun v t => v = .ref s.heap.objs.size ∧ t = { s with heap := s.heap.push (newS w) }) ⟨rfl, rfl⟩) fun r t hr => ?_
  match r, hr with
  | .error e, hr => exact hr
  | .ok (.ret v), hr =>
    obtain ⟨rfl, rfl⟩ := hr
    have gS : (s.heap.push (newS w)).get? s.heap.objs.size = some (newS w) := Heap.get?_push_size _ rfl
    have tS : Shared.TypeIs { s with heap := s.heap.push (newS w) } (.ref s.heap.objs.size) "set" := ⟨_, gS, rfl⟩
    have i1 := F.called_set.init.lookup
    have i2 := F.called_set.init.bind (.ref s.heap.objs.size)
    repeat any_goals first | assumption | wp_step
    refine codeAny_mono (codeAny_call_builtin (R := wants (fun r t2 => r = .none ∧ ∃ h' tk, t2 = { s with heap := h', toks := tk } ∧ TSet P w h' s.heap.objs.size (gather xs.reverse) ∧ (∀ b o, s.heap.get? b = some o → h'.get? b = some o)) E) F.called_set.init.plain F.entry_set_init (check_set_init_1 tS ?_)) fun r2 t2 hr2 => ?_
    · obtain ⟨⟨c0, d0, dat0, sl0⟩, o1, o2, n0, o3⟩ := hl
      simp only at o2 o3
      subst o2
      subst o3
      have o1' : (s.heap.push (newS w)).get? l = some { cls := .type "list", dict := d0, data := .seq its n0, slots := sl0 } := Heap.get?_push_of_some _ o1
      have s1 := F.sub_list_set
      have s2 := F.sub_list_frozenset
      have ne : (Value.type "list" == Value.type "dict") = false := by decide
      have l1 : (s.heap.push (newS w)).IsList l its := ⟨_, o1', rfl, n0, rfl⟩
      unfold Builtin.«set.__init__» noKeywords Builtin.Frozenset.updateFrom
      generalize ePI : pyIter = PI
      wp_walk
      subst ePI
      refine wpAny_pyIter_list l1 (wpAny_bind (wpAny_runValue ?_))
      have lt := Heap.lt_size o1
      have hn3 : A.in1.in1.in1.handled = none := by simp [hn]
      have zz : (s.heap.push (newS w)).objs.size = s.heap.objs.size + 1 := Heap.size_push ..
      have nI : l ≠ (s.heap.push (newS w)).objs.size := by
        rw [zz]
        exact Nat.ne_of_lt (Nat.lt_succ_of_lt lt)
      have nf : s.heap.objs.size ∉ [(s.heap.push (newS w)).objs.size, l] := by
        rw [zz]
        simp only [List.mem_cons, List.not_mem_nil, or_false, not_or]
        exact ⟨Nat.ne_of_lt (Nat.lt_succ_self _), Nat.ne_of_gt lt⟩
      have sz : its.size = xs.length := by rw [← Array.length_toList]; exact StrsAre.length hx
      refine upd_loop ((Walks.list hn3 _ l nI its).toS) s.heap.objs.size nf xs sz room (fun i v z => ?_) (its.size - 0) 0 _ (by omega) (Nat.zero_le _) ⟨⟨_, Heap.get?_push_size _ rfl, rfl, rfl⟩, l1.push _⟩ (tset_new (Heap.get?_push_of_some _ gS)) ?_
      · obtain ⟨y, u, e1, e2⟩ := StrsAre.item hx i v (by rw [Array.getElem?_toList]; exact z)
        exact ⟨y, u, e2, e1⟩
      · rintro ⟨h', g', d', tk', os'⟩ mv hS
        obtain rfl : g' = s.gens := mv.gens
        obtain rfl : d' = s.drawn := mv.drawn
        obtain rfl : os' = s.os := mv.os
        show wpAny _ _ _ _ _ _
        refine wpAny_pure (show wpAny _ _ (ret Value.none) _ _ _ from wpAny_pure ⟨rfl, h', tk', rfl, hS, fun b o e => ?_⟩)
        have lb := Heap.lt_size e
        refine mv.heap b o ?_ (Heap.get?_push_of_some _ (Heap.get?_push_of_some _ e))
        rw [zz]
        simp only [List.mem_cons, List.not_mem_nil, or_false, not_or]
        exact ⟨Nat.ne_of_lt lb, Nat.ne_of_lt (Nat.lt_succ_of_lt lb)⟩
    · match r2, hr2 with
      | .error e, hr2 => exact hr2
      | .ok (.ret v2), hr2 =>
        obtain ⟨rfl, h', tk, rfl, hS, k⟩ := hr2
        repeat any_goals first | assumption | wp_step
        exact hQ _ _ hS k

set_option maxHeartbeats 8000000 in
/-- set(xs), xs a tuple of texts -/
theorem set_tuple {l : Addr} {its : Array Value} {xs : List Str} {Q : Value → Shared → Prop} (hn : A.handled = none) (hl : s.heap.IsTuple l its) (hx : StrsAre its.toList xs) (room : xs.length + 1 < scanBound)
    (hQ : ∀ (h' : Heap) (tk : Nat), TSet P w h' s.heap.objs.size (gather xs.reverse) → (∀ b o, s.heap.get? b = some o → h'.get? b = some o) → Q (.ref s.heap.objs.size) { s with heap := h', toks := tk }) : wpAny (model P w) A (call (.type "set") [.ref l]) Q E s := by
  obtain ⟨mc, ml, mro⟩ := F.called_set.mro
  have mk := F.called_set.made
  have sb := F.called_set.sub
  refine wpAny_call (codeAny_of_tree (show wpAny (model P w) _ (callAny (.type "set") _) _ _ s from ?_))
  refine wpAny_pure ⟨Code.quiet_builtin _ (by decide +kernel), codeAny_builtin F.entry_type_call (?_ : _)⟩
  rw [Around.under_plain (weight_type_call_type "set" [.ref l] []) (by rfl)]
  have q1 := F.called_set.notType
  have q2 := F.called_set.canCreate
  have q3 := F.typeCall_set_1 (.ref l)
  repeat any_goals first | assumption | wp_step
  refine codeAny_mono (code_set_led1 (.ref l) (E := E) (Q₁ := fun v t => v = .ref s.heap.objs.size ∧ t = { s with heap := s.heap.push (newS w) }) ⟨rfl, rfl⟩) fun r t hr => ?_
  match r, hr with
  | .error e, hr => exact hr
  | .ok (.ret v), hr =>
    obtain ⟨rfl, rfl⟩ := hr
    have gS : (s.heap.push (newS w)).get? s.heap.objs.size = some (newS w) := Heap.get?_push_size _ rfl
    have tS : Shared.TypeIs { s with heap := s.heap.push (newS w) } (.ref s.heap.objs.size) "set" := ⟨_, gS, rfl⟩
    have i1 := F.called_set.init.lookup
    have i2 := F.called_set.init.bind (.ref s.heap.objs.size)
    repeat any_goals first | assumption | wp_step
    refine codeAny_mono (codeAny_call_builtin (R := wants (fun r t2 => r = .none ∧ ∃ h' tk, t2 = { s with heap := h', toks := tk } ∧ TSet P w h' s.heap.objs.size (gather xs.reverse) ∧ (∀ b o, s.heap.get? b = some o → h'.get? b = some o)) E) F.called_set.init.plain F.entry_set_init (check_set_init_1 tS ?_)) fun r2 t2 hr2 => ?_
    · obtain ⟨⟨c0, d0, dat0, sl0⟩, o1, o2, n0, o3⟩ := hl
      simp only at o2 o3
      subst o2
      subst o3
      have o1' : (s.heap.push (newS w)).get? l = some { cls := .type "tuple", dict := d0, data := .seq its n0, slots := sl0 } := Heap.get?_push_of_some _ o1
      have s1 := F.sub_tuple_set
      have s2 := F.sub_tuple_frozenset
      have ne : (Value.type "tuple" == Value.type "dict") = false := by decide
      have l1 : (s.heap.push (newS w)).IsTuple l its := ⟨_, o1', rfl, n0, rfl⟩
      unfold Builtin.«set.__init__» noKeywords Builtin.Frozenset.updateFrom
      generalize ePI : pyIter = PI
      wp_walk
      subst ePI
      refine wpAny_pyIter_tuple l1 (wpAny_bind (wpAny_runValue ?_))
      have lt := Heap.lt_size o1
      have hn3 : A.in1.in1.in1.handled = none := by simp [hn]
      have zz : (s.heap.push (newS w)).objs.size = s.heap.objs.size + 1 := Heap.size_push ..
      have nI : l ≠ (s.heap.push (newS w)).objs.size := by
        rw [zz]
        exact Nat.ne_of_lt (Nat.lt_succ_of_lt lt)
      have nf : s.heap.objs.size ∉ [(s.heap.push (newS w)).objs.size, l] := by
        rw [zz]
        simp only [List.mem_cons, List.not_mem_nil, or_false, not_or]
        exact ⟨Nat.ne_of_lt (Nat.lt_succ_self _), Nat.ne_of_gt lt⟩
      have sz : its.size = xs.length := by rw [← Array.length_toList]; exact StrsAre.length hx
      refine upd_loop ((Walks.tuple hn3 _ l nI its).toS) s.heap.objs.size nf xs sz room (fun i v z => ?_) (its.size - 0) 0 _ (by omega) (Nat.zero_le _) ⟨⟨_, Heap.get?_push_size _ rfl, rfl, rfl⟩, l1.push _⟩ (tset_new (Heap.get?_push_of_some _ gS)) ?_
      · obtain ⟨y, u, e1, e2⟩ := StrsAre.item hx i v (by rw [Array.getElem?_toList]; exact z)
        exact ⟨y, u, e2, e1⟩
      · rintro ⟨h', g', d', tk', os'⟩ mv hS
        obtain rfl : g' = s.gens := mv.gens
        obtain rfl : d' = s.drawn := mv.drawn
        obtain rfl : os' = s.os := mv.os
        show wpAny _ _ _ _ _ _
        refine wpAny_pure (show wpAny _ _ (ret Value.none) _ _ _ from wpAny_pure ⟨rfl, h', tk', rfl, hS, fun b o e => ?_⟩)
        have lb := Heap.lt_size e
        refine mv.heap b o ?_ (Heap.get?_push_of_some _ (Heap.get?_push_of_some _ e))
        rw [zz]
        simp only [List.mem_cons, List.not_mem_nil, or_false, not_or]
        exact ⟨Nat.ne_of_lt lb, Nat.ne_of_lt (Nat.lt_succ_of_lt lb)⟩
    · match r2, hr2 with
      | .error e, hr2 => exact hr2
      | .ok (.ret v2), hr2 =>
        obtain ⟨rfl, h', tk, rfl, hS, k⟩ := hr2
        repeat any_goals first | assumption | wp_step
        exact hQ _ _ hS k
end
/-! sorted(a set of texts) -/
section
variable {P : Program} {w : World} {A : Around} {E : Value → Shared → Prop} {s : Shared}
theorem strs_from : ∀ {vs : List Value} {l : List (Int × Value)}, vs.Perm (l.map (·.2)) → (∀ e ∈ l, IsTx P w e) → ∃ ys : List Str, StrsAre vs ys ∧ ys.Perm (l.map txOf) := by
  intro vs l pm g
  have all : ∀ v ∈ vs, ∃ x u, v = Value.str x u := fun v hv => by
    obtain ⟨e, he, q⟩ := List.mem_map.mp (pm.mem_iff.mp hv)
    obtain ⟨x, u, h1, _⟩ := g e he
    exact ⟨x, u, by rw [← q, h1]⟩
  let f : Value → Str := fun v => match v with | .str x _ => x | _ => Str.empty
  refine ⟨vs.map f, ?_, ?_⟩
  · clear pm
    induction vs with
    | nil => exact .nil
    | cons v vs ih =>
      obtain ⟨x, u, rfl⟩ := all v List.mem_cons_self
      exact .cons x u (ih fun y hy => all y (List.mem_cons_of_mem _ hy))
  · have q := pm.map f
    rw [List.map_map] at q
    exact q
theorem sorted_txt {a : Addr} {S : List Str} {Q : Value → Shared → Prop} (R : TSet P w s.heap a S) (hn : A.handled = none) (few : S.length < 64)
    (hQ : ∀ t p (out : Array Value) (c : Nat) (ys : List Str), (∀ b o, s.heap.get? b = some o → t.heap.get? b = some o) → t.gens = s.gens → t.os = s.os → s.heap.objs.size ≤ p → t.heap.get? p = some (seqObj "list" out c) → StrsAre out.toList ys → ys.Perm S → sortedS ys = true → Q (.ref p) t) :
    wpAny (model P w) A (call (.builtin "sorted") [.ref a]) Q E s := by
  obtain ⟨ob, rows, ep, tb, r⟩ := R
  refine Calls.call_function_entry kind_sorted plain_sorted entry_sorted (args_sorted1 _) (?_ : _)
  unfold Builtin.«sorted»
  refine wpAny_bind (m := checkCount "sorted" 1 1 _) (wpAny_pure (wpAny_bind (collect_set (A := A.in1) hn ⟨ob, r.at_, r.ex.1, r.dat⟩ r.fits r.few r.ris r.led fun t vs k1 hz g1 o1 pm => ?_)))
  obtain ⟨zs, hS, pz⟩ := strs_from pm r.txt
  have pS : zs.Perm S := pz.trans r.mem
  have vl : vs.length < 64 := by rw [StrsAre.length hS, pS.length_eq]; exact few
  refine wpAny_bind (wpAny_newList (?_ : _) (by rw [sizeLine_eq]; omega))
  have oL : (t.heap.push (seqObj "list" vs.toArray 0)).get? t.heap.objs.size = some (seqObj "list" vs.toArray 0) := Heap.get?_push_size _ rfl
  refine wpAny_bind (wpAny_holding (wpAny_call_entry slot_list_sort ⟨_, oL, rfl⟩ entry_list_sort (list_sort_treeK (κ := PyProof.Rows.strKind) strKind_oneLt oL hS.keysOf (fun v₁ v₂ rest e => keyKind_strs (by rw [← e]; exact hS)) vl fun st hp hs => ⟨_, rfl, ?_⟩) (args_list_sort _)))
  obtain ⟨ys, e1, e2, e3⟩ := sorted_out_str hS hp hs
  obtain ⟨c, hc⟩ := sortedHeap_at (vs := vs) (out := (arrOf st).map (·.2)) oL
  refine wpAny_pure ⟨_, rfl, hQ _ t.heap.objs.size _ c ys (fun b u e => ?_) g1 o1 hz hc e1 (e2.trans pS) e3⟩
  have q := k1 b u e
  have lt := Heap.lt_size q
  show (sortedHeap (t.heap.push (seqObj "list" vs.toArray 0)) t.heap.objs.size vs _).get? b = some u
  rw [sortedHeap_old (Nat.ne_of_lt lt) (by rw [size_push']; exact Nat.lt_succ_of_lt lt)]
  exact Heap.get?_push_of_some _ q
end
end Ts

set_option Elab.async false
set_option linter.all false
set_option maxRecDepth 100000
set_option maxHeartbeats 4000000
/-! set(xs), sorted(set), len(set) of texts as rules; tables of the module; zip of tuples -/
namespace Tk
open PySem PySem.Spec PyProof.Rows L2 Ts
def TSetO (P : Program) (w : World) (a : Addr) (S : List Str) : HO := .ext fun h => TSet P w h a S
theorem tset_ok {P : Program} {w : World} {H : Hp} {h : Heap} {a : Addr} {S : List Str} (R : TSet P w h a S) : ObjOk P w H h a (TSetO P w a S) :=
  ⟨R, by obtain ⟨o, _, _, _, r⟩ := R; exact ⟨o, r.at_⟩, fun _ _ p k => TSet.keep p k⟩
section
variable {X : Cx} {K : PySem.W.Frag}
theorem tset_get {pn : List (Addr × Obj)} {σ : L2.St} {H : Hp} {s : Shared} {a : Addr} {S : List Str} (I : Inv X pn σ H s) (e : H a = some (TSetO X.prog X.w a S)) : TSet X.prog X.w s.heap a S := (I.hok a _ e).1
def rSetX (K : PySem.W.Frag) (P : Program) (w : World) : List V → Hp → VK → Prop := fun vs H Q => ∃ (l : Addr) (xs : List Str), vs = [.ref l] ∧ (SqL K H l (xs.map V.str) ∨ SqT K H l (xs.map V.str)) ∧ xs.length ≤ 4000 ∧ ∀ p, H p = none → Q (.ref p) (upd H p (TSetO P w p (gather xs.reverse)))
theorem k_setX (hc : X.calm = true) (e : X.K = K := by rfl) : CallR X (.type "set") (rSetX K X.prog X.w) := by
  subst e
  intro pn s σ H vs us Q I r h
  obtain ⟨l, xs, rfl, hq, hl, q⟩ := h
  rw [Vals.ref1 r]
  have sb : xs.length + 1 < scanBound := by unfold scanBound; omega
  have go : ∀ (h' : Heap) (tk : Nat), TSet X.prog X.w h' s.heap.objs.size (gather xs.reverse) → (∀ b o, s.heap.get? b = some o → h'.get? b = some o) → (fun v s' => EP X pn σ Q v s') (.ref s.heap.objs.size) { s with heap := h', toks := tk } := fun h' tk R k =>
    ⟨.ref _, upd H s.heap.objs.size (TSetO X.prog X.w s.heap.objs.size (gather xs.reverse)), I.laid (t' := tk) k (Nat.le_refl _) (tset_ok R), rfl, q _ (I.hok.fresh (Nat.le_refl _))⟩
  rcases hq with hq | hq
  · obtain ⟨its, rv, pl, _⟩ := I.list hq
    exact set_list (I.ok.hd hc) pl.isList (by simpa using strsAre_of rv) sb go
  · obtain ⟨its, rv, pl, _⟩ := I.tuple hq
    exact set_tuple (I.ok.hd hc) pl (by simpa using strsAre_of rv) sb go
def rSortX (P : Program) (w : World) : List V → Hp → VK → Prop := fun vs H Q => ∃ (a : Addr) (S : List Str), vs = [.ref a] ∧ H a = some (TSetO P w a S) ∧ S.length < 64 ∧ ∀ ys p, ys.Perm S → sortedS ys = true → H p = none → Q (.ref p) (upd H p (.lst (ys.map V.str)))
theorem k_sortX (hc : X.calm = true) : CallR X (.builtin "sorted") (rSortX X.prog X.w) := by
  intro pn s σ H vs us Q I r h
  obtain ⟨a, S, rfl, ha, few, q⟩ := h
  rw [Vals.ref1 r]
  refine sorted_txt (tset_get I ha) (I.ok.hd hc) few fun t p out c ys k g o hp at_ hs pm srt => ?_
  have hn : H p = none := I.hok.fresh hp
  have hlen : (ys.map V.str).length ≤ sizeLine := by
    rw [List.length_map, pm.length_eq, sizeLine_eq]
    omega
  have J : Inv X pn σ (upd H p (.lst (ys.map V.str))) { s with heap := t.heap, gens := t.gens, drawn := t.drawn, toks := t.toks } :=
    I.call (ch := []) (Un.laid k hp hn) (I.hok.laid k hp ⟨hlen, out.toList, c, vals_of_strs hs, at_⟩) (by rw [g]; exact I.bare) (fun _ z => nomatch z)
  have e : t = { s with heap := t.heap, gens := t.gens, drawn := t.drawn, toks := t.toks } := by
    obtain ⟨a1, a2, a3, a4, a5⟩ := t
    obtain rfl : a5 = s.os := o
    rfl
  rw [e]
  exact ⟨.ref p, _, J, rfl, q ys p pm srt hn⟩
def rLenX (P : Program) (w : World) : List V → Hp → VK → Prop := fun vs H Q => ∃ (a : Addr) (S : List Str), vs = [.ref a] ∧ H a = some (TSetO P w a S) ∧ Q (.int (S.length : Nat)) H
theorem k_lenX : CallR X (.builtin "len") (rLenX X.prog X.w) := by
  intro pn s σ H vs us Q I r h
  obtain ⟨a, S, rfl, ha, q⟩ := h
  rw [Vals.ref1 r]
  obtain ⟨ob, rows, ep, tb, R⟩ := tset_get I ha
  have sz := R.size
  have fw := R.few
  refine call_len_set R.at_ R.ex R.dat R.fits (by unfold scanBound at fw; omega) ⟨.int (S.length : Nat), H, I.tok _, ⟨_, by rw [sz]⟩, q⟩
end
section
variable {K : PySem.W.Frag} {P : Program} {w : World} {H : Hp} {Q : VK} {l : Addr} {xs S : List Str}
theorem r_setXL (h : H l = some (.lst (xs.map V.str))) (hl : xs.length ≤ 4000) (q : ∀ p H2, H p = none → Same H H2 → H2 p = some (TSetO P w p (gather xs.reverse)) → Q (.ref p) H2) : rSetX K P w [.ref l] H Q := ⟨l, xs, rfl, .inl (SqL.of h), hl, fun p hp => q p _ hp (Same.new hp) upd_same⟩
theorem r_setXT (h : H l = some (.tup (xs.map V.str))) (hl : xs.length ≤ 4000) (q : ∀ p H2, H p = none → Same H H2 → H2 p = some (TSetO P w p (gather xs.reverse)) → Q (.ref p) H2) : rSetX K P w [.ref l] H Q := ⟨l, xs, rfl, .inr (SqT.of h), hl, fun p hp => q p _ hp (Same.new hp) upd_same⟩
theorem r_sortX {a : Addr} (h : H a = some (TSetO P w a S)) (hl : S.length < 64) (q : ∀ ys p H2, ys.Perm S → sortedS ys = true → H p = none → Same H H2 → H2 p = some (.lst (ys.map V.str)) → Q (.ref p) H2) : rSortX P w [.ref a] H Q := ⟨a, S, rfl, h, hl, fun ys p pm st hp => q ys p _ pm st hp (Same.new hp) upd_same⟩
end
/-! ### ascending texts -/
def ltS (x y : Str) : Prop := x.cps.toList < y.cps.toList
instance (x y : Str) : Decidable (ltS x y) := inferInstanceAs (Decidable (x.cps.toList < y.cps.toList))
theorem ltS_irr (x : Str) : ¬ ltS x x := fun h => absurd h (by simp [ltS])
theorem ltS_tr {x y z : Str} (a : ltS x y) (b : ltS y z) : ltS x z := List.lt_trans a b
theorem ltS_tot {x y : Str} (a : ¬ ltS x y) (b : ¬ ltS y x) : x = y := TL.ext_tl (List.le_antisymm (List.not_lt.mp b) (List.not_lt.mp a))
/-- each one less than the next one -/
def ascB : List Str → Bool
  | [] => true
  | [_] => true
  | x :: y :: r => decide (ltS x y) && ascB (y :: r)
theorem asc_pair : ∀ {l : List Str}, ascB l = true ↔ l.Pairwise ltS
  | [] => by simp [ascB]
  | [x] => by simp [ascB]
  | x :: y :: r => by
    rw [ascB, Bool.and_eq_true, decide_eq_true_eq, asc_pair (l := y :: r)]
    constructor
    · rintro ⟨h1, h2⟩
      refine List.pairwise_cons.mpr ⟨fun z hz => ?_, h2⟩
      rcases List.mem_cons.mp hz with rfl | hz
      · exact h1
      · exact ltS_tr h1 ((List.pairwise_cons.mp h2).1 z hz)
    · intro h
      obtain ⟨h1, h2⟩ := List.pairwise_cons.mp h
      exact ⟨h1 y List.mem_cons_self, h2⟩
theorem sorted_pair : ∀ {l : List Str}, sortedS l = true → l.Pairwise fun x y => ¬ ltS y x
  | [], _ => .nil
  | [x], _ => List.pairwise_singleton _ x
  | x :: y :: r, h => by
    have h : (!ltCps y.cps.toList x.cps.toList && risingS y r) = true := h
    rw [Bool.and_eq_true, Bool.not_eq_true', ltCps_eq, decide_eq_false_iff_not] at h
    have t := sorted_pair (l := y :: r) h.2
    refine List.pairwise_cons.mpr ⟨fun z hz => ?_, t⟩
    rcases List.mem_cons.mp hz with rfl | hz
    · exact h.1
    · intro c
      have n := (List.pairwise_cons.mp t).1 z hz
      by_cases yz : ltS y z
      · exact h.1 (ltS_tr yz c)
      · have e : y = z := ltS_tot yz n
        rw [← e] at c
        exact h.1 c
theorem nodup_gather : ∀ (l : List Str), (gather l).Nodup
  | [] => .nil
  | x :: l => by
    rw [gather]
    unfold addT
    split
    · exact nodup_gather l
    · rename_i h
      exact List.nodup_cons.mpr ⟨h, nodup_gather l⟩
theorem sorted_nodup {l : List Str} (h : sortedS l = true) (n : l.Nodup) : l.Pairwise ltS := by
  have p := sorted_pair h
  have q : l.Pairwise fun x y => ¬ ltS y x ∧ x ≠ y := List.Pairwise.and p n
  exact q.imp fun {x y} ⟨a, b⟩ => Classical.byContradiction fun c => b (ltS_tot c a)
/-- sorted(set(xs)) == xs where xs ascends -/
theorem asc_sorted {xs ys : List Str} (pm : ys.Perm (gather xs.reverse)) (st : sortedS ys = true) : decide (xs = ys) = ascB xs := by
  have ny : ys.Nodup := pm.nodup_iff.mpr (nodup_gather _)
  have ay := sorted_nodup st ny
  by_cases h : ascB xs = true
  · rw [h, decide_eq_true_eq]
    have ax := asc_pair.mp h
    have nx : xs.Nodup := List.Pairwise.imp (S := fun x y => x ≠ y) (fun {x y} (l : ltS x y) (e : x = y) => ltS_irr x (by rw [← e] at l; exact l)) ax
    have p2 : xs.Perm ys := (List.perm_ext_iff_of_nodup nx ny).mpr fun z => by rw [pm.mem_iff, gather_mem, List.mem_reverse]
    exact List.Perm.eq_of_pairwise (le := ltS) (fun x y _ _ a b => absurd (ltS_tr a b) (ltS_irr x)) ax ay p2
  · rw [Bool.not_eq_true] at h
    rw [h, decide_eq_false_iff_not]
    intro e
    rw [← e] at ay
    rw [asc_pair.mpr ay] at h
    cases h
theorem strs_data {K : PySem.W.Frag} {H : Hp} : ∀ (xs : List Str), DdAll K H (xs.map V.str) (xs.map PyData.str)
  | [] => .nil
  | x :: xs => .cons (.str x) (strs_data xs)
theorem strs_plain (xs : List Str) : PyData.plainAll (xs.map PyData.str) = true := by
  induction xs with
  | nil => rfl
  | cons x xs ih =>
    rw [List.map_cons, PyData.plainAll, ih]
    rfl
theorem strs_depth (xs : List Str) : PyData.depthAll (xs.map PyData.str) = 0 := by
  induction xs with
  | nil => rfl
  | cons x xs ih =>
    rw [List.map_cons, PyData.depthAll, ih]
    rfl
theorem strs_eqv : ∀ (xs ys : List Str), PyData.eqvAll (xs.map PyData.str) (ys.map PyData.str) = decide (xs = ys)
  | [], [] => rfl
  | [], y :: ys => by simp [PyData.eqvAll]
  | x :: xs, [] => by simp [PyData.eqvAll]
  | x :: xs, y :: ys => by
    rw [List.map_cons, List.map_cons, PyData.eqvAll, strs_eqv xs ys, PyData.eqv]
    by_cases h : x = y
    · subst h
      simp
    · have b : (x == y) = false := beq_eq_false_iff_ne.mpr h
      simp [h, b]
/-! ### written tables: a dict from texts to tuples of texts -/
def RowAt (K : PySem.W.Frag) (P : Params) (e : DictEntry) (r : Str × List Str) : Prop := (∃ t, e.key = .str r.1 t ∧ e.hash = PyData.keyHash P r.1) ∧ ∃ (b : Addr), e.val = .ref b ∧ ∃ (o : Obj) (its : Array Value) (n : Nat), K.lookup b = some o ∧ o.cls = .type "tuple" ∧ o.data = .seq its n ∧ its.size ≤ sizeLine ∧ StrsAre its.toList r.2
inductive RowsAt (K : PySem.W.Frag) (P : Params) : List DictEntry → List (Str × List Str) → Prop
  | nil : RowsAt K P [] []
  | cons {e : DictEntry} {es : List DictEntry} {r : Str × List Str} {rs : List (Str × List Str)} : RowAt K P e r → RowsAt K P es rs → RowsAt K P (e :: es) (r :: rs)
def TabK (K : PySem.W.Frag) (P : Params) (D : Addr) (rows : List (Str × List Str)) : Prop := ∃ es n, K.lookup D = some ⟨.type "dict", none, .dict es n, #[]⟩ ∧ (D == sysModules) = false ∧ RowsAt K P es.toList rows
theorem rows_lit {K : PySem.W.Frag} {P : Params} : ∀ {es : List DictEntry} {rows : List (Str × List Str)}, RowsAt K P es rows → PySem.W.KeysLit P es
  | _, _, .nil => trivial
  | _, _, .cons h t => ⟨⟨_, h.1⟩, rows_lit t⟩
theorem vals_strs : ∀ {us : List Value} {xs : List Str}, StrsAre us xs → Vals (xs.map V.str) us
  | _, _, .nil => .nil
  | _, _, .cons x t h => .cons ⟨t, rfl⟩ (vals_strs h)
theorem rows_find {K : PySem.W.Frag} {P : Params} {x : Str} : ∀ {es : List DictEntry} {rows : List (Str × List Str)}, RowsAt K P es rows →
    (∃ f e b, rows.lookup x = some f ∧ es.find? (fun d => Value.isStrOf x d.key) = some e ∧ e.val = .ref b ∧ ∀ H, SqT K H b (f.map V.str)) ∨ (rows.lookup x = none ∧ es.find? (fun d => Value.isStrOf x d.key) = none)
  | _, _, .nil => .inr ⟨rfl, rfl⟩
  | _, _, .cons (e := e) (r := r) (es := es) (rs := rs) h t => by
    obtain ⟨⟨tk, k1, _⟩, b, k2, o, its, n, l1, l2, l3, l4, l5⟩ := h
    obtain ⟨y, f⟩ := r
    have ky : Value.isStrOf x e.key = decide (x = y) := by
      rw [k1]
      show (y == x) = _
      by_cases z : x = y
      · rw [decide_eq_true z, z]; exact beq_self_eq_true y
      · rw [decide_eq_false z]; exact beq_eq_false_iff_ne.mpr fun q => z q.symm
    by_cases z : x = y
    · subst z
      refine .inl ⟨f, e, b, by simp [List.lookup], by rw [List.find?_cons, ky]; simp, k2, fun H => .inr ⟨o, its, n, l1, l2, l3, l4, vals_strs l5⟩⟩
    · have n1 : ((y, f) :: rs).lookup x = rs.lookup x := by
        have : (x == y) = false := beq_eq_false_iff_ne.mpr z
        simp [List.lookup, this]
      have n2 : (e :: es).find? (fun d => Value.isStrOf x d.key) = es.find? (fun d => Value.isStrOf x d.key) := by
        rw [List.find?_cons, ky, decide_eq_false z]
      rw [n1, n2]
      exact rows_find t
theorem tab_find {K : PySem.W.Frag} {P : Params} {D : Addr} {rows : List (Str × List Str)} {es : Array DictEntry} (R : RowsAt K P es.toList rows) (x : Str) : (∃ f b, rows.lookup x = some f ∧ findBy Value.isStrOf es x = some (.ref b) ∧ ∀ H, SqT K H b (f.map V.str)) ∨ (rows.lookup x = none ∧ findBy Value.isStrOf es x = none) := by
  obtain ⟨l⟩ := es
  unfold findBy
  rw [List.find?_toArray]
  rcases rows_find (x := x) R with ⟨f, e, b, h1, h2, h3, h4⟩ | ⟨h1, h2⟩
  · exact .inl ⟨f, b, h1, by rw [h2, ← h3]; rfl, h4⟩
  · exact .inr ⟨h1, by rw [h2]; rfl⟩
def rTabNot (K : PySem.W.Frag) (P : Params) : R2 := fun x y H Q => ∃ D rows z, x = .str z ∧ y = .ref D ∧ TabK K P D rows ∧ Q (.bl (rows.lookup z).isNone) H
def rTabIx (K : PySem.W.Frag) (P : Params) : R2 := fun x y H Q => ∃ D rows z f, x = .ref D ∧ y = .str z ∧ TabK K P D rows ∧ rows.lookup z = some f ∧ ∀ b, (∀ H', SqT K H' b (f.map V.str)) → Q (.ref b) H
section
variable {X : Cx} {K : PySem.W.Frag} {P : Params}
theorem k_tabNot (e : X.K = K := by rfl) (e2 : X.w.params = P := by rfl) : OpR X (compareOp .NotIn) (rTabNot K P) := by
  subst e e2
  intro pn s σ H x y v u Q I rx ry h
  obtain ⟨D, rows, z, rfl, rfl, ⟨es, n, hl, lo, R⟩, q⟩ := h
  obtain ⟨t, rfl⟩ := (show ∃ t, v = Value.str z t from rx)
  obtain rfl : u = Value.ref D := ry
  have hm := PySem.W.mapOf_K (prog := X.prog) (w := X.w) I.kIn hl (rows_lit R)
  refine wpAny_notIn_of (strKind_is X.prog X.w z t) lo hm ?_
  rcases tab_find (D := D) R z with ⟨f, b, h1, h2, _⟩ | ⟨h1, h2⟩
  · rw [h1] at q
    rw [h2]
    exact ⟨.bl false, H, I.tok _, rfl, q⟩
  · rw [h1] at q
    rw [h2]
    exact ⟨.bl true, H, I.tok _, rfl, q⟩
theorem k_tabIx (e : X.K = K := by rfl) (e2 : X.w.params = P := by rfl) : IxR X (rTabIx K P) := by
  subst e e2
  intro value slice pn s σ H x y v u Q I rx ry h hs
  obtain ⟨D, rows, z, f, rfl, rfl, ⟨es, n, hl, lo, R⟩, hf, q⟩ := h
  obtain ⟨t, rfl⟩ := (show ∃ t, u = Value.str z t from ry)
  obtain rfl : v = Value.ref D := rx
  have hm := PySem.W.mapOf_K (prog := X.prog) (w := X.w) I.kIn hl (rows_lit R)
  rcases tab_find (D := D) R z with ⟨f', b, h1, h2, h3⟩ | ⟨h1, h2⟩
  · rw [hf] at h1
    cases h1
    exact tail_any hm.typeIs slot_dict_getitem.lookup (wpAny_getItem_of (strKind_is X.prog X.w z t) hm h2 ⟨.ref b, H, I.tok _, rfl, q b h3⟩) hs
  · rw [hf] at h1
    cases h1
end
/-! ### zip of two tuples -/
theorem walk_zipT {K : PySem.W.Frag} {a b : Addr} {xs ys : List V} {n : Nat} (hn : n = min xs.length ys.length) : Walk (RZ.ItzT K a b) n (fun H => SqT K H a xs ∧ SqT K H b ys) (YPair (fun i => xs[i]?) (fun i => ys[i]?)) := by
  subst hn
  constructor
  · intro i H hi q
    exact ⟨xs, ys, xs[i]'(by omega), ys[i]'(by omega), q.1, q.2, List.getElem?_eq_getElem _, List.getElem?_eq_getElem _⟩
  · exact fun H q => ⟨xs, ys, q.1, q.2, by omega⟩
  · rintro i H v H' _ q ⟨T, x, z, h1, h2, h3, h4, h5⟩
    exact ⟨T, x, z, h1, h2, h3, h4 xs q.1, h5 ys q.2⟩
theorem k_zipA {X : Cx} {K : PySem.W.Frag} {e1 e2 : Expr} {ta : TA} {p pos tpos : Pos} {elts : List Expr} {kk : Nat} (hg : Gl X "zip") (hm : X.mg "zip" = none) (ha : PA X [e1, e2] ta) (e : X.K = K := by rfl)
    (hs : starEach [e1, e2] X.env = (false, eval e1 X.env) :: starEach [e2] X.env := by rfl) (hpl : (backTo pos (starEach [e2] X.env)).any (·.1) = false := by rfl) : PI X (.Tuple elts kk tpos) (.Call (.Name "zip" p) [e1, e2] [] pos) (RZ.iZipA K ta) := by
  subst e
  exact RZ.pi_zipA hg hm ha hs hpl
end Tk

set_option Elab.async false
set_option linter.all false
set_option maxRecDepth 100000
set_option maxHeartbeats 4000000
/-! data whose text is short and plain -/
namespace Tk
open PySem PySem.Spec PyProof.Rows L2
def shownS (x : Str) : Bool := x.cps.toList.all shownB
mutual
/-- no dicts, texts of signs from space to tilde, numbers that are not great -/
def tame : PyData → Bool
  | .none => true
  | .bool _ => true
  | .int i => decide (i = -1) || (decide (0 ≤ i) && decide (i < 10000000000000000))
  | .str x => shownS x
  | .list xs => tameAll xs
  | .tuple xs => tameAll xs
  | .dict _ => false
def tameAll : List PyData → Bool
  | [] => true
  | x :: xs => tame x && tameAll xs
end
mutual
/-- at least the length of its text -/
def wt : PyData → Nat
  | .none => 4
  | .bool _ => 5
  | .int _ => 17
  | .str x => 2 * x.length + 2
  | .list xs => wtAll xs + 2
  | .tuple xs => wtAll xs + 3
  | .dict _ => 2
def wtAll : List PyData → Nat
  | [] => 0
  | x :: xs => (wt x + 2) + wtAll xs
end
theorem shownS_cat {x y : Str} : shownS (x ++ y) = (shownS x && shownS y) := by
  unfold shownS
  rw [show (x ++ y).cps.toList = x.cps.toList ++ y.cps.toList from TL.tl_append x y, List.all_append]
theorem chars_ok : ((List.range 127).filter fun c => decide (32 ≤ c)).all (fun c => [34, 39].all fun q => ((Builtin.Str.reprChar q c).all shownB && decide ((Builtin.Str.reprChar q c).length ≤ 2))) = true := by decide +kernel
theorem char_ok {q c : Nat} (hq : q = 34 ∨ q = 39) (hc : shownB c = true) : (∀ x ∈ Builtin.Str.reprChar q c, shownB x = true) ∧ (Builtin.Str.reprChar q c).length ≤ 2 := by
  unfold shownB at hc
  rw [Bool.and_eq_true, decide_eq_true_eq, decide_eq_true_eq] at hc
  have m : c ∈ (List.range 127).filter fun c => decide (32 ≤ c) := List.mem_filter.mpr ⟨List.mem_range.mpr (by omega), decide_eq_true hc.1⟩
  have h := List.all_eq_true.mp chars_ok c m
  have h2 := List.all_eq_true.mp h q (by rcases hq with rfl | rfl <;> simp)
  rw [Bool.and_eq_true, decide_eq_true_eq] at h2
  exact ⟨fun x hx => List.all_eq_true.mp h2.1 x hx, h2.2⟩
theorem quote_ok (x : Str) : reprQuote x = 34 ∨ reprQuote x = 39 := by
  unfold reprQuote
  split
  · exact .inl rfl
  · exact .inr rfl
theorem fold_ok {q : Nat} (hq : q = 34 ∨ q = 39) : ∀ (l : List Nat) (acc : Array Nat), l.all shownB = true → acc.toList.all shownB = true →
    ((l.foldl (fun out c => out ++ (Builtin.Str.reprChar q c).toArray) acc).toList.all shownB = true ∧ (l.foldl (fun out c => out ++ (Builtin.Str.reprChar q c).toArray) acc).size ≤ acc.size + 2 * l.length)
  | [], acc, _, h => ⟨h, by simp⟩
  | c :: l, acc, hl, h => by
    rw [List.all_cons, Bool.and_eq_true] at hl
    obtain ⟨k1, k2⟩ := char_ok hq hl.1
    have ih := fold_ok hq l (acc ++ (Builtin.Str.reprChar q c).toArray) hl.2 (by rw [Array.toList_append, List.all_append, h]; exact List.all_eq_true.mpr (by simpa using k1))
    refine ⟨ih.1, Nat.le_trans ih.2 ?_⟩
    simp only [Array.size_append, List.size_toArray, List.length_cons]
    have k3 : (Builtin.Str.reprChar q c).length ≤ 2 := k2
    omega
theorem repr_ok {x : Str} (h : shownS x = true) : shownS (reprText x) = true ∧ (reprText x).length ≤ 2 * x.length + 2 := by
  have q1 : shownB (reprQuote x) = true := by rcases quote_ok x with e | e <;> rw [e] <;> rfl
  have f := fold_ok (quote_ok x) x.cps.toList #[reprQuote x] h (by simp [q1])
  unfold reprText shownS
  rw [← Array.foldl_toList]
  refine ⟨?_, ?_⟩
  · show (Array.push _ _).toList.all shownB = true
    rw [Array.toList_push, List.all_append, f.1]
    simp [q1]
  · show (Array.push _ _).size ≤ _
    rw [Array.size_push]
    have e : x.cps.toList.length = x.length := Array.length_toList
    have f2 := f.2
    rw [e] at f2
    have e1 : (#[reprQuote x] : Array Nat).size = 1 := rfl
    omega
theorem from_ok : ∀ (ts : List Str) (k : Nat) (acc : Str), shownS acc = true → (∀ t ∈ ts, shownS t = true) → shownS (textFrom k acc ts) = true ∧ (textFrom k acc ts).length ≤ acc.length + piled ts
  | [], k, acc, h, _ => ⟨h, Nat.le_add_right _ _⟩
  | t :: ts, k, acc, h, ht => by
    have h1 : shownS (acc ++ (if k > 0 then ", " else "" : String) ++ t) = true := by
      rw [shownS_cat, shownS_cat, h, ht t List.mem_cons_self]
      split <;> rfl
    have l1 : (acc ++ (if k > 0 then ", " else "" : String) ++ t).length ≤ acc.length + 2 + t.length := by
      rw [strLen_append, strLen_append]
      split
      · exact Nat.le_refl _
      · show acc.length + 0 + t.length ≤ _
        omega
    have ih := from_ok ts (k + 1) _ h1 fun y hy => ht y (List.mem_cons_of_mem _ hy)
    refine ⟨ih.1, Nat.le_trans ih.2 ?_⟩
    rw [piled_cons]
    omega
theorem join_ok : ∀ (ts : List Str), (∀ t ∈ ts, shownS t = true) → shownS (Str.join ", " ts) = true ∧ (Str.join ", " ts).length ≤ piled ts
  | [], _ => ⟨rfl, Nat.le_refl _⟩
  | [x], h => ⟨h x List.mem_cons_self, by show x.length ≤ _; rw [piled_cons]; omega⟩
  | x :: y :: r, h => by
    have ih := join_ok (y :: r) fun t ht => h t (List.mem_cons_of_mem _ ht)
    refine ⟨?_, ?_⟩
    · show shownS (x ++ ", " ++ Str.join ", " (y :: r)) = true
      rw [shownS_cat, shownS_cat, h x List.mem_cons_self, ih.1]
      rfl
    · show (x ++ ", " ++ Str.join ", " (y :: r)).length ≤ _
      rw [strLen_append, strLen_append, piled_cons]
      have e : ((", " : String) : Str).length = 2 := rfl
      have := ih.2
      omega
theorem int_ok {i : Int} (h : (decide (i = -1) || (decide (0 ≤ i) && decide (i < 10000000000000000))) = true) : shownS (toString i : String) = true ∧ (Str.ofString (toString i)).length ≤ 17 ∧ i.natAbs.log2 < 1920 := by
  rw [Bool.or_eq_true, decide_eq_true_eq, Bool.and_eq_true, decide_eq_true_eq, decide_eq_true_eq] at h
  rcases h with rfl | ⟨h0, h1⟩
  · exact ⟨by decide +kernel, by decide +kernel, by decide⟩
  · obtain ⟨n, rfl⟩ := Int.eq_ofNat_of_zero_le h0
    have e : (Str.ofString (toString ((n : Nat) : Int))).cps.toList = TL.numL n := TL.tl_num n
    refine ⟨?_, ?_, Nat.lt_of_lt_of_le (PySem.Flt.log2_lt_of (k := 60) (by decide) (by show ((n : Nat) : Int).natAbs < 2 ^ 60; omega)) (by decide)⟩
    · unfold shownS
      rw [e]
      refine List.all_eq_true.mpr fun c hc => ?_
      have := TL.numL_digits n c hc
      unfold shownB
      rw [Bool.and_eq_true, decide_eq_true_eq, decide_eq_true_eq]
      omega
    · have l := TL.numL_len (n := n) (k := 16) (by decide) (by omega)
      rw [← e, Array.length_toList] at l
      exact Nat.le_trans l (by decide)
theorem piled_wt : ∀ {ds : List PyData}, (∀ d ∈ ds, d.shown.length ≤ wt d) → piled (PyData.shownAll ds) ≤ wtAll ds
  | [], _ => Nat.le_refl _
  | d :: ds, h => by
    have ih := piled_wt (ds := ds) fun x hx => h x (List.mem_cons_of_mem _ hx)
    have := h d List.mem_cons_self
    rw [PyData.shownAll, piled_cons, wtAll]
    omega
theorem list_ok {ts : List Str} (h : ∀ t ∈ ts, shownS t = true) : shownS (listText ts) = true ∧ (listText ts).length ≤ piled ts + 2 := by
  have f := from_ok ts 0 "[" rfl h
  refine ⟨?_, ?_⟩
  · show shownS (textFrom 0 "[" ts ++ "]") = true
    rw [shownS_cat, f.1]
    rfl
  · show (textFrom 0 "[" ts ++ "]").length ≤ _
    rw [strLen_append]
    have e1 : (("[" : String) : Str).length = 1 := rfl
    have e2 : (("]" : String) : Str).length = 1 := rfl
    have := f.2
    omega
theorem tuple_ok {ts : List Str} (h : ∀ t ∈ ts, shownS t = true) : shownS (tupleText ts) = true ∧ (tupleText ts).length ≤ piled ts + 3 := by
  have f := join_ok ts h
  unfold tupleText
  have e1 : (("(" : String) : Str).length = 1 := rfl
  refine ⟨?_, ?_⟩
  · rw [shownS_cat, shownS_cat, f.1]
    split <;> rfl
  · rw [strLen_append, strLen_append]
    have := f.2
    have e2 : ((if ts.length == 1 then ",)" else ")" : String) : Str).length ≤ 2 := by split <;> decide
    omega
mutual
theorem shown_ok : ∀ (d : PyData), tame d = true → shownS d.shown = true ∧ d.shown.length ≤ wt d ∧ d.showable = true ∧ d.hasDict = false ∧ d.plain = true
  | .none, _ => ⟨by decide +kernel, by decide, rfl, rfl, rfl⟩
  | .bool b, _ => by cases b <;> exact ⟨by decide +kernel, by decide, rfl, rfl, rfl⟩
  | .int i, h => by
    obtain ⟨h1, h2, h3⟩ := int_ok h
    exact ⟨h1, h2, decide_eq_true h3, rfl, rfl⟩
  | .str x, h => by
    obtain ⟨h1, h2⟩ := repr_ok h
    exact ⟨h1, h2, rfl, rfl, rfl⟩
  | .list xs, h => by
    obtain ⟨h1, h2, h3, h4, h5⟩ := shown_all xs h
    obtain ⟨k1, k2⟩ := list_ok h1
    exact ⟨k1, by show (listText (PyData.shownAll xs)).length ≤ wtAll xs + 2; omega, h3, h4, h5⟩
  | .tuple xs, h => by
    obtain ⟨h1, h2, h3, h4, h5⟩ := shown_all xs h
    obtain ⟨k1, k2⟩ := tuple_ok h1
    exact ⟨k1, by show (tupleText (PyData.shownAll xs)).length ≤ wtAll xs + 3; omega, h3, h4, h5⟩
  | .dict _, h => nomatch h
theorem shown_all : ∀ (ds : List PyData), tameAll ds = true → (∀ t ∈ PyData.shownAll ds, shownS t = true) ∧ piled (PyData.shownAll ds) ≤ wtAll ds ∧ PyData.showableAll ds = true ∧ PyData.hasDictAll ds = false ∧ PyData.plainAll ds = true
  | [], _ => ⟨(fun t h => by cases h), Nat.le_refl _, rfl, rfl, rfl⟩
  | d :: ds, h => by
    have h : (tame d && tameAll ds) = true := h
    rw [Bool.and_eq_true] at h
    obtain ⟨a1, a2, a3, a4, a5⟩ := shown_ok d h.1
    obtain ⟨b1, b2, b3, b4, b5⟩ := shown_all ds h.2
    refine ⟨fun t ht => ?_, ?_, ?_, ?_, ?_⟩
    · rcases List.mem_cons.mp ht with rfl | ht
      · exact a1
      · exact b1 t ht
    · rw [PyData.shownAll, piled_cons, wtAll]
      omega
    · rw [PyData.showableAll, a3, b3]; rfl
    · rw [PyData.hasDictAll, a4, b4]; rfl
    · rw [PyData.plainAll, a5, b5]; rfl
end
theorem len_wt : ∀ (ds : List PyData), 2 * ds.length ≤ wtAll ds
  | [] => Nat.le_refl _
  | d :: ds => by
    have := len_wt ds
    rw [List.length_cons, wtAll]
    omega
mutual
theorem okD_wt : ∀ (d : PyData), wt d ≤ 100000 → okD d
  | .none, _ => trivial
  | .bool _, _ => trivial
  | .int _, _ => trivial
  | .str x, h => by
    have h : 2 * x.length + 2 ≤ 100000 := h
    show x.length ≤ 100000
    omega
  | .list xs, h => by
    have h : wtAll xs + 2 ≤ 100000 := h
    have := len_wt xs
    exact ⟨by omega, okAll_wt xs (by omega)⟩
  | .tuple xs, h => by
    have h : wtAll xs + 3 ≤ 100000 := h
    have := len_wt xs
    exact ⟨by omega, okAll_wt xs (by omega)⟩
  | .dict _, _ => trivial
theorem okAll_wt : ∀ (ds : List PyData), wtAll ds ≤ 100000 → okAll ds
  | [], _ => trivial
  | d :: ds, h => by
    rw [wtAll] at h
    exact ⟨okD_wt d (by omega), okAll_wt ds (by omega)⟩
end
/-- short and plain -/
structure Good (d : PyData) : Prop where
  tame : tame d = true
  wt : wt d ≤ 20000
  deep : d.depth ≤ 50
theorem Good.ok {d : PyData} (g : Good d) : okD d := okD_wt d (Nat.le_trans g.wt (by decide))
theorem Good.shows {d : PyData} (g : Good d) : Shows d := by
  obtain ⟨h1, h2, h3, h4, h5⟩ := shown_ok d g.tame
  exact ⟨.inl h4, h3, Nat.le_trans h2 (Nat.le_trans g.wt (by decide)), Nat.le_trans g.deep (by decide)⟩
theorem Good.plain {d : PyData} (g : Good d) : d.plain = true := (shown_ok d g.tame).2.2.2.2
/-- its text, within a list -/
theorem Good.told {d : PyData} (g : Good d) : Shows (.list [.str d.shown, .bool true]) := by
  obtain ⟨h1, h2, _⟩ := shown_ok d g.tame
  have t : Tk.tame (.list [.str d.shown, .bool true]) = true := by
    show (shownS d.shown && (true && true)) = true
    rw [h1]
    rfl
  obtain ⟨_, k2, k3, k4, _⟩ := shown_ok _ t
  have w : Tk.wt (.list [.str d.shown, .bool true]) = ((2 * d.shown.length + 2) + 2 + ((5 + 2) + 0)) + 2 := rfl
  have := g.wt
  exact ⟨.inl k4, k3, by omega, by show max 0 (max 0 0) + 1 ≤ 60; decide⟩
theorem tameAll_iff : ∀ {ds : List PyData}, tameAll ds = true ↔ ∀ d ∈ ds, tame d = true
  | [] => by simp [tameAll]
  | d :: ds => by
    rw [tameAll, Bool.and_eq_true, tameAll_iff (ds := ds)]
    simp
theorem wtAll_le {n : Nat} : ∀ {ds : List PyData}, (∀ d ∈ ds, wt d ≤ n) → wtAll ds ≤ ds.length * (n + 2)
  | [], _ => by simp [wtAll]
  | d :: ds, h => by
    have ih := wtAll_le (ds := ds) fun x hx => h x (List.mem_cons_of_mem _ hx)
    have := h d List.mem_cons_self
    rw [wtAll, List.length_cons, Nat.succ_mul]
    omega
theorem depthAll_le {n : Nat} : ∀ {ds : List PyData}, (∀ d ∈ ds, d.depth ≤ n) → PyData.depthAll ds ≤ n
  | [], _ => Nat.zero_le _
  | d :: ds, h => by
    have ih := depthAll_le (ds := ds) fun x hx => h x (List.mem_cons_of_mem _ hx)
    have := h d List.mem_cons_self
    rw [PyData.depthAll]
    omega
/-- an item: short -/
structure Itm (d : PyData) : Prop where
  tame : tame d = true
  wt : wt d ≤ 120
  deep : d.depth ≤ 3
theorem good_tuple {ds : List PyData} (h : ∀ d ∈ ds, Itm d) (hl : ds.length ≤ 60) : Good (.tuple ds) := by
  have a := wtAll_le fun d hd => (h d hd).wt
  have b := depthAll_le fun d hd => (h d hd).deep
  have m := Nat.mul_le_mul_right (120 + 2) hl
  exact ⟨tameAll_iff.mpr fun d hd => (h d hd).tame, by show wtAll ds + 3 ≤ _; omega, by show PyData.depthAll ds + 1 ≤ _; omega⟩
theorem good_list {ds : List PyData} (h : ∀ d ∈ ds, Itm d) (hl : ds.length ≤ 60) : Good (.list ds) := by
  have a := wtAll_le fun d hd => (h d hd).wt
  have b := depthAll_le fun d hd => (h d hd).deep
  have m := Nat.mul_le_mul_right (120 + 2) hl
  exact ⟨tameAll_iff.mpr fun d hd => (h d hd).tame, by show wtAll ds + 2 ≤ _; omega, by show PyData.depthAll ds + 1 ≤ _; omega⟩
theorem Itm.good {d : PyData} (i : Itm d) : Good d := ⟨i.tame, Nat.le_trans i.wt (by decide), Nat.le_trans i.deep (by decide)⟩
/-- by counting -/
def itmB (d : PyData) : Bool := tame d && (decide (wt d ≤ 120) && decide (d.depth ≤ 3))
theorem itm_of {d : PyData} (h : itmB d = true) : Itm d := by
  unfold itmB at h
  rw [Bool.and_eq_true, Bool.and_eq_true, decide_eq_true_eq, decide_eq_true_eq] at h
  exact ⟨h.1, h.2.1, h.2.2⟩
theorem itm_all {ds : List PyData} (h : ds.all itmB = true) {d : PyData} (m : d ∈ ds) : Itm d := itm_of (List.all_eq_true.mp h d m)
end Tk

set_option Elab.async false
set_option linter.all false
set_option maxRecDepth 100000
set_option maxHeartbeats 4000000
/-! events as data -/
namespace Tk
open PySem PySem.Spec PyProof.Rows L2
def indexD : PyData → Bool
  | .int i => decide (0 ≤ i) && decide (i ≤ 1000000000000000)
  | _ => false
def txtD : PyData → Str
  | .str x => x
  | _ => Str.empty
def ascD : PyData → Bool
  | .tuple ds => ds.all wordD && ascB (ds.map txtD)
  | _ => false
def kindD (k : Str) (d : PyData) : Bool :=
  if k = "word" then wordD d else if k = "value" then valueD d else if k = "number" then numD d else if k = "index" then indexD d else noneD d || ascD d
def formsT : List (Str × List Str) := [("write", ["word", "word", "value"]), ("delete", ["word", "word"]), ("pass", ["word", "number"]), ("send", ["word", "word", "keys"]), ("take", ["word", "word", "index"]), ("save", ["word"]), ("crash", ["word"]),
  ("keep", ["word", "word"]), ("restore", ["word", "word"]), ("discard", ["word", "word"]), ("forget", ["word", "word"]), ("leave", ["word"]), ("come", ["word"]), ("mute", ["word", "word"]), ("shut", ["word", "word"]), ("open", ["word", "word"]), ("drop", ["word", "word"])]
def partsD : List Str → List PyData → Bool
  | [], [] => true
  | k :: ks, d :: ds => kindD k d && partsD ks ds
  | _, _ => false
def eventD : PyData → Bool
  | .tuple (.str x :: rest) => wordS x && (match formsT.lookup x with | some f => partsD f rest | none => false)
  | _ => false
def guardD : PyData → Bool
  | .tuple (.str x :: _) => x == "open" || x == "drop"
  | _ => false
/-- no tuple of more than sixty -/
def fewD : PyData → Prop
  | .tuple es => es.length ≤ 60
  | _ => True
def fewI : PyData → Prop
  | .tuple ds => ∀ x ∈ ds, fewD x
  | _ => True
theorem few_wt {d : PyData} (h : wt d ≤ 120) : fewD d := by
  cases d with
  | tuple es =>
    have h : wtAll es + 3 ≤ 120 := h
    have := len_wt es
    show es.length ≤ 60
    omega
  | _ => trivial
theorem few_items {ds : List PyData} (h : ∀ d ∈ ds, Itm d) : fewI (.tuple ds) := fun x hx => few_wt (h x hx).wt
theorem partsD_len : ∀ {f : List Str} {ds : List PyData}, partsD f ds = true → ds.length = f.length
  | [], [], _ => rfl
  | k :: ks, d :: ds, h => by
    rw [partsD, Bool.and_eq_true] at h
    rw [List.length_cons, List.length_cons, partsD_len h.2]
  | [], _ :: _, h => nomatch h
  | _ :: _, [], h => nomatch h
theorem eventD_no {d : PyData} (h : ∀ ds, d ≠ .tuple ds) : eventD d = false := by
  cases d with
  | tuple x => exact absurd rfl (h x)
  | _ => rfl
/-- of a value: is it a word -/
def wordV : V → Bool
  | .str x => wordS x
  | _ => false
theorem wordV_is {K : PySem.W.Frag} {H : Hp} {v : V} {d : PyData} (h : Dd K H v d) : wordV v = wordD d := by
  cases h <;> rfl
theorem words_strs {K : PySem.W.Frag} {H : Hp} : ∀ {xs : List V} {ds : List PyData}, DdAll K H xs ds → ds.all wordD = true → ∃ ys : List Str, xs = ys.map V.str ∧ ds = ys.map PyData.str
  | _, _, .nil, _ => ⟨[], rfl, rfl⟩
  | _, _, .cons (v := v) (d := d) h t, a => by
    rw [List.all_cons, Bool.and_eq_true] at a
    obtain ⟨ys, e1, e2⟩ := words_strs t a.2
    cases h with
    | str x => exact ⟨x :: ys, by rw [e1]; rfl, by rw [e2]; rfl⟩
    | _ => exact absurd a.1 (by simp [wordD])
theorem words_all {K : PySem.W.Frag} {H : Hp} : ∀ {xs : List V} {ds : List PyData}, DdAll K H xs ds → xs.map wordV = ds.map wordD
  | _, _, .nil => rfl
  | _, _, .cons h t => by rw [List.map_cons, List.map_cons, words_all t, wordV_is h]
theorem txt_strs (ys : List Str) : (ys.map PyData.str).map txtD = ys := by
  rw [List.map_map]
  exact (List.map_congr_left fun _ _ => rfl).trans (List.map_id _)
/-- a comprehension over a tuple that only makes new things -/
theorem lc_tupP {K : PySem.W.Frag} {T : Addr} {xs : List V} {s : Nat} {te : TE} {σ : L2.St} {H1 : Hp} {Qd : VK} (e : H1 T = some (.tup xs)) (hn : xs.length ≤ 100000) (f : V → V)
    (he : ∀ x ∈ xs, ∀ (H2 : Hp) (R : VK), Same H1 H2 → (∀ H3, Same H2 H3 → R (f x) H3) → te (σ.set s (some x)) H2 R) (hd : ∀ (D : Addr) (H' : Hp), H1 D = none → Same H1 H' → H' D = some (.lst (xs.map f)) → Qd (.ref D) H') :
    LcG (Itt K T) (gName s) tYes te [s] σ H1 Qd := by
  refine lc_pure walk_tup (fun H' s' => SqT.of (s' _ _ e)) hn (fun _ => true) f (fun x _ H2 R s2 q => q H2 (Same.refl H2)) (fun x hx _ => he x hx) (fun D H' h0 s' e' => hd D H' h0 s' ?_)
  rw [e', filt_true]
theorem r_zipA {K : PySem.W.Frag} {ta : TA} {σ : L2.St} {H : Hp} {R : It → Hp → Prop} (h : ta σ H fun vs H1 => ∃ a b xs ys, vs = [.ref a, .ref b] ∧ ((SqL K H1 a xs ∧ SqL K H1 b ys ∧ R (Itz K a b) H1) ∨ (SqT K H1 a xs ∧ SqT K H1 b ys ∧ R (RZ.ItzT K a b) H1))) : RZ.iZipA K ta σ H R := h
/-- a comprehension over zip of two tuples of one length -/
theorem lc_zip {K : PySem.W.Frag} {a b : Addr} {xs ys : List V} {s1 s2 : Nat} (hne : s1 ≠ s2) {te : TE} {σ : L2.St} {H1 : Hp} {Qd : VK} (rs : List V) (hl : xs.length = rs.length) (hl2 : ys.length = rs.length) (hn : rs.length ≤ 100000) (ha : ∀ H', Same H1 H' → SqT K H' a xs) (hb : ∀ H', Same H1 H' → SqT K H' b ys)
    (he : ∀ (i : Nat) (x y r : V), xs[i]? = some x → ys[i]? = some y → rs[i]? = some r → ∀ (H2 : Hp) (R : VK), Same H1 H2 → (∀ H3, Same H2 H3 → R r H3) → te ((σ.set s1 (some x)).set s2 (some y)) H2 R)
    (hd : ∀ (D : Addr) (H' : Hp), H1 D = none → Same H1 H' → H' D = some (.lst rs) → Qd (.ref D) H') :
    LcG (RZ.ItzT K a b) (gTup K 2 (gCons (gName s1) (gCons (gName s2) gNil))) tYes te [s1, s2] σ H1 Qd := by
  intro D hD
  refine lc_it (Qd := fun H' => Qd (.ref D) H') (walk_zipT (n := rs.length) (by omega)) (fun i H' => Same H1 H' ∧ H' D = some (.lst (rs.take i))) ⟨Same.new hD, upd_same⟩ (fun i H' _ p => ⟨ha H' p.1, hb H' p.1⟩) ?_ (fun H' p => hd D H' hD p.1 (by rw [p.2, List.take_length]))
  rintro i v H2 H2' hi ⟨p1, p2⟩ ⟨T, x, y, rfl, hT, rfl, hx, hy⟩
  have hr : rs[i]? = some rs[i] := List.getElem?_eq_getElem hi
  refine ⟨T, [x, y], rfl, SqT.of upd_same, rfl, x, [y], rfl, y, [], rfl, rfl, ?_, ?_⟩
  · show wipe (((wipe σ [s1, s2]).set s1 (some x)).set s2 (some y)) [s1, s2] = wipe σ [s1, s2]
    simp only [wipe]
    apply List.ext_getElem?
    intro j
    simp only [List.getElem?_set, List.length_set]
    by_cases h1 : s1 = j <;> by_cases h2 : s2 = j <;> simp [h1, h2]
  · have e1 : ((wipe σ [s1, s2]).set s1 (some x)).set s2 (some y) = (σ.set s1 (some x)).set s2 (some y) := by
      simp only [wipe]
      apply List.ext_getElem?
      intro j
      simp only [List.getElem?_set, List.length_set]
      by_cases h1 : s1 = j <;> by_cases h2 : s2 = j <;> simp [h1, h2]
    simp only [tYes, reduceIte]
    rw [e1]
    refine he i x y _ hx hy hr _ _ (p1.trans (Same.new hT)) fun H3 s3 => ?_
    have e4 := s3 _ _ (Same.new (o := .tup [x, y]) hT _ _ p2)
    refine ⟨_, e4, sz_lt (by rw [List.length_take]; omega), Same.mut ((p1.trans (Same.new hT)).trans s3) hD, ?_⟩
    rw [upd_same, List.take_add_one, hr]
    rfl
end Tk

set_option Elab.async false
set_option linter.all false
set_option maxRecDepth 100000
set_option maxHeartbeats 4000000
/-! t[::-1] of tuples; comprehensions over ranges; filters of data -/
namespace Tk
open PySem PySem.Spec PyProof.Rows L2
section
variable {P : Program} {w : World} {A : Around} {E : Value → Shared → Prop} {s : Shared}
theorem places_back (n : Nat) : Builtin.Slice.slicePlaces ((n : Int) - 1) (-1) (-1) = n := by
  unfold Builtin.Slice.slicePlaces
  have h1 : ¬ ((-1 : Int) > 0) := by decide
  simp only [h1, if_false]
  split
  · have e : ((n : Int) - 1 - -1 - 1) / (- -1) = (n : Int) - 1 := by
      rw [show (- -1 : Int) = 1 by decide, Int.ediv_one]
      omega
    omega
  · omega
theorem applied_back {sl : Addr} {vl vu vs : Value} {n : Nat} {Q : Int × Int × Nat → Shared → Prop} (hs : s.heap.IsSliceOf sl vl vu vs) (pl : IsPart vl none) (pu : IsPart vu none) (ps : IsPart vs (some (-1))) (h : Q ((n : Int) - 1, -1, n) s) :
    wpAny (model P w) A (Builtin.Slice.sliceApplied (.ref sl) (pure (n : Int))) Q E s := by
  obtain ⟨os, ho, hc, hd⟩ := id hs
  unfold Builtin.Slice.sliceApplied Builtin.Slice.sliceFields
  refine wpAny_bind (wpAny_bind (wpAny_field ho hd (x := vl) rfl (wpAny_bind (wpAny_field ho hd (x := vu) rfl (wpAny_bind (wpAny_field ho hd (x := vs) rfl (wpAny_pure ?_)))))))
  refine wpAny_bind (HT.slicePart_ ps ?_)
  show wpAny _ _ (if ((-1 : Int) == 0) = true then _ else _) _ _ s
  rw [if_neg (by decide)]
  refine wpAny_bind (HT.slicePart_ pl (wpAny_bind (HT.slicePart_ pu (wpAny_bind (wpAny_pure ?_)))))
  show wpAny _ _ (match Builtin.Slice.sliceAdjust none none (-1) (n : Int) with | (lo, hi) => pure (lo, (-1 : Int), Builtin.Slice.slicePlaces lo hi (-1))) _ _ s
  have e : Builtin.Slice.sliceAdjust none none (-1) (n : Int) = ((n : Int) - 1, -1) := by
    unfold Builtin.Slice.sliceAdjust
    rfl
  rw [e]
  show wpAny _ _ (pure ((n : Int) - 1, (-1 : Int), Builtin.Slice.slicePlaces ((n : Int) - 1) (-1) (-1))) _ _ s
  rw [places_back]
  exact wpAny_pure h
theorem filterMap_some {α β : Type} {f : α → Option β} {g : α → β} : ∀ {l : List α}, (∀ m ∈ l, f m = some (g m)) → l.filterMap f = l.map g
  | [], _ => rfl
  | a :: l, h => by
    rw [List.filterMap_cons, h a List.mem_cons_self, List.map_cons, filterMap_some fun m hm => h m (List.mem_cons_of_mem _ hm)]
theorem pick_back (l : List Value) : ((List.range l.length).filterMap fun (m : Nat) => l.toArray[(((l.length : Int) - 1) + (m : Int) * (-1)).toNat]?) = l.reverse := by
  apply List.ext_getElem?
  intro i
  have e : ∀ m, m ∈ List.range l.length → l.toArray[(((l.length : Int) - 1) + (m : Int) * (-1)).toNat]? = some (l.reverse.getD m .none) := fun m hm => by
    have lt := List.mem_range.mp hm
    have q : (((l.length : Int) - 1) + (m : Int) * (-1)).toNat = l.length - 1 - m := by omega
    rw [q, List.getElem?_toArray, List.getD_eq_getElem?_getD, List.getElem?_reverse lt]
    rw [List.getElem?_eq_getElem (by omega)]
    rfl
  have e2 : (List.range l.length).filterMap (fun (m : Nat) => l.toArray[(((l.length : Int) - 1) + (m : Int) * (-1)).toNat]?) = (List.range l.length).map fun m => l.reverse.getD m .none := filterMap_some e
  rw [e2, List.getElem?_map]
  by_cases h : i < l.length
  · rw [List.getElem?_range h]
    show some (l.reverse.getD i .none) = _
    rw [List.getD_eq_getElem?_getD, List.getElem?_eq_getElem (by simpa using h)]
    rfl
  · rw [List.getElem?_eq_none (by simpa using h), List.getElem?_eq_none (by simpa using h)]
    rfl
theorem getItem_back {t sl : Addr} {items : Array Value} {vl vu vs : Value} {Q : Value → Shared → Prop} (ht : IsTup s.heap t items) (hs : s.heap.IsSliceOf sl vl vu vs) (pl : IsPart vl none) (pu : IsPart vu none) (ps : IsPart vs (some (-1)))
    (h : Q (.ref s.heap.objs.size) { s with heap := s.heap.push { cls := .type "tuple", data := .seq items.toList.reverse.toArray } }) (hsz : items.size ≤ sizeLine) : wpAny (model P w) A (getItem (.ref t) (.ref sl)) Q E s := by
  have hz : sizeOk (.seq items.toList.reverse.toArray) := by
    show items.toList.reverse.toArray.size ≤ sizeLine
    simpa using hsz
  obtain ⟨os, ho, hc, hd⟩ := id hs
  have hT : s.TypeIs (.ref sl) "slice" := ⟨os, ho, hc⟩
  unfold getItem
  try with_reducible refine wpAny_holding ?_
  first | refine wpAny_bind (wpAny_pure ?_) | skip
  refine wpAny_bind (wpAny_sequenceKey ht.typeIs (by decide) ?_)
  refine wpAny_bind (wpAny_callSpecial?_slot (name := Str.ofString "__getitem__") ht.typeIs PyProof.Rows.slot_tuple_getitem (wpAny_call_entry PyProof.Rows.slot_tuple_getitem ht.typeIs entry_tuple_getitem ?_ (args_tuple_getitem _ _)))
  show wpAny _ _ (Builtin.Tuple.tupleItemsOf (.ref t) >>= _) _ _ s
  refine wpAny_bind (tupleItemsOf_ ht (wpAny_bind (wpAny_typeOf hT ?_)))
  rw [if_pos (by decide)]
  refine wpAny_bind (applied_back hs pl pu ps ?_)
  show wpAny _ _ (if (((items.size : Int) - 1 == 0) && (-1 : Int) == 1 && items.size == items.size) = true then _ else _) _ _ s
  rw [if_neg (by simp)]
  obtain ⟨l⟩ := items
  have e := pick_back l
  have e' : ((List.range (List.toArray l).size).filterMap fun (m : Nat) => (List.toArray l)[((((List.toArray l).size : Int) - 1) + (m : Int) * (-1)).toNat]?) = l.reverse := by
    rw [List.size_toArray]
    exact e
  rw [e']
  first
    | exact wpAny_bind (m := Builtin.Tuple.tupleExact _) (wpAny_newObj_type (wpAny_pure ⟨_, rfl, wpAny_pure h⟩) hz)
    | exact wpAny_bind (m := Builtin.Tuple.tupleExact _) (wpAny_newObj_type (wpAny_bind (wpAny_pure (wpAny_pure ⟨_, rfl, wpAny_pure h⟩))) hz)
    | exact wpAny_bind (wpAny_bind (m := Builtin.Tuple.tupleExact _) (wpAny_newObj_type (wpAny_pure (wpAny_pure ⟨_, rfl, wpAny_pure h⟩)) hz))
    | exact wpAny_bind (wpAny_bind (m := Builtin.Tuple.tupleExact _) (wpAny_newObj_type (wpAny_pure ⟨_, rfl, wpAny_pure h⟩) hz))
end
/-- t[::-1] -/
def tRevT (K : PySem.W.Frag) (te : TE) : TE := fun σ H Q => te σ H fun x H1 => ∃ a xs, x = .ref a ∧ SqT K H1 a xs ∧ ∀ p, H1 p = none → Q (.ref p) (upd H1 p (.tup xs.reverse))
theorem pe_revT {X : Cx} {e : Expr} {te : TE} {k : Nat} {p1 p2 p3 pos : Pos} (he : PE X e te) : PE X (.Subscript e (.Slice none none (some (.UnaryOp .USub (.Constant (.int 1) k p1) p2)) p3) pos) (tRevT X.K te) := by
  refine ⟨fun pn s σ H Q I h => ?_⟩
  refine Subscript_ (thn (he.run pn s σ H _ I h) fun v s1 ⟨x, H1, I1, r1, q1⟩ => ?_)
  obtain ⟨a, xs, rfl, hx, q⟩ := q1
  cases r1
  have hst : PO X (some (.UnaryOp .USub (.Constant (.int 1) k p1) p2)) (tPart (tUn (rU fun i => .int (-i)) (tC (.int 1)))) := po_some (pe_un un_neg pe_int)
  refine wpAny_Slice (thn (po_none.run pn s1 σ H1 (fun o H2 => o = none ∧ H2 = H1) I1 ⟨rfl, rfl⟩) fun vl s2 ⟨l, H2, I2, pl, el, e2⟩ => ?_)
  subst el
  subst e2
  refine thn (po_none.run pn s2 σ H2 (fun o H3 => o = none ∧ H3 = H2) I2 ⟨rfl, rfl⟩) fun vu s3 ⟨u, H3, I3, pu, eu, e3⟩ => ?_
  subst eu
  subst e3
  refine thn (hst.run pn s3 σ H3 (fun o H4 => o = some (-1) ∧ H4 = H3) I3 ⟨1, rfl, -1, rfl, rfl, rfl⟩) fun vs s4 ⟨o, H4, I4, ps, eo, e4⟩ => ?_
  subst eo
  subst e4
  have I5 : Inv X pn σ H4 { s4 with heap := s4.heap.push { cls := .type "slice", data := .fields #[vl, vu, vs] } } := I4.kept (t' := s4.toks) fun b ob q => Heap.get?_push_of_some _ q
  obtain ⟨its, r, ht, hz⟩ := I5.tuple hx
  have hlen := r.length
  show wpAny (model X.prog X.w) X.A (subscriptTail e (.Slice none none (some (.UnaryOp .USub (.Constant (.int 1) k p1) p2)) p3) (.ref a) (.ref s4.heap.objs.size)) (EP X pn σ Q) X.xe _
  refine tail_any (ops := [.ref a, .ref s4.heap.objs.size]) ht.typeIs (PyProof.Rows.slot_tuple_getitem.lookup) ?_ (by with_unfolding_all rfl)
  refine getItem_back ht (Heap.IsSliceOf.new _ vl vu vs) pl pu ps ?_ (by rw [List.size_toArray]; omega)
  refine ⟨.ref _, _, I5.laid (t' := s4.toks) (o := .tup xs.reverse) (fun b ob q => Heap.get?_push_of_some _ q) (Nat.le_refl _) ?_, rfl, q _ (I5.hok.fresh (Nat.le_refl _))⟩
  exact ⟨by rw [List.length_reverse]; exact hz, _, r.reverse, IsTup.new _ _⟩
theorem r_revT {K : PySem.W.Frag} {te : TE} {σ : L2.St} {H : Hp} {Q : VK} (h : te σ H fun x H1 => ∃ a xs, x = .ref a ∧ SqT K H1 a xs ∧ ∀ p, H1 p = none → Q (.ref p) (upd H1 p (.tup xs.reverse))) : tRevT K te σ H Q := h
/-! ### a comprehension over a range that only makes new things -/
def rngV (lo : Int) (n : Nat) : List V := (List.range n).map fun (i : Nat) => V.int (lo + (i : Int))
theorem walk_rng {lo : Int} {n : Nat} : Walk (Itr lo n) (rngV lo n).length (fun _ => True) (YAt (rngV lo n)) := by
  have e : (rngV lo n).length = n := by unfold rngV; simp
  rw [e]
  refine Walk.mono walk_range (fun _ h => h) fun i H x H' hi _ y => ⟨y.1, ?_⟩
  unfold rngV
  rw [List.getElem?_map, List.getElem?_range hi, y.2]
  rfl
theorem r_rng2 {ta : TA} {σ : L2.St} {H : Hp} {R : It → Hp → Prop} (h : ta σ H fun vs H1 => ∃ i j : Int, vs = [.int i, .int j] ∧ (-(2 ^ 62) ≤ i ∧ i < 2 ^ 62 ∧ -(2 ^ 62) ≤ j ∧ j < 2 ^ 62) ∧ R (Itr i (j - i).toNat) H1) : iRng2 ta σ H R := h
theorem r_ij {i j : Int} {P : Int → Int → Prop} (h1 : -(2 ^ 62) ≤ i ∧ i < 2 ^ 62 ∧ -(2 ^ 62) ≤ j ∧ j < 2 ^ 62) (q : P i j) : ∃ i' j', [V.int i, V.int j] = [V.int i', V.int j'] ∧ (-(2 ^ 62) ≤ i' ∧ i' < 2 ^ 62 ∧ -(2 ^ 62) ≤ j' ∧ j' < 2 ^ 62) ∧ P i' j' := ⟨i, j, rfl, h1, q⟩
/-! ### filters of data -/
theorem DdAll.filter {K : PySem.W.Frag} {H : Hp} {gv : V → Bool} {gd : PyData → Bool} (hg : ∀ v d, Dd K H v d → gv v = gd d) : ∀ {vs : List V} {ds : List PyData}, DdAll K H vs ds → DdAll K H (vs.filter gv) (ds.filter gd)
  | _, _, .nil => .nil
  | _, _, .cons (v := v) (d := d) h t => by
    rw [List.filter_cons, List.filter_cons, hg v d h]
    split
    · exact .cons h (DdAll.filter hg t)
    · exact DdAll.filter hg t
theorem plainAll_mem : ∀ {ds : List PyData}, PyData.plainAll ds = true ↔ ∀ d ∈ ds, d.plain = true
  | [] => by simp [PyData.plainAll]
  | d :: ds => by
    rw [PyData.plainAll, Bool.and_eq_true, plainAll_mem (ds := ds)]
    simp
theorem eqv_nilL (ds : List PyData) : PyData.eqv (.list ds) (.list []) = ds.isEmpty := by cases ds <;> rfl
theorem eqv_nilT (ds : List PyData) : PyData.eqv (.tuple ds) (.tuple []) = ds.isEmpty := by cases ds <;> rfl
/-- no place at which a text is not less than the next one -/
theorem asc_range : ∀ (ys : List Str), ((List.range (ys.length - 1)).filter fun i => !decide (ltS (ys.getD i Str.empty) (ys.getD (i + 1) Str.empty))).isEmpty = ascB ys
  | [] => rfl
  | [_] => rfl
  | x :: y :: r => by
    have ih := asc_range (y :: r)
    rw [ascB, ← ih]
    show ((List.range ((y :: r).length)).filter _).isEmpty = _
    rw [List.length_cons, List.range_succ_eq_map, List.filter_cons, List.filter_map]
    show List.isEmpty (if (!decide (ltS x y)) = true then _ else _) = _
    by_cases h : ltS x y
    · rw [decide_eq_true h]
      simp only [Bool.not_true, Bool.false_eq_true, if_false, Bool.true_and, List.isEmpty_map]
      congr 1
    · rw [decide_eq_false h]
      rfl
end Tk

set_option Elab.async false
set_option linter.all false
set_option maxRecDepth 100000
set_option maxHeartbeats 4000000
/-! data that stand while one list changes; cuts and sums of tuples as data -/
namespace Tk
open PySem PySem.Spec PyProof.Rows L2
mutual
/-- all lists in it are good -/
def lsD (g : List PyData → Bool) : PyData → Bool
  | .list xs => g xs && lsAll g xs
  | .tuple xs => lsAll g xs
  | .dict _ => false
  | .none => true
  | .bool _ => true
  | .int _ => true
  | .str _ => true
def lsAll (g : List PyData → Bool) : List PyData → Bool
  | [] => true
  | x :: xs => lsD g x && lsAll g xs
end
/-- only what stands at L changes -/
def But (L : Addr) (H H' : Hp) : Prop := ∀ b o, H b = some o → b ≠ L → H' b = some o
section
variable {K : PySem.W.Frag} {H H' : Hp} {L : Addr} {g : List PyData → Bool}
mutual
theorem Dd.chg (hb : But L H H') (hL : ∃ xs, H L = some (.lst xs)) (hg : ∀ xs ds, H L = some (.lst xs) → DdAll K H xs ds → g ds = false) : ∀ (d : PyData) (v : V), lsD g d = true → Dd K H v d → Dd K H' v d
  | .none, _, _, h => by cases h; exact .non
  | .bool b, _, _, h => by cases h; exact .bl b
  | .int i, _, _, h => by cases h; exact .int i
  | .str x, _, _, h => by cases h; exact .str x
  | .list ds, _, n, h => by
    have n : (g ds && lsAll g ds) = true := n
    rw [Bool.and_eq_true] at n
    cases h with
    | lst e a => exact .lst (hb _ _ e (fun z => by subst z; rw [hg _ _ e a] at n; exact nomatch n.1)) (DdAll.chg hb hL hg ds _ n.2 a)
  | .tuple ds, _, n, h => by
    cases h with
    | tup e a => exact .tup (hb _ _ e (fun z => by subst z; obtain ⟨xs, q⟩ := hL; rw [q] at e; cases e)) (DdAll.chg hb hL hg ds _ n a)
  | .dict _, _, n, _ => nomatch n
theorem DdAll.chg (hb : But L H H') (hL : ∃ xs, H L = some (.lst xs)) (hg : ∀ xs ds, H L = some (.lst xs) → DdAll K H xs ds → g ds = false) : ∀ (ds : List PyData) (vs : List V), lsAll g ds = true → DdAll K H vs ds → DdAll K H' vs ds
  | [], _, _, h => by cases h; exact .nil
  | d :: ds, _, n, h => by
    have n : (lsD g d && lsAll g ds) = true := n
    rw [Bool.and_eq_true] at n
    cases h with
    | cons h1 h2 => exact .cons (Dd.chg hb hL hg d _ n.1 h1) (DdAll.chg hb hL hg ds _ n.2 h2)
end
/-- no lists at all -/
def flatD (d : PyData) : Bool := lsD (fun _ => false) d
/-- no list of two ints -/
def npL : List PyData → Bool
  | [.int _, .int _] => false
  | _ => true
def npD (d : PyData) : Bool := lsD npL d
theorem Dd.but {v : V} {d : PyData} (h : Dd K H v d) (f : flatD d = true) (hb : But L H H') (hL : ∃ xs, H L = some (.lst xs)) : Dd K H' v d := Dd.chg hb hL (fun _ _ _ _ => rfl) d v f h
theorem Dd.drawn {p : Addr} {v : V} {d : PyData} (h : Dd K H v d) (f : npD d = true) (D : Drawn p H H') (hp : PoolAt H p) : Dd K H' v d := by
  obtain ⟨a, b, e, _⟩ := hp
  refine Dd.chg (fun b o h n => D.kept b o h n) ⟨_, e⟩ (fun xs ds e2 al => ?_) d v f h
  rw [e] at e2
  cases e2
  cases al with
  | cons h1 al =>
    cases al with
    | cons h2 al =>
      cases al
      cases h1
      cases h2
      rfl
mutual
theorem np_flat : ∀ d : PyData, flatD d = true → npD d = true
  | .none, _ => rfl
  | .bool _, _ => rfl
  | .int _, _ => rfl
  | .str _, _ => rfl
  | .list xs, h => nomatch (show false = true from h)
  | .tuple xs, h => np_flatAll xs h
  | .dict _, h => nomatch h
theorem np_flatAll : ∀ ds : List PyData, lsAll (fun _ => false) ds = true → lsAll npL ds = true
  | [], _ => rfl
  | d :: ds, h => by
    have h : (flatD d && lsAll (fun _ => false) ds) = true := h
    rw [Bool.and_eq_true] at h
    show (npD d && lsAll npL ds) = true
    rw [np_flat d h.1, np_flatAll ds h.2]
    rfl
end
theorem lsAll_iff : ∀ {ds : List PyData}, lsAll g ds = true ↔ ∀ d ∈ ds, lsD g d = true
  | [] => by simp [lsAll]
  | d :: ds => by
    rw [lsAll, Bool.and_eq_true, lsAll_iff (ds := ds)]
    simp
theorem DdAll.drop {vs : List V} {ds : List PyData} (h : DdAll K H vs ds) : ∀ n, DdAll K H (vs.drop n) (ds.drop n) := by
  intro n
  induction n generalizing vs ds with
  | zero => exact h
  | succ n ih =>
    cases h with
    | nil => exact .nil
    | cons _ t => exact ih t
theorem DdAll.take {vs : List V} {ds : List PyData} (h : DdAll K H vs ds) : ∀ n, DdAll K H (vs.take n) (ds.take n) := by
  intro n
  induction n generalizing vs ds with
  | zero => exact .nil
  | succ n ih =>
    cases h with
    | nil => exact .nil
    | cons h0 t => exact .cons h0 (ih t)
theorem DdAll.rev {vs : List V} {ds : List PyData} (h : DdAll K H vs ds) : DdAll K H vs.reverse ds.reverse := by
  induction vs generalizing ds with
  | nil => cases h; exact .nil
  | cons v vs ih =>
    cases h with
    | cons h0 t =>
      rw [List.reverse_cons, List.reverse_cons]
      exact (ih t).append (.cons h0 .nil)
def cutD (ds : List PyData) (lo hi : Option Int) : List PyData := (ds.drop (HT.sIx ds.length 0 lo)).take (HT.sIx ds.length ds.length hi - HT.sIx ds.length 0 lo)
theorem cutD_mem {ds : List PyData} {lo hi : Option Int} {d : PyData} (h : d ∈ cutD ds lo hi) : d ∈ ds := List.mem_of_mem_drop (List.mem_of_mem_take h)
theorem cutD_len (ds : List PyData) (lo hi : Option Int) : (cutD ds lo hi).length ≤ ds.length := by
  unfold cutD
  rw [List.length_take, List.length_drop]
  omega
theorem g_slD {v : V} {ds : List PyData} {lo hi : Option Int} {Q : VK} (h : Dd K H v (.tuple ds)) (q : ∀ v' H2, Same H H2 → Dd K H2 v' (.tuple (cutD ds lo hi)) → Q v' H2) : GSlice K v lo hi H Q := by
  cases h with
  | tup e al =>
    rename_i a xs
    have ll := al.length
    refine .inr (.inr ⟨a, xs, rfl, SqT.of e, fun w => ?_, fun w p hp => ?_⟩)
    · refine q _ H (Same.refl H) ?_
      have z : cutD ds lo hi = ds := by
        unfold cutD
        rw [← ll, w.1, w.2]
        simp [ll]
      rw [z]
      exact .tup e al
    · refine q _ _ (Same.new hp) (.tup upd_same (DdAll.same (Same.new hp) _ _ ?_))
      unfold cutV cutD
      rw [ll]
      exact (al.drop _).take _
theorem g_catD {v w : V} {ds es : List PyData} {Q : VK} (h1 : Dd K H v (.tuple ds)) (h2 : Dd K H w (.tuple es)) (hl : ds.length + es.length ≤ 100000) (q : ∀ v' H2, Same H H2 → Dd K H2 v' (.tuple (ds ++ es)) → Q v' H2) : GAdd K v w H Q := by
  have h1' := h1
  have h2' := h2
  cases h1 with
  | tup e1 a1 =>
    cases h2 with
    | tup e2 a2 =>
      have l1 := a1.length
      have l2 := a2.length
      refine .inr (.inr (.inr ⟨_, _, _, _, rfl, rfl, SqT.of e1, SqT.of e2, sz_of (by rw [l1, l2]; exact hl), fun z => ?_, fun z1 z2 => ?_, fun _ _ p hp => ?_⟩))
      · refine q _ H (Same.refl H) ?_
        subst z
        cases a1
        exact h2'
      · refine q _ H (Same.refl H) ?_
        subst z2
        cases a2
        rw [List.append_nil]
        exact h1'
      · exact q _ _ (Same.new hp) (.tup upd_same (DdAll.same (Same.new hp) _ _ (a1.append a2)))
theorem g_catN {v w : V} {ds es : List PyData} {Q : VK} (h1 : Dd K H v (.list ds)) (h2 : Dd K H w (.list es)) (hl : ds.length + es.length ≤ 100000) (q : ∀ p xs H2, H p = none → Same H H2 → H2 p = some (.lst xs) → DdAll K H2 xs (ds ++ es) → Q (.ref p) H2) : GAdd K v w H Q := by
  cases h1 with
  | lst e1 a1 =>
    cases h2 with
    | lst e2 a2 =>
      exact .inr (.inr (.inl ⟨_, _, _, _, rfl, rfl, e1, e2, sz_of (by rw [a1.length, a2.length]; exact hl), fun p hp => q p _ _ hp (Same.new hp) upd_same (DdAll.same (Same.new hp) _ _ (a1.append a2))⟩))
theorem DdAll.at_ {vs : List V} {ds : List PyData} (h : DdAll K H vs ds) {r : Int} (h0 : 0 ≤ r) (h1 : r < (ds.length : Nat)) : ∃ v d, atI vs r = some v ∧ d ∈ ds ∧ Dd K H v d := by
  obtain ⟨n, rfl⟩ := Int.eq_ofNat_of_zero_le h0
  have hn : n < vs.length := by rw [h.length]; omega
  have hm : n < ds.length := by omega
  have e : vs[n]? = some vs[n] := List.getElem?_eq_getElem hn
  refine ⟨vs[n], ds[n], atI_nat e, List.getElem_mem hm, ?_⟩
  have go : ∀ {vs : List V} {ds : List PyData} (n : Nat) (a : n < vs.length) (b : n < ds.length), DdAll K H vs ds → Dd K H vs[n] ds[n] := by
    intro vs ds n a b h
    induction n generalizing vs ds with
    | zero =>
      cases h with
      | nil => exact absurd a (Nat.not_lt_zero _)
      | cons h0 t => exact h0
    | succ n ih =>
      cases h with
      | nil => exact absurd a (Nat.not_lt_zero _)
      | cons h0 t => exact ih (by simpa using a) (by simpa using b) t
  exact go n hn hm h
/-- an item of a list of data at a drawn place, the list made ahead of the draw -/
theorem list_at {v : V} {ds : List PyData} {p : Addr} {Q : VK} (h : Dd K H v (.list ds)) (np : npD (.list ds) = true) (D : Drawn p H H') (hp : PoolAt H p) {r : Int} (h0 : 0 ≤ r) (h1 : r < (ds.length : Nat)) (q : ∀ v' d, d ∈ ds → Dd K H' v' d → Q v' H') : rIx K v (.int r) H' Q := by
  have h' := Dd.drawn h np D hp
  cases h' with
  | lst e al =>
    obtain ⟨v', d, a1, a2, a3⟩ := al.at_ h0 h1
    exact r_ixL e a1 (q v' d a2 a3)
end
end Tk

set_option Elab.async false
set_option linter.all false
set_option maxRecDepth 100000
set_option maxHeartbeats 4000000
/-! events as text: what is written, the quick reader, the law's own reader -/
namespace TkP
open PySem PySem.StrLaws PySem.Builtin PySem.Builtin.Str SX Tk L2 TkM
open TL (spl par joinL numL tl)
/-! ### split at most once, and not at all -/
theorem split0 (r : List Nat) {c : Nat} (hc : c < 256) : Txt.splitMax (S r) (S [c]) 0 = [S r] := by
  have lim : limitOf (S r) 0 = 0 := rfl
  have few : (occurrences (S r) (S [c]) 0 (S r).length 0).length ≤ 0 := occ_length_le _ _ _ _ _
  have key : occurrences (S r) (S [c]) 0 (S r).length 0 = [] := List.eq_nil_of_length_eq_zero (by omega)
  unfold Txt.splitMax
  rw [lim, key]
  simp
theorem split1 {p r : List Nat} {c : Nat} (hc : c < 256) (hp : c ∉ p) : Txt.splitMax (S (p ++ c :: r)) (S [c]) 1 = [S p, S r] := by
  obtain ⟨f, g, no⟩ := occ_two (S (p ++ c :: r)) (S [c]) 1 (Nat.le_refl _)
  have lim : limitOf (S (p ++ c :: r)) 1 = 1 := rfl
  have hl : (S (p ++ c :: r)).length = p.length + (r.length + 1) := by rw [S_len]; simp only [List.length_append, List.length_cons]
  have is : ∀ j, At (S (p ++ c :: r)) (S [c]) (S (p ++ c :: r)).length j ↔ (p ++ c :: r)[j]? = some c := subAt_one _ c
  have d1 : (p ++ c :: r).drop (p.length + 1) = r := by rw [← List.drop_drop, List.drop_left]; rfl
  have a1 : At (S (p ++ c :: r)) (S [c]) (S (p ++ c :: r)).length p.length := (is _).mpr (by rw [List.getElem?_append_right (Nat.le_refl _), Nat.sub_self]; rfl)
  have key : occurrences (S (p ++ c :: r)) (S [c]) 0 (S (p ++ c :: r)).length 1 = [p.length] := by
    have few : (occurrences (S (p ++ c :: r)) (S [c]) 0 (S (p ++ c :: r)).length 1).length ≤ 1 := occ_length_le _ _ _ _ _
    generalize occurrences (S (p ++ c :: r)) (S [c]) 0 (S (p ++ c :: r)).length 1 = cs at g no few
    match cs, g, no, few with
    | [], g, no, _ =>
      have e : f = 0 := g
      exact absurd a1 (no (by decide) _ (by omega))
    | [b], g, no, _ =>
      obtain ⟨g1, g2, g3, g4⟩ := g
      have eb := first_at (L := p ++ c :: r) (f := 0) (p := p) (r := r) _ rfl hp rfl g1 g2 g3
      rw [eb, Nat.zero_add]
    | _ :: _ :: _, _, _, few => simp at few
  unfold Txt.splitMax
  rw [lim, key, if_neg, if_neg (by simp), partsBetween_eq]
  · show [strSub _ 0 p.length, strSub _ (p.length + 1) (S (p ++ c :: r)).length] = _
    have e1 : strSub (S (p ++ c :: r)) 0 p.length = S p := TL.ext_tl (by rw [TL.tl_strSub]; show ((p ++ _).drop 0).take (p.length - 0) = p; rw [List.drop_zero, Nat.sub_zero, List.take_left])
    have e2 : strSub (S (p ++ c :: r)) (p.length + 1) (S (p ++ c :: r)).length = S r := TL.ext_tl (by
      rw [TL.tl_strSub_end]
      exact d1)
    rw [e1, e2]
  · rw [Bool.or_eq_true, decide_eq_true_eq, decide_eq_true_eq]
    rintro (z | z)
    · rw [hl] at z
      have : (S [c]).length = 1 := rfl
      omega
    · exact TL.kind_ok (all256 (b := [c]) (by simp [hc])) z
/-! ### what is written -/
def keysT (ds : List PyData) : List (List Nat) := ds.map fun d => tl (txtD d)
def partT (k : Str) : PyData → List Nat
  | .str x => if k = "value" then 34 :: (esc (tl x) ++ [34]) else tl x
  | .int i => numL i.toNat
  | .tuple ds => joinL [32] (keysT ds)
  | _ => [42]
def partsT : List Str → List PyData → List (List Nat)
  | k :: ks, d :: ds => partT k d :: partsT ks ds
  | _, _ => []
def evT : PyData → List Nat
  | .tuple (.str x :: rest) => joinL [32] (tl x :: partsT ((formsT.lookup x).getD []) rest)
  | _ => []
/-! ### the quick reader -/
def likK (x : Str) : PyData := if (x == S [42]) = true then .none else if (0 : Int) < (x.length : Int) then .tuple ((Txt.split x (S [32])).map .str) else .tuple []
def likP (k x : Str) : PyData := if k = "value" then .str (unq x) else if k = "number" ∨ k = "index" then likN x else if k = "keys" then likK x else .str x
def likPs : List Str → List Str → List PyData
  | k :: ks, x :: xs => likP k x :: likPs ks xs
  | _, _ => []
def likV (x : Str) : PyData :=
  match formsT.lookup (Txt.partition x (S [32])).1 with
  | none => .none
  | some f => .tuple (.str (Txt.partition x (S [32])).1 :: likPs f (Txt.splitMax (Txt.partition x (S [32])).2.2 (S [32]) ((f.length : Int) - 1)))
/-! ### the kinds of parts -/
def KW : Str := "word"
def shapes : List (List Str) := [["word", "word", "value"], ["word", "word"], ["word", "number"], ["word", "word", "keys"], ["word", "word", "index"], ["word"]]
theorem shape_of {x : Str} {f : List Str} (h : formsT.lookup x = some f) : f ∈ shapes := by
  have all : ∀ p ∈ formsT, p.2 ∈ shapes := by decide
  have : ∀ l : List (Str × List Str), (∀ p ∈ l, p.2 ∈ shapes) → l.lookup x = some f → f ∈ shapes := by
    intro l
    induction l with
    | nil => intro _ z; cases z
    | cons p r ih =>
      intro a z
      rw [List.lookup_cons] at z
      split at z
      · cases z
        exact a _ (List.mem_cons_self ..)
      · exact ih (fun q hq => a q (List.mem_cons_of_mem _ hq)) z
  exact this _ all h
theorem word_txt {d : PyData} (h : wordD d = true) : ∃ a, d = .str (S a) ∧ wordS (S a) = true := by
  cases d with
  | str x => exact ⟨x.cps.toList, by rw [S_tl], by rw [S_tl]; exact h⟩
  | _ => cases h
theorem lik_word {d : PyData} (h : wordD d = true) : likP "word" (S (partT "word" d)) = d := by
  obtain ⟨a, rfl, _⟩ := word_txt h
  unfold likP
  rw [if_neg (by decide), if_neg (by decide), if_neg (by decide)]
  rfl
theorem lik_value {d : PyData} (h : valueD d = true) : likP "value" (S (partT "value" d)) = d := by
  cases d with
  | str x =>
    unfold likP
    rw [if_pos rfl]
    show PyData.str (unq (S (34 :: (esc (tl x) ++ [34])))) = _
    rw [unq_told]
  | _ => cases h
theorem likN_num {n : Nat} (hi : n ≤ 1000000000000000) : likN (S (numL n)) = .int n := by
  unfold likN
  have al : (numL n).all digB = true := List.all_eq_true.mpr fun c hc => by
    have := TL.numL_digits n c hc
    unfold digB
    rw [Bool.and_eq_true, decide_eq_true_eq, decide_eq_true_eq]
    exact this
  have ne : (numL n).isEmpty = false := by
    cases z : numL n with
    | nil => exact absurd z (TL.numL_ne n)
    | cons _ _ => rfl
  have hl := num_len hi
  rw [digits_told, al, ne, if_neg]
  · show PyData.int (NumText.digitsVal (numL n)) = _
    rw [TL.numL_val]
  · rw [S_len]
    simp
    omega
theorem lik_number {d : PyData} (h : numD d = true) : likP "number" (S (partT "number" d)) = d := by
  cases d with
  | int i =>
    unfold numD at h
    rw [Bool.and_eq_true, decide_eq_true_eq, decide_eq_true_eq] at h
    unfold likP
    rw [if_neg (by decide), if_pos (.inl rfl)]
    show likN (S (numL i.toNat)) = _
    rw [likN_num (by omega), Int.toNat_of_nonneg (by omega)]
  | _ => cases h
theorem lik_index {d : PyData} (h : indexD d = true) : likP "index" (S (partT "index" d)) = d := by
  cases d with
  | int i =>
    unfold indexD at h
    rw [Bool.and_eq_true, decide_eq_true_eq, decide_eq_true_eq] at h
    unfold likP
    rw [if_neg (by decide), if_pos (.inr rfl)]
    show likN (S (numL i.toNat)) = _
    rw [likN_num (by omega), Int.toNat_of_nonneg (by omega)]
  | _ => cases h
theorem keys_free {ds : List PyData} (h : ds.all wordD = true) {c : Nat} (hc : c < 97) : ∀ p ∈ keysT ds, c ∉ p := by
  intro p hp
  unfold keysT at hp
  obtain ⟨d, hd, rfl⟩ := List.mem_map.mp hp
  obtain ⟨a, rfl, ha⟩ := word_txt (List.all_eq_true.mp h d hd)
  exact word_free ha hc
theorem keys_back {ds : List PyData} (h : ds.all wordD = true) : ((keysT ds).map S).map PyData.str = ds := by
  unfold keysT
  rw [List.map_map, List.map_map]
  refine (List.map_congr_left fun d hd => ?_).trans (List.map_id _)
  obtain ⟨a, rfl, ha⟩ := word_txt (List.all_eq_true.mp h d hd)
  rfl
theorem keys_head {ds : List PyData} (h : ds.all wordD = true) (ne : ds ≠ []) : ∃ c r, joinL [32] (keysT ds) = c :: r ∧ 97 ≤ c := by
  cases ds with
  | nil => exact absurd rfl ne
  | cons d ds =>
    rw [List.all_cons, Bool.and_eq_true] at h
    obtain ⟨a, rfl, ha⟩ := word_txt h.1
    have l := (word_len ha).1
    cases a with
    | nil => simp at l
    | cons c a =>
      have hc : 97 ≤ c := by
        unfold wordS at ha
        rw [Bool.and_eq_true] at ha
        have := List.all_eq_true.mp ha.2 c (List.mem_cons_self ..)
        unfold lowB at this
        rw [Bool.and_eq_true, decide_eq_true_eq] at this
        exact this.1
      cases ds with
      | nil => exact ⟨c, a, rfl, hc⟩
      | cons e ds => exact ⟨c, a ++ ([32] ++ joinL [32] (keysT (e :: ds))), rfl, hc⟩
theorem lik_keys {d : PyData} (h : (noneD d || ascD d) = true) : likP "keys" (S (partT "keys" d)) = d := by
  unfold likP
  rw [if_neg (by decide), if_neg (by decide), if_pos rfl]
  rw [Bool.or_eq_true] at h
  rcases h with h | h
  · cases d <;> first | rfl | cases h
  · cases d with
    | tuple ds =>
      unfold ascD at h
      rw [Bool.and_eq_true] at h
      by_cases e : ds = []
      · subst e; rfl
      · obtain ⟨c, r, e1, e2⟩ := keys_head h.1 e
        show likK (S (joinL [32] (keysT ds))) = _
        unfold likK
        rw [if_neg, if_pos, split_S (b := [32]) (by simp) (by decide), TL.spl_join _ (keys_free h.1 (by decide)), keys_back h.1]
        · intro z
          unfold keysT at z
          exact e (List.map_eq_nil_iff.mp z)
        · rw [e1, S_len, List.length_cons]; omega
        · rw [e1, S_beq]
          intro z
          have := eq_of_beq z
          injection this with q _
          omega
    | _ => cases h
/-! ### the quick reader reads what is written -/
theorem parts3 {a b c : Str} {ds : List PyData} (h : partsD [a, b, c] ds = true) : ∃ x y z, ds = [x, y, z] ∧ kindD a x = true ∧ kindD b y = true ∧ kindD c z = true := by
  have l : ds.length = 3 := partsD_len h
  match ds, l, h with
  | [x, y, z], _, h =>
    have e : partsD [a, b, c] [x, y, z] = (kindD a x && (kindD b y && (kindD c z && true))) := rfl
    rw [e, Bool.and_eq_true, Bool.and_eq_true, Bool.and_eq_true] at h
    exact ⟨x, y, z, rfl, h.1, h.2.1, h.2.2.1⟩
theorem parts2 {a b : Str} {ds : List PyData} (h : partsD [a, b] ds = true) : ∃ x y, ds = [x, y] ∧ kindD a x = true ∧ kindD b y = true := by
  have l : ds.length = 2 := partsD_len h
  match ds, l, h with
  | [x, y], _, h =>
    have e : partsD [a, b] [x, y] = (kindD a x && (kindD b y && true)) := rfl
    rw [e, Bool.and_eq_true, Bool.and_eq_true] at h
    exact ⟨x, y, rfl, h.1, h.2.1⟩
theorem parts1 {a : Str} {ds : List PyData} (h : partsD [a] ds = true) : ∃ x, ds = [x] ∧ kindD a x = true := by
  have l : ds.length = 1 := partsD_len h
  match ds, l, h with
  | [x], _, h =>
    have e : partsD [a] [x] = (kindD a x && true) := rfl
    rw [e, Bool.and_eq_true] at h
    exact ⟨x, rfl, h.1⟩
/-- the last part's kind -/
theorem lik_last {k : Str} {d : PyData} (hk : k ∈ ([("word" : Str), "value", "number", "index", "keys"] : List Str)) (h : kindD k d = true) : likP k (S (partT k d)) = d := by
  unfold kindD at h
  simp only [List.mem_cons, List.not_mem_nil, or_false] at hk
  rcases hk with rfl | rfl | rfl | rfl | rfl
  · rw [if_pos rfl] at h; exact lik_word h
  · rw [if_neg (by decide), if_pos rfl] at h; exact lik_value h
  · rw [if_neg (by decide), if_neg (by decide), if_pos rfl] at h; exact lik_number h
  · rw [if_neg (by decide), if_neg (by decide), if_neg (by decide), if_pos rfl] at h; exact lik_index h
  · rw [if_neg (by decide), if_neg (by decide), if_neg (by decide), if_neg (by decide)] at h; exact lik_keys h
theorem part_word {d : PyData} (h : kindD "word" d = true) : ∃ a, d = .str (S a) ∧ wordS (S a) = true ∧ partT "word" d = a := by
  unfold kindD at h
  rw [if_pos rfl] at h
  obtain ⟨a, rfl, w⟩ := word_txt h
  exact ⟨a, rfl, w, rfl⟩
/-- an event, told: its word, its form, its parts -/
theorem event_is {d : PyData} (h : eventD d = true) : ∃ (w : List Nat) (f : List Str) (rest : List PyData), d = .tuple (.str (S w) :: rest) ∧ wordS (S w) = true ∧ formsT.lookup (S w) = some f ∧ f ∈ shapes ∧ partsD f rest = true ∧ evT d = joinL [32] (w :: partsT f rest) := by
  cases d with
  | tuple ds =>
    cases ds with
    | nil => cases h
    | cons x rest =>
      cases x with
      | str x =>
        unfold eventD at h
        rw [Bool.and_eq_true] at h
        obtain ⟨h1, h2⟩ := h
        cases e : formsT.lookup x with
        | none => rw [e] at h2; cases h2
        | some f =>
          rw [e] at h2
          refine ⟨tl x, f, rest, by rw [show S (tl x) = x from S_tl x], by rw [show S (tl x) = x from S_tl x]; exact h1, by rw [show S (tl x) = x from S_tl x]; exact e, shape_of e, h2, ?_⟩
          show joinL [32] (tl x :: partsT ((formsT.lookup x).getD []) rest) = _
          rw [e]
          rfl
      | _ => cases h
  | _ => cases h
theorem lik_ev {d : PyData} (h : eventD d = true) : likV (S (evT d)) = d := by
  obtain ⟨w, f, rest, rfl, hw, hf, hs, hp, et⟩ := event_is h
  have w1 : 32 ∉ w := word_free hw (by decide)
  rw [et]
  have go : ∀ r : List Nat, joinL [32] (w :: partsT f rest) = w ++ 32 :: r → likPs f (Txt.splitMax (S r) (S [32]) ((f.length : Int) - 1)) = rest → likV (S (joinL [32] (w :: partsT f rest))) = .tuple (.str (S w) :: rest) := by
    intro r e1 e2
    rw [e1]
    have e3 : Txt.partition (S (w ++ 32 :: r)) (S [32]) = (S w, S [32], S r) := partition_some (by simp) (TL.par_part1 (S := []) (acc := []) w1)
    unfold likV
    rw [e3]
    show (match formsT.lookup (S w) with
      | none => PyData.none
      | some f => .tuple (.str (S w) :: likPs f (Txt.splitMax (S r) (S [32]) ((f.length : Int) - 1)))) = _
    rw [hf]
    show PyData.tuple (.str (S w) :: likPs f (Txt.splitMax (S r) (S [32]) ((f.length : Int) - 1))) = _
    rw [e2]
  unfold shapes at hs
  simp only [List.mem_cons, List.not_mem_nil, or_false] at hs
  rcases hs with rfl | rfl | rfl | rfl | rfl | rfl
  · obtain ⟨x, y, z, rfl, hx, hy, hz⟩ := parts3 hp
    obtain ⟨a, rfl, wa, ea⟩ := part_word hx
    obtain ⟨b, rfl, wb, eb⟩ := part_word hy
    refine go (a ++ 32 :: (b ++ 32 :: partT "value" z)) rfl ?_
    have e : Txt.splitMax (S (a ++ 32 :: (b ++ 32 :: partT "value" z))) (S [32]) 2 = [S a, S b, S (partT "value" z)] := split2 (by decide) (word_free wa (by decide)) (word_free wb (by decide))
    show likPs _ (Txt.splitMax (S (a ++ 32 :: (b ++ 32 :: partT "value" z))) (S [32]) 2) = _
    rw [e]
    show [likP "word" (S a), likP "word" (S b), likP "value" (S (partT "value" z))] = _
    rw [lik_last (by simp) hz]
    rfl
  · obtain ⟨x, y, rfl, hx, hy⟩ := parts2 hp
    obtain ⟨a, rfl, wa, ea⟩ := part_word hx
    refine go (a ++ 32 :: partT "word" y) rfl ?_
    have e : Txt.splitMax (S (a ++ 32 :: partT "word" y)) (S [32]) 1 = [S a, S (partT "word" y)] := split1 (by decide) (word_free wa (by decide))
    show likPs _ (Txt.splitMax (S (a ++ 32 :: partT "word" y)) (S [32]) 1) = _
    rw [e]
    show [likP "word" (S a), likP "word" (S (partT "word" y))] = _
    rw [lik_last (by simp) hy]
    rfl
  · obtain ⟨x, y, rfl, hx, hy⟩ := parts2 hp
    obtain ⟨a, rfl, wa, ea⟩ := part_word hx
    refine go (a ++ 32 :: partT "number" y) rfl ?_
    have e : Txt.splitMax (S (a ++ 32 :: partT "number" y)) (S [32]) 1 = [S a, S (partT "number" y)] := split1 (by decide) (word_free wa (by decide))
    show likPs _ (Txt.splitMax (S (a ++ 32 :: partT "number" y)) (S [32]) 1) = _
    rw [e]
    show [likP "word" (S a), likP "number" (S (partT "number" y))] = _
    rw [lik_last (by simp) hy]
    rfl
  · obtain ⟨x, y, z, rfl, hx, hy, hz⟩ := parts3 hp
    obtain ⟨a, rfl, wa, ea⟩ := part_word hx
    obtain ⟨b, rfl, wb, eb⟩ := part_word hy
    refine go (a ++ 32 :: (b ++ 32 :: partT "keys" z)) rfl ?_
    have e : Txt.splitMax (S (a ++ 32 :: (b ++ 32 :: partT "keys" z))) (S [32]) 2 = [S a, S b, S (partT "keys" z)] := split2 (by decide) (word_free wa (by decide)) (word_free wb (by decide))
    show likPs _ (Txt.splitMax (S (a ++ 32 :: (b ++ 32 :: partT "keys" z))) (S [32]) 2) = _
    rw [e]
    show [likP "word" (S a), likP "word" (S b), likP "keys" (S (partT "keys" z))] = _
    rw [lik_last (by simp) hz]
    rfl
  · obtain ⟨x, y, z, rfl, hx, hy, hz⟩ := parts3 hp
    obtain ⟨a, rfl, wa, ea⟩ := part_word hx
    obtain ⟨b, rfl, wb, eb⟩ := part_word hy
    refine go (a ++ 32 :: (b ++ 32 :: partT "index" z)) rfl ?_
    have e : Txt.splitMax (S (a ++ 32 :: (b ++ 32 :: partT "index" z))) (S [32]) 2 = [S a, S b, S (partT "index" z)] := split2 (by decide) (word_free wa (by decide)) (word_free wb (by decide))
    show likPs _ (Txt.splitMax (S (a ++ 32 :: (b ++ 32 :: partT "index" z))) (S [32]) 2) = _
    rw [e]
    show [likP "word" (S a), likP "word" (S b), likP "index" (S (partT "index" z))] = _
    rw [lik_last (by simp) hz]
    rfl
  · obtain ⟨x, rfl, hx⟩ := parts1 hp
    refine go (partT "word" x) rfl ?_
    have e : Txt.splitMax (S (partT "word" x)) (S [32]) 0 = [S (partT "word" x)] := split0 _ (by decide)
    show likPs _ (Txt.splitMax (S (partT "word" x)) (S [32]) 0) = _
    rw [e]
    show [likP "word" (S (partT "word" x))] = _
    rw [lik_last (by simp) hx]
end TkP

set_option Elab.async false
set_option linter.all false
set_option maxRecDepth 100000
set_option maxHeartbeats 4000000
/-! the law's own reader of events -/
namespace TkP
open PySem PySem.StrLaws PySem.Builtin PySem.Builtin.Str SX Tk L2 TkM
open TL (spl par joinL numL tl)
/-! ### a value read back by way of two signs that no value has -/
def m1 (v : List Nat) : List Nat := v.flatMap fun c => if c = 92 then [10] else if c = 34 then [92, 34] else [c]
def m2 (v : List Nat) : List Nat := v.flatMap fun c => if c = 92 then [10] else if c = 34 then [9] else [c]
theorem m1_cons (c : Nat) (v : List Nat) : m1 (c :: v) = (if c = 92 then [10] else if c = 34 then [92, 34] else [c]) ++ m1 v := by
  unfold m1
  rw [List.flatMap_cons]
theorem m2_cons (c : Nat) (v : List Nat) : m2 (c :: v) = (if c = 92 then [10] else if c = 34 then [9] else [c]) ++ m2 v := by
  unfold m2
  rw [List.flatMap_cons]
theorem there1 : ∀ v : List Nat, replL [92, 92] [10] (esc v) = m1 v
  | [] => replL_nil
  | c :: v => by
    have ih := there1 v
    rw [esc_cons, m1_cons]
    by_cases e : c = 92
    · subst e
      rw [if_pos (.inl rfl), if_pos rfl]
      show replL [92, 92] [10] (92 :: 92 :: esc v) = _
      rw [replL_hit (by simp) (by simp)]
      show [10] ++ replL [92, 92] [10] (esc v) = _
      rw [ih]
    · by_cases e2 : c = 34
      · subst e2
        rw [if_pos (.inr rfl), if_neg e, if_pos rfl]
        show replL [92, 92] [10] (92 :: 34 :: esc v) = 92 :: 34 :: m1 v
        rw [replL_miss (by simp), replL_miss (by
          intro h
          cases ev : esc v with
          | nil => rw [ev] at h; cases h
          | cons d r =>
            rw [ev] at h
            have h2 : [34, d] = [92, 92] := h
            injection h2 with h3 _
            cases h3), ih]
      · rw [if_neg (by omega), if_neg e, if_neg e2]
        show replL [92, 92] [10] (c :: esc v) = c :: m1 v
        rw [replL_miss (by
          intro h
          have h2 : c = 92 := by
            cases ev : esc v with
            | nil => rw [ev] at h; cases h
            | cons d r =>
              rw [ev] at h
              have h2 : [c, d] = [92, 92] := h
              injection h2
          exact e h2), ih]
theorem there2 : ∀ v : List Nat, replL [92, 34] [9] (m1 v) = m2 v
  | [] => replL_nil
  | c :: v => by
    have ih := there2 v
    rw [m1_cons, m2_cons]
    have miss : ∀ c : Nat, c ≠ 92 → replL [92, 34] [9] (c :: m1 v) = c :: m2 v := by
      intro c e
      rw [replL_miss (by
        intro h
        have h2 : c = 92 := by
          cases ev : m1 v with
          | nil => rw [ev] at h; cases h
          | cons d r =>
            rw [ev] at h
            have h2 : [c, d] = [92, 34] := h
            injection h2
        exact e h2), ih]
    by_cases e : c = 92
    · subst e
      rw [if_pos rfl, if_pos rfl]
      exact miss 10 (by decide)
    · by_cases e2 : c = 34
      · subst e2
        rw [if_neg e, if_pos rfl, if_neg e, if_pos rfl]
        show replL [92, 34] [9] (92 :: 34 :: m1 v) = _
        rw [replL_hit (by simp) (by simp)]
        show [9] ++ replL [92, 34] [9] (m1 v) = _
        rw [ih]
      · rw [if_neg e, if_neg e2, if_neg e, if_neg e2]
        exact miss c e
theorem there4 (v : List Nat) (h : ∀ c ∈ v, 32 ≤ c) : replL [9] [34] (replL [10] [92] (m2 v)) = v := by
  rw [repl1, repl1]
  unfold m2
  rw [List.flatMap_assoc, List.flatMap_assoc]
  induction v with
  | nil => rfl
  | cons c v ih =>
    rw [List.flatMap_cons, ih fun d hd => h d (List.mem_cons_of_mem _ hd)]
    have hc := h c (List.mem_cons_self ..)
    by_cases e : c = 92
    · subst e; rfl
    · by_cases e2 : c = 34
      · subst e2; rfl
      · rw [if_neg e, if_neg e2]
        have h10 : ¬ c = 10 := by omega
        have h9 : ¬ c = 9 := by omega
        simp [h10, h9]
def unqI (x : Str) : Str := Txt.replace (Txt.replace (Txt.replace (Txt.replace x (S [92, 92]) (S [10])) (S [92, 34]) (S [9])) (S [10]) (S [92])) (S [9]) (S [34])
def unqL (x : Str) : Str := unqI (cutS x (some 1) (some (-1)))
theorem cut_told (u : List Nat) : cutS (S (34 :: (u ++ [34]))) (some 1) (some (-1)) = S u := by
  refine TL.ext_tl ?_
  have l : (S (34 :: (u ++ [34]))).length = u.length + 2 := by rw [S_len]; simp
  have i1 : HT.sIx (S (34 :: (u ++ [34]))).length 0 (some 1) = 1 := by rw [l]; unfold HT.sIx; simp
  have i2 : HT.sIx (S (34 :: (u ++ [34]))).length (S (34 :: (u ++ [34]))).length (some (-1)) = u.length + 1 := by rw [l]; unfold HT.sIx; simp; omega
  unfold cutS
  rw [i1, i2]
  show (((34 :: (u ++ [34])).drop 1).take (u.length + 1 - 1)) = u
  rw [Nat.add_sub_cancel]
  show (u ++ [34]).take u.length = _
  rw [List.take_left]
theorem shown_lo {v : List Nat} (h : valueS (S v) = true) : ∀ c ∈ v, 32 ≤ c ∧ c ≤ 126 := by
  intro c hc
  unfold valueS at h
  rw [Bool.and_eq_true] at h
  have := List.all_eq_true.mp h.2 c hc
  unfold shownB at this
  rw [Bool.and_eq_true, decide_eq_true_eq, decide_eq_true_eq] at this
  exact this
theorem unqL_told {v : List Nat} (h : valueS (S v) = true) : unqL (S (34 :: (esc v ++ [34]))) = S v := by
  unfold unqL
  rw [cut_told]
  unfold unqI
  refine TL.ext_tl ?_
  show (Txt.replace (Txt.replace (Txt.replace (Txt.replace (S (esc v)) (S [92, 92]) (S [10])) (S [92, 34]) (S [9])) (S [10]) (S [92])) (S [9]) (S [34])).cps.toList = v
  rw [replace_list (by decide), replace_list (by decide), replace_list (by decide), replace_list (by decide)]
  show replL [9] [34] (replL [10] [92] (replL [92, 34] [9] (replL [92, 92] [10] (esc v)))) = v
  rw [there1, there2, there4 v fun c hc => (shown_lo h c hc).1]
/-! ### the reader -/
def strS (a : List Nat) : PyData := .str (S a)
def numR (a : List Nat) : PyData := if a = [] ∨ 16 < a.length ∨ a.all digB = false then .none else .int (NumText.digitsVal a)
def cWrite : List Nat := [119, 114, 105, 116, 101]
def cSend : List Nat := [115, 101, 110, 100]
def cPass : List Nat := [112, 97, 115, 115]
def cTake : List Nat := [116, 97, 107, 101]
def readH (h : List Nat) (r : List (List Nat)) : PyData :=
  if h = cWrite ∧ 3 ≤ r.length then .tuple [strS h, strS (r.getD 0 []), strS (r.getD 1 []), .str (unqL (S (joinL [32] (r.drop 2))))]
  else if h = cSend ∧ 3 ≤ r.length then .tuple [strS h, strS (r.getD 0 []), strS (r.getD 1 []), if r.drop 2 = [[42]] then .none else .tuple (((r.drop 2).filter fun p => !p.isEmpty).map strS)]
  else if h = cPass ∨ h = cTake then .tuple ((h :: r).dropLast.map strS ++ [numR ((h :: r).getLastD [])])
  else .tuple ((h :: r).map strS)
def readP : List (List Nat) → PyData
  | [] => .none
  | h :: r => readH h r
def readV (x : Str) : PyData := readP (spl [32] 0 [] (tl x))
theorem numR_num {n : Nat} (hi : n ≤ 1000000000000000) : numR (numL n) = .int n := by
  have al : (numL n).all digB = true := List.all_eq_true.mpr fun c hc => by
    have := TL.numL_digits n c hc
    unfold digB
    rw [Bool.and_eq_true, decide_eq_true_eq, decide_eq_true_eq]
    exact this
  have hl := num_len hi
  unfold numR
  rw [al, if_neg, TL.numL_val]
  rintro (z | z | z)
  · exact TL.numL_ne n z
  · omega
  · cases z
/-- which words have which forms -/
theorem look_all {Q : Str → List Str → Prop} : ∀ (l : List (Str × List Str)), (∀ p ∈ l, Q p.1 p.2) → ∀ {x : Str} {f : List Str}, l.lookup x = some f → Q x f
  | [], _, _, _, z => by cases z
  | p :: r, a, x, f, z => by
    rw [List.lookup_cons] at z
    split at z
    · rename_i e
      cases z
      rw [eq_of_beq e]
      exact a _ (List.mem_cons_self ..)
    · exact look_all r (fun q hq => a q (List.mem_cons_of_mem _ hq)) z
def isWr (x : Str) : Bool := tl x == cWrite
def isSe (x : Str) : Bool := tl x == cSend
def isPT (x : Str) : Bool := tl x == cPass || tl x == cTake
def FV : List Str := ["word", "word", "value"]
def FK : List Str := ["word", "word", "keys"]
def FN : List Str := ["word", "number"]
def FI : List Str := ["word", "word", "index"]
def formW (x : Str) (f : List Str) : Bool := (isWr x == decide (f = FV)) && (isSe x == decide (f = FK)) && (isPT x == (decide (f = FN) || decide (f = FI)))
theorem form_word {x : Str} {f : List Str} (h : formsT.lookup x = some f) : formW x f = true := look_all (Q := fun x f => formW x f = true) formsT (by decide) h
theorem read_write {w a b r : List Nat} (hw : w = cWrite) (w1 : 32 ∉ w) (a1 : 32 ∉ a) (b1 : 32 ∉ b) : readV (S (w ++ 32 :: (a ++ 32 :: (b ++ 32 :: r)))) = .tuple [strS w, strS a, strS b, .str (unqL (S r))] := by
  have e1 : spl [32] 0 [] (w ++ ([32] ++ (a ++ ([32] ++ (b ++ ([32] ++ r)))))) = w :: a :: b :: spl [32] 0 [] r := by
    rw [TL.spl_part1 w1, TL.spl_part1 a1, TL.spl_part1 b1]
    rfl
  have e2 := spl_joined 32 r []
  have ne := spl_ne [32] r []
  show readP (spl [32] 0 [] (w ++ ([32] ++ (a ++ ([32] ++ (b ++ ([32] ++ r))))))) = _
  rw [e1]
  show readH _ _ = _
  unfold readH
  have hl : 3 ≤ (a :: b :: spl [32] 0 [] r).length := by
    have : 0 < (spl [32] 0 [] r).length := List.length_pos_iff.mpr ne
    simp only [List.length_cons]
    omega
  rw [if_pos ⟨hw, hl⟩]
  show PyData.tuple [strS w, strS a, strS b, .str (unqL (S (joinL [32] (spl [32] 0 [] r))))] = _
  rw [e2]
  rfl
theorem read_send {w a b r : List Nat} (hw : w = cSend) (w1 : 32 ∉ w) (a1 : 32 ∉ a) (b1 : 32 ∉ b) : readV (S (w ++ 32 :: (a ++ 32 :: (b ++ 32 :: r)))) = .tuple [strS w, strS a, strS b, if spl [32] 0 [] r = [[42]] then .none else .tuple (((spl [32] 0 [] r).filter fun p => !p.isEmpty).map strS)] := by
  have e1 : spl [32] 0 [] (w ++ ([32] ++ (a ++ ([32] ++ (b ++ ([32] ++ r)))))) = w :: a :: b :: spl [32] 0 [] r := by
    rw [TL.spl_part1 w1, TL.spl_part1 a1, TL.spl_part1 b1]
    rfl
  have ne := spl_ne [32] r []
  show readP (spl [32] 0 [] (w ++ ([32] ++ (a ++ ([32] ++ (b ++ ([32] ++ r))))))) = _
  rw [e1]
  show readH _ _ = _
  unfold readH
  have hl : 3 ≤ (a :: b :: spl [32] 0 [] r).length := by
    have : 0 < (spl [32] 0 [] r).length := List.length_pos_iff.mpr ne
    simp only [List.length_cons]
    omega
  rw [if_neg (by rintro ⟨z, _⟩; rw [hw] at z; cases z), if_pos ⟨hw, hl⟩]
  rfl
theorem read_pt {w r : List Nat} {ps : List (List Nat)} {p : List Nat} (hw : w = cPass ∨ w = cTake) (e1 : spl [32] 0 [] r = w :: (ps ++ [p])) : readV (S r) = .tuple (strS w :: (ps.map strS ++ [numR p])) := by
  show readP (spl [32] 0 [] r) = _
  rw [e1]
  show readH _ _ = _
  unfold readH
  rw [if_neg (by rintro ⟨z, _⟩; rw [z] at hw; rcases hw with q | q <;> cases q), if_neg (by rintro ⟨z, _⟩; rw [z] at hw; rcases hw with q | q <;> cases q), if_pos hw]
  have e2 : (w :: (ps ++ [p])).dropLast = w :: ps := by
    rw [← List.cons_append, List.dropLast_concat]
  have e3 : (w :: (ps ++ [p])).getLastD [] = p := by
    rw [← List.cons_append, List.getLastD_eq_getLast?, List.getLast?_concat]
    rfl
  rw [e2, e3]
  rfl
theorem read_other {w r : List Nat} {ps : List (List Nat)} (h1 : w ≠ cWrite) (h2 : w ≠ cSend) (h3 : ¬ (w = cPass ∨ w = cTake)) (e1 : spl [32] 0 [] r = w :: ps) : readV (S r) = .tuple (strS w :: ps.map strS) := by
  show readP (spl [32] 0 [] r) = _
  rw [e1]
  show readH _ _ = _
  unfold readH
  rw [if_neg (fun z => h1 z.1), if_neg (fun z => h2 z.1), if_neg h3]
  rfl
theorem read_ev {d : PyData} (h : eventD d = true) : readV (S (evT d)) = d := by
  obtain ⟨w, f, rest, rfl, hw, hf, hs, hp, et⟩ := event_is h
  have w1 : 32 ∉ w := word_free hw (by decide)
  have fw := form_word hf
  unfold formW isWr isSe isPT at fw
  rw [Bool.and_eq_true, Bool.and_eq_true, beq_iff_eq, beq_iff_eq, beq_iff_eq] at fw
  obtain ⟨⟨q1, q2⟩, q3⟩ := fw
  have q1 : (w == cWrite) = decide (f = FV) := q1
  have q2 : (w == cSend) = decide (f = FK) := q2
  have q3 : (w == cPass || w == cTake) = (decide (f = FN) || decide (f = FI)) := q3
  rw [et]
  unfold shapes at hs
  simp only [List.mem_cons, List.not_mem_nil, or_false] at hs
  rcases hs with rfl | rfl | rfl | rfl | rfl | rfl
  · obtain ⟨x, y, z, rfl, hx, hy, hz⟩ := parts3 hp
    obtain ⟨a, rfl, wa, ea⟩ := part_word hx
    obtain ⟨b, rfl, wb, eb⟩ := part_word hy
    have ew : w = cWrite := eq_of_beq (q1.trans (by decide))
    have hz : valueD z = true := by
      unfold kindD at hz
      rw [if_neg (by decide), if_pos rfl] at hz
      exact hz
    cases z with
    | str x =>
      have vx : valueS (S (tl x)) = true := by rw [show S (tl x) = x from S_tl x]; exact hz
      have go := read_write (r := 34 :: (esc (tl x) ++ [34])) ew w1 (word_free wa (by decide)) (word_free wb (by decide))
      rw [unqL_told vx, show S (tl x) = x from S_tl x] at go
      exact go
    | _ => cases hz
  · obtain ⟨x, y, rfl, hx, hy⟩ := parts2 hp
    obtain ⟨a, rfl, wa, ea⟩ := part_word hx
    obtain ⟨b, rfl, wb, eb⟩ := part_word hy
    have n1 : w ≠ cWrite := ne_of_beq_false (q1.trans (by decide))
    have n2 : w ≠ cSend := ne_of_beq_false (q2.trans (by decide))
    have n3 : ¬ (w = cPass ∨ w = cTake) := by
      have z := q3.trans (show _ = false by decide)
      rw [Bool.or_eq_false_iff] at z
      rintro (u | u)
      · exact ne_of_beq_false z.1 u
      · exact ne_of_beq_false z.2 u
    exact read_other n1 n2 n3 (TL.spl_join (parts := [w, a, b]) (by simp) (by
      intro p hp
      simp only [List.mem_cons, List.not_mem_nil, or_false] at hp
      rcases hp with rfl | rfl | rfl
      · exact w1
      · exact word_free wa (by decide)
      · exact word_free wb (by decide)))
  · obtain ⟨x, y, rfl, hx, hy⟩ := parts2 hp
    obtain ⟨a, rfl, wa, ea⟩ := part_word hx
    have ew : w = cPass ∨ w = cTake := by
      have z := q3.trans (show _ = true by decide)
      rw [Bool.or_eq_true, beq_iff_eq, beq_iff_eq] at z
      exact z
    have hy : numD y = true := by
      unfold kindD at hy
      rw [if_neg (by decide), if_neg (by decide), if_pos rfl] at hy
      exact hy
    cases y with
    | int i =>
      unfold numD at hy
      rw [Bool.and_eq_true, decide_eq_true_eq, decide_eq_true_eq] at hy
      have go := read_pt (r := joinL [32] [w, a, numL i.toNat]) (ps := [a]) (p := numL i.toNat) ew (TL.spl_join (parts := [w, a, numL i.toNat]) (by simp) (by
        intro p hp
        simp only [List.mem_cons, List.not_mem_nil, or_false] at hp
        rcases hp with rfl | rfl | rfl
        · exact w1
        · exact word_free wa (by decide)
        · exact TL.numL_free (by decide)))
      rw [numR_num (by omega), Int.toNat_of_nonneg (by omega)] at go
      exact go
    | _ => cases hy
  · obtain ⟨x, y, z, rfl, hx, hy, hz⟩ := parts3 hp
    obtain ⟨a, rfl, wa, ea⟩ := part_word hx
    obtain ⟨b, rfl, wb, eb⟩ := part_word hy
    have ew : w = cSend := eq_of_beq (q2.trans (by decide))
    have hz : (noneD z || ascD z) = true := by
      unfold kindD at hz
      rw [if_neg (by decide), if_neg (by decide), if_neg (by decide), if_neg (by decide)] at hz
      exact hz
    have go := read_send (r := partT "keys" z) ew w1 (word_free wa (by decide)) (word_free wb (by decide))
    refine go.trans ?_
    rw [Bool.or_eq_true] at hz
    rcases hz with hz | hz
    · cases z <;> first | rfl | cases hz
    · cases z with
      | tuple ds =>
        unfold ascD at hz
        rw [Bool.and_eq_true] at hz
        by_cases e : ds = []
        · subst e; rfl
        · have ne : keysT ds ≠ [] := fun z => e (by unfold keysT at z; exact List.map_eq_nil_iff.mp z)
          have e3 : spl [32] 0 [] (joinL [32] (keysT ds)) = keysT ds := TL.spl_join ne (keys_free hz.1 (by decide))
          show PyData.tuple [strS w, strS a, strS b, if spl [32] 0 [] (joinL [32] (keysT ds)) = [[42]] then .none else .tuple (((spl [32] 0 [] (joinL [32] (keysT ds))).filter fun p => !p.isEmpty).map strS)] = _
          rw [e3, if_neg, List.filter_eq_self.mpr]
          · have kb := keys_back hz.1
            rw [List.map_map] at kb
            show PyData.tuple [strS w, strS a, strS b, .tuple ((keysT ds).map (PyData.str ∘ S))] = _
            rw [kb]
            rfl
          · intro p hp
            unfold keysT at hp
            obtain ⟨d, hd, rfl⟩ := List.mem_map.mp hp
            obtain ⟨c, rfl, hc⟩ := word_txt (List.all_eq_true.mp hz.1 d hd)
            have l := (word_len hc).1
            cases c with
            | nil => simp at l
            | cons _ _ => rfl
          · intro z
            have := keys_free hz.1 (c := 42) (by decide) [42] (by rw [z]; exact List.mem_cons_self ..)
            simp at this
      | _ => cases hz
  · obtain ⟨x, y, z, rfl, hx, hy, hz⟩ := parts3 hp
    obtain ⟨a, rfl, wa, ea⟩ := part_word hx
    obtain ⟨b, rfl, wb, eb⟩ := part_word hy
    have ew : w = cPass ∨ w = cTake := by
      have z := q3.trans (show _ = true by decide)
      rw [Bool.or_eq_true, beq_iff_eq, beq_iff_eq] at z
      exact z
    have hz : indexD z = true := by
      unfold kindD at hz
      rw [if_neg (by decide), if_neg (by decide), if_neg (by decide), if_pos rfl] at hz
      exact hz
    cases z with
    | int i =>
      unfold indexD at hz
      rw [Bool.and_eq_true, decide_eq_true_eq, decide_eq_true_eq] at hz
      have go := read_pt (r := joinL [32] [w, a, b, numL i.toNat]) (ps := [a, b]) (p := numL i.toNat) ew (TL.spl_join (parts := [w, a, b, numL i.toNat]) (by simp) (by
        intro p hp
        simp only [List.mem_cons, List.not_mem_nil, or_false] at hp
        rcases hp with rfl | rfl | rfl | rfl
        · exact w1
        · exact word_free wa (by decide)
        · exact word_free wb (by decide)
        · exact TL.numL_free (by decide)))
      rw [numR_num (by omega), Int.toNat_of_nonneg (by omega)] at go
      exact go
    | _ => cases hz
  · obtain ⟨x, rfl, hx⟩ := parts1 hp
    obtain ⟨a, rfl, wa, ea⟩ := part_word hx
    have n1 : w ≠ cWrite := ne_of_beq_false (q1.trans (by decide))
    have n2 : w ≠ cSend := ne_of_beq_false (q2.trans (by decide))
    have n3 : ¬ (w = cPass ∨ w = cTake) := by
      have z := q3.trans (show _ = false by decide)
      rw [Bool.or_eq_false_iff] at z
      rintro (u | u)
      · exact ne_of_beq_false z.1 u
      · exact ne_of_beq_false z.2 u
    exact read_other n1 n2 n3 (TL.spl_join (parts := [w, a]) (by simp) (by
      intro p hp
      simp only [List.mem_cons, List.not_mem_nil, or_false] at hp
      rcases hp with rfl | rfl
      · exact w1
      · exact word_free wa (by decide)))
end TkP

set_option Elab.async false
set_option linter.all false
set_option maxRecDepth 100000
set_option maxHeartbeats 4000000
/-! zip of a tuple and a list -/
namespace TkR
open PySem PySem.Spec PyProof.Rows L2 RZ Tk
open PySem.Sem (wp)
section
variable {prog : Program} {w : World} {A : Around} {E : Value → Shared → Prop} {s : Shared}
/-- the zip q with its places P (the iterators) and O (the pair given out), over the tuple a by i and the list b by j -/
structure Mz (h : Heap) (q P O i j a b : Addr) (f : Value) (m n : Nat) : Prop where
  z : IsZip h q P O f
  p : IsPair h P (.ref i) (.ref j)
  i : h.IsTupleIter i a m
  j : h.IsListIter j b n
theorem mz_item {q P O i j a b : Addr} {m n : Nat} {us vs : Array Value} {u v c d : Value} {Q : Value → Shared → Prop} (F : ZipApart q P O i j a b) (gm : Mz s.heap q P O i j a b .none m n) (gO : IsPair s.heap O c d)
    (ga : s.heap.IsTuple a us) (gb : s.heap.IsList b vs) (gu : us[m]? = some u) (gv : vs[n]? = some v)
    (go : ∀ t, Mz t q P O i j a b (rawInt s.heap.objs.size) (m + 1) (n + 1) → IsPair t O u v → IsPair t s.heap.objs.size u v → t.objs.size = s.heap.objs.size + 1 →
      (∀ x o, x ≠ q → x ≠ O → x ≠ i → x ≠ j → s.heap.get? x = some o → t.get? x = some o) → Q (.ref s.heap.objs.size) { s with heap := t }) :
    wpAny (model prog w) A (Builtin.«zip.__next__» ⟨[.ref q], []⟩) (fun fin s' => ∃ r, fin = .done (.ret r) ∧ Q r s') E s := by
  obtain ⟨gz, gP, gi, gj⟩ := gm
  show wpAny _ _ (field (.ref q) 2 >>= _) _ _ _
  refine wpAny_bind (wpAny_field gz rfl (x := .bool false) rfl ?_)
  show wpAny _ _ (field (.ref q) 3 >>= _) _ _ _
  refine wpAny_bind (wpAny_field gz rfl (x := .ref P) rfl (wpAny_bind (wpAny_seqItems gP rfl ?_)))
  show wpAny _ _ (Builtin.SmallTypes.ownedTupleIsFree (.ref q) >>= _) _ _ _
  refine wpAny_bind (by
    unfold Builtin.SmallTypes.ownedTupleIsFree
    refine wpAny_bind (wpAny_field gz rfl (x := .none) rfl (wpAny_pure ?_))
    simp only [↓reduceIte]
    refine wpAny_bind (wpAny_rule (wpAny_bind (wpAny_field gz rfl (x := .ref O) rfl ?_)))
    refine wpAny_bind (wpAny_setField_rec gz (by simp) fun t₁ z₁ e₁ => ?_)
    replace z₁ : IsZip t₁ q P O .ellipsis := z₁
    refine wpAny_bind ?_
    simp only [List.forIn_cons, List.forIn_nil, List.zipIdx_cons, List.zipIdx_nil]
    refine wpAny_bind (wpAny_bind (wpAny_onRaise ?_))
    show wpAny _ _ (Builtin.SmallTypes.nextOf (.ref i) >>= _) _ _ _
    refine wpAny_bind (nextOf_tuple_item (gi.extBut e₁.extBut F.i1z) (ga.extBut e₁.extBut F.l1z) gu fun t₂ i₂ e₂ => wpAny_pure ?_)
    have o₂ : IsPair t₂ O c d := e₂.extBut _ _ F.TOi1 (e₁.extBut _ _ F.TOz gO)
    refine wpAny_bind (wpAny_seqItems o₂ rfl (wpAny_bind (wpAny_updateSeq_pair o₂ fun t₃ o₃ e₃ => ?_)))
    replace o₃ : IsPair t₃ O u d := o₃
    refine wpAny_bind (wpAny_letGo (wpAny_pure (wpAny_bind (wpAny_bind (wpAny_onRaise ?_)))))
    show wpAny _ _ (Builtin.SmallTypes.nextOf (.ref j) >>= _) _ _ _
    refine wpAny_bind (wpAny_nextOf_list_item (((gj.extBut e₁.extBut F.i2z).extBut e₂.extBut F.i12.symm).extBut e₃.extBut F.TOi2.symm)
      (((gb.extBut e₁.extBut F.l2z).extBut e₂.extBut F.l2i1).extBut e₃.extBut F.l2TO) gv fun t₄ j₄ e₄ => wpAny_pure ?_)
    have o₄ : IsPair t₄ O u d := e₄.extBut _ _ F.TOi2 o₃
    refine wpAny_bind (wpAny_seqItems o₄ rfl (wpAny_bind (wpAny_updateSeq_pair o₄ fun t₅ o₅ e₅ => ?_)))
    replace o₅ : IsPair t₅ O u v := o₅
    refine wpAny_bind (wpAny_letGo (wpAny_pure (wpAny_pure (wpAny_bind (wpAny_seqItems o₅ rfl (wpAny_bind (wpAny_newTuple ?_)))))))
    have ez : t₅.objs.size = s.heap.objs.size := by rw [e₅.1, e₄.1, e₃.1, e₂.1, e₁.1]
    have z₅ : IsZip t₅ q P O .ellipsis := e₅.extBut _ _ F.TOz.symm (e₄.extBut _ _ F.i2z.symm (e₃.extBut _ _ F.TOz.symm (e₂.extBut _ _ F.i1z.symm z₁)))
    have k₅ : ∀ x o, x ≠ q → x ≠ O → x ≠ i → x ≠ j → s.heap.get? x = some o → t₅.get? x = some o := fun x o n1 n2 n3 n4 e =>
      e₅.extBut _ _ n2 (e₄.extBut _ _ n4 (e₃.extBut _ _ n2 (e₂.extBut _ _ n3 (e₁.extBut _ _ n1 e))))
    have i₅ : t₅.IsTupleIter i a (m + 1) := ((i₂.extBut e₃.extBut F.TOi1.symm).extBut e₄.extBut F.i12).extBut e₅.extBut F.TOi1.symm
    have j₅ : t₅.IsListIter j b (n + 1) := j₄.extBut e₅.extBut F.TOi2.symm
    have lq : q < t₅.objs.size := Heap.lt_size z₅
    show wpAny _ _ (Builtin.SmallTypes.ownedTupleHandOut (.ref q) (.ref t₅.objs.size) >>= _) _ _ _
    refine wpAny_bind (by
      unfold Builtin.SmallTypes.ownedTupleHandOut
      have z₆ : IsZip (t₅.push { cls := .type "tuple", data := .seq #[u, v] }) q P O .ellipsis := Heap.get?_push_of_some _ z₅
      refine wpAny_bind (wpAny_setField_rec z₆ (by simp) fun t₇ z₇ e₇ => ?_)
      replace z₇ : IsZip t₇ q P O (rawInt t₅.objs.size) := z₇
      refine wpAny_setField_rec z₇ (by simp) fun t₈ z₈ e₈ => ?_
      replace z₈ : IsZip t₈ q P O (rawInt t₅.objs.size) := z₈
      have on : ∀ x o, x ≠ q → t₅.get? x = some o → t₈.get? x = some o := fun x o n1 e => e₈.extBut _ _ n1 (e₇.extBut _ _ n1 (Heap.get?_push_of_some _ e))
      have pr : IsPair t₈ t₅.objs.size u v := e₈.extBut _ _ (Nat.ne_of_gt lq) (e₇.extBut _ _ (Nat.ne_of_gt lq) (Heap.get?_push_size _ rfl))
      have sz8 : t₈.objs.size = t₅.objs.size + 1 := by rw [e₈.1, e₇.1, Heap.size_push]
      have p₅ : IsPair t₅ P (.ref i) (.ref j) := k₅ _ _ F.TIz F.TITO F.TIi1 F.TIi2 gP
      rw [ez] at z₈ pr sz8
      refine wpAny_pure ⟨_, rfl, ?_⟩
      show Q (.ref t₅.objs.size) _
      rw [ez]
      exact go t₈ ⟨z₈, on _ _ F.TIz p₅, i₅.at fun o e => on _ o F.i1z e, j₅.at fun o e => on _ o F.i2z e⟩ (on _ _ F.TOz o₅) pr sz8 fun x o n1 n2 n3 n4 e => on x o n1 (k₅ x o n1 n2 n3 n4 e)))
theorem mz_end {q P O i j a b : Addr} {m n : Nat} {us vs : Array Value} {c d : Value} {Q : Fin → Shared → Prop} (hh : A.handled = none) (F : ZipApart q P O i j a b) (gm : Mz s.heap q P O i j a b .none m n) (gO : IsPair s.heap O c d)
    (ga : s.heap.IsTuple a us) (gb : s.heap.IsList b vs) (fin : us[m]? = none ∨ vs[n]? = none)
    (go : ∀ t e, (∀ x o, x ≠ q → x ≠ O → x ≠ i → x ≠ j → s.heap.get? x = some o → t.get? x = some o) → (∃ o, t.get? e = some o ∧ o.cls = .type "StopIteration") → E (.ref e) { s with heap := t }) :
    wpAny (model prog w) A (Builtin.«zip.__next__» ⟨[.ref q], []⟩) Q E s := by
  obtain ⟨gz, gP, gi, gj⟩ := gm
  show wpAny _ _ (field (.ref q) 2 >>= _) _ _ _
  refine wpAny_bind (wpAny_field gz rfl (x := .bool false) rfl ?_)
  show wpAny _ _ (field (.ref q) 3 >>= _) _ _ _
  refine wpAny_bind (wpAny_field gz rfl (x := .ref P) rfl (wpAny_bind (wpAny_seqItems gP rfl ?_)))
  show wpAny _ _ (Builtin.SmallTypes.ownedTupleIsFree (.ref q) >>= _) _ _ _
  refine wpAny_bind (by
    unfold Builtin.SmallTypes.ownedTupleIsFree
    refine wpAny_bind (wpAny_field gz rfl (x := .none) rfl (wpAny_pure ?_))
    simp only [↓reduceIte]
    refine wpAny_bind (wpAny_rule (wpAny_bind (wpAny_field gz rfl (x := .ref O) rfl ?_)))
    refine wpAny_bind (wpAny_setField_rec gz (by simp) fun t₁ z₁ e₁ => ?_)
    replace z₁ : IsZip t₁ q P O .ellipsis := z₁
    refine wpAny_bind ?_
    simp only [List.forIn_cons, List.forIn_nil, List.zipIdx_cons, List.zipIdx_nil]
    refine wpAny_bind (wpAny_bind (wpAny_onRaise ?_))
    show wpAny _ _ (Builtin.SmallTypes.nextOf (.ref i) >>= _) _ _ _
    cases gu : us[m]? with
    | none =>
      refine wpAny_bind (nextOf_tuple_end hh (gi.extBut e₁.extBut F.i1z) (ga.extBut e₁.extBut F.l1z) gu fun t₂ e e₂ ⟨oe, he, ce⟩ => ?_)
      have z₂ : IsZip t₂ q P O .ellipsis := e₂ _ _ F.i1z.symm z₁
      have ne : e ≠ q := fun x => by
        subst x
        rw [z₂] at he
        cases he
        simp at ce
      exact wpAny_setField_rec z₂ (by simp) fun t₃ _ e₃ => go t₃ e (fun x o n1 _ n3 _ y => e₃.extBut _ _ n1 (e₂ _ _ n3 (e₁.extBut _ _ n1 y))) ⟨oe, e₃.extBut _ _ ne he, ce⟩
    | some u =>
      have gv : vs[n]? = none := by
        rcases fin with y | y
        · rw [gu] at y; cases y
        · exact y
      refine wpAny_bind (nextOf_tuple_item (gi.extBut e₁.extBut F.i1z) (ga.extBut e₁.extBut F.l1z) gu fun t₂ i₂ e₂ => wpAny_pure ?_)
      have o₂ : IsPair t₂ O c d := e₂.extBut _ _ F.TOi1 (e₁.extBut _ _ F.TOz gO)
      refine wpAny_bind (wpAny_seqItems o₂ rfl (wpAny_bind (wpAny_updateSeq_pair o₂ fun t₃ o₃ e₃ => ?_)))
      refine wpAny_bind (wpAny_letGo (wpAny_pure (wpAny_bind (wpAny_bind (wpAny_onRaise ?_)))))
      show wpAny _ _ (Builtin.SmallTypes.nextOf (.ref j) >>= _) _ _ _
      refine wpAny_bind (wpAny_nextOf_list_end hh (((gj.extBut e₁.extBut F.i2z).extBut e₂.extBut F.i12.symm).extBut e₃.extBut F.TOi2.symm)
        (((gb.extBut e₁.extBut F.l2z).extBut e₂.extBut F.l2i1).extBut e₃.extBut F.l2TO) gv fun t₄ e e₄ ⟨oe, he, ce⟩ => ?_)
      have z₄ : IsZip t₄ q P O .ellipsis := e₄ _ _ F.i2z.symm (e₃.extBut _ _ F.TOz.symm (e₂.extBut _ _ F.i1z.symm z₁))
      have ne : e ≠ q := fun x => by
        subst x
        rw [z₄] at he
        cases he
        simp at ce
      exact wpAny_setField_rec z₄ (by simp) fun t₅ _ e₅ => go t₅ e (fun x o n1 n2 n3 n4 y => e₅.extBut _ _ n1 (e₄ _ _ n4 (e₃.extBut _ _ n2 (e₂.extBut _ _ n3 (e₁.extBut _ _ n1 y))))) ⟨oe, e₅.extBut _ _ ne he, ce⟩)
theorem mz_next {q P O i j a b : Addr} {m n : Nat} {us vs : Array Value} {u v c d : Value} {Q : Option Value → Shared → Prop} (F : ZipApart q P O i j a b) (gm : Mz s.heap q P O i j a b .none m n) (gO : IsPair s.heap O c d)
    (ga : s.heap.IsTuple a us) (gb : s.heap.IsList b vs) (gu : us[m]? = some u) (gv : vs[n]? = some v)
    (go : ∀ t, Mz t q P O i j a b (rawInt s.heap.objs.size) (m + 1) (n + 1) → IsPair t O u v → IsPair t s.heap.objs.size u v → t.objs.size = s.heap.objs.size + 1 →
      (∀ x o, x ≠ q → x ≠ O → x ≠ i → x ≠ j → s.heap.get? x = some o → t.get? x = some o) → Q (some (.ref s.heap.objs.size)) { s with heap := t }) : wpAny (model prog w) A (pyNext (.ref q)) Q E s := by
  have ty : s.TypeIs (.ref q) "zip" := ⟨_, gm.z, rfl⟩
  unfold pyNext
  exact wpAny_bind (wpAny_attempt (wpAny_callSpecial?_slot (name := Str.ofString "__next__") ty PySem.F.slot_zip_next (wpAny_call_entry PySem.F.slot_zip_next ty PySem.F.entry_zip_next
    (mz_item F gm gO ga gb gu gv fun t b1 b2 b3 b4 b5 => wpAny_pure (go t b1 b2 b3 b4 b5)) (PySem.F.args_zip_next_1 _))))
theorem mz_stop {q P O i j a b : Addr} {m n : Nat} {us vs : Array Value} {c d : Value} {Q : Option Value → Shared → Prop} (hh : A.handled = none) (F : ZipApart q P O i j a b) (gm : Mz s.heap q P O i j a b .none m n) (gO : IsPair s.heap O c d)
    (ga : s.heap.IsTuple a us) (gb : s.heap.IsList b vs) (fin : us[m]? = none ∨ vs[n]? = none)
    (go : ∀ t, (∀ x o, x ≠ q → x ≠ O → x ≠ i → x ≠ j → s.heap.get? x = some o → t.get? x = some o) → Q none { s with heap := t }) : wpAny (model prog w) A (pyNext (.ref q)) Q E s := by
  have ty : s.TypeIs (.ref q) "zip" := ⟨_, gm.z, rfl⟩
  unfold pyNext
  refine wpAny_bind (wpAny_attempt (wpAny_callSpecial?_slot (name := Str.ofString "__next__") ty PySem.F.slot_zip_next (wpAny_call_entry PySem.F.slot_zip_next ty PySem.F.entry_zip_next
    (mz_end hh F gm gO ga gb fin fun t e k ⟨o, ho, co⟩ => ?_) (PySem.F.args_zip_next_1 _))))
  exact wpAny_bind (wpAny_isInstance (T := "StopIteration") (b := true) ⟨o, ho, co⟩ isSubtype_stop (wpAny_pure (go _ k)))
end
/-! ### zip(tuple, list) made -/
abbrev mz1 (h : Heap) (a : Addr) : Heap := h.push { cls := .type "tuple_iterator", data := .fields #[.ref a, .int 0 0] }
abbrev mz2 (h : Heap) (a b : Addr) : Heap := (mz1 h a).push { cls := .type "list_iterator", data := .fields #[.ref b, .int 0 0] }
abbrev mz3 (h : Heap) (a b : Addr) : Heap := (mz2 h a b).push { cls := .type "tuple", data := .seq #[.ref h.objs.size, .ref (mz1 h a).objs.size] }
abbrev mz4 (h : Heap) (a b : Addr) : Heap := (mz3 h a b).push { cls := .type "tuple", data := .seq #[.none, .none] }
abbrev mz5 (h : Heap) (a b : Addr) : Heap := (mz4 h a b).push { cls := .type "zip", data := .fields #[.none, .bool false, .bool false, .ref (mz2 h a b).objs.size, .ref (mz3 h a b).objs.size] }
theorem mz_new (a b : Addr) (us vs : Array Value) :
    Meets (Builtin.«zip.__new__» ⟨[.type "zip", .ref a, .ref b], []⟩) (fun _ R s => s.heap.IsTuple a us ∧ s.heap.IsList b vs ∧ R (.ok (.ret (.ref (mz4 s.heap a b).objs.size))) { s with heap := mz5 s.heap a b }) :=
  .of_wp fun prog w A R s h => by
    obtain ⟨hp, g, d, tk, os⟩ := s
    obtain ⟨ga, gb, h⟩ := h
    have sub := sub_zip
    have g1 : Heap.IsTuple (Shared.heap ⟨hp, g, d, tk, os⟩) a us := ga
    have g2 : Heap.IsList (Shared.heap ⟨hp.push { cls := .type "tuple_iterator", data := .fields #[.ref a, .int 0 0] }, g, d, tk, os⟩) b vs := Heap.IsList.push gb _
    wp_walk using wpAny_pyIter_tuple g1, wpAny_pyIter_list g2
    exact ⟨_, rfl, h⟩
section
variable {prog : Program} {w : World} {A : Around} {E : Value → Shared → Prop} {s : Shared}
theorem mz_call {a b : Addr} {us vs : Array Value} {Q : Value → Shared → Prop} (ga : s.heap.IsTuple a us) (gb : s.heap.IsList b vs)
    (go : ∀ t, Mz t (s.heap.objs.size + 4) (s.heap.objs.size + 2) (s.heap.objs.size + 3) s.heap.objs.size (s.heap.objs.size + 1) a b .none 0 0 → IsPair t (s.heap.objs.size + 3) .none .none →
      (∀ c o, s.heap.get? c = some o → t.get? c = some o) → Q (.ref (s.heap.objs.size + 4)) { s with heap := t }) : wpAny (model prog w) A (call (.type "zip") [.ref a, .ref b]) Q E s := by
  refine callType_new F.called_zip (by decide) (F.typeCall_zip_2 _ _) (F.newCall_zip_2 _ _) (fun o => F.args_object_init_3 o _ _) F.entry_zip_new (mz_new a b us vs) ⟨ga, gb, ?_⟩
  have n1 : (mz1 s.heap a).objs.size = s.heap.objs.size + 1 := Heap.size_push ..
  have n2 : (mz2 s.heap a b).objs.size = s.heap.objs.size + 2 := by rw [Heap.size_push, n1]
  have n3 : (mz3 s.heap a b).objs.size = s.heap.objs.size + 3 := by rw [Heap.size_push, n2]
  have n4 : (mz4 s.heap a b).objs.size = s.heap.objs.size + 4 := by rw [Heap.size_push, n3]
  have up : ∀ {h : Heap} {c : Addr} {o o' : Obj}, h.get? c = some o → (h.push o').get? c = some o := fun e => Heap.get?_push_of_some _ e
  have r5 : (mz5 s.heap a b).get? (mz4 s.heap a b).objs.size = some _ := Heap.get?_push_size _ rfl
  have r4 : (mz5 s.heap a b).get? (mz3 s.heap a b).objs.size = some _ := up (Heap.get?_push_size _ rfl)
  have r3 : (mz5 s.heap a b).get? (mz2 s.heap a b).objs.size = some _ := up (up (Heap.get?_push_size _ rfl))
  have r2 : (mz5 s.heap a b).get? (mz1 s.heap a).objs.size = some _ := up (up (up (Heap.get?_push_size _ rfl)))
  have r1 : (mz5 s.heap a b).get? s.heap.objs.size = some _ := up (up (up (up (Heap.get?_push_size _ rfl))))
  show _ ∧ _
  rw [n2, n3, n4] at r5
  rw [n1, n2] at r3
  rw [n3] at r4
  rw [n1] at r2
  rw [n4]
  exact ⟨⟨_, r5, rfl⟩, go _ ⟨r5, r3, ⟨_, r1, rfl, rfl⟩, ⟨_, r2, rfl, rfl⟩⟩ r4 fun c o x => up (up (up (up (up x))))⟩
end
/-! ### as an iterator of the rules -/
/-- the tuple at a and the list at b as they stand at each turn, the items in new pairs -/
def ItzM (K : PySem.W.Frag) (a b : Addr) : It :=
  ⟨fun i H => ∃ (xs ys : List V) (x y : V), SqT K H a xs ∧ SqL K H b ys ∧ xs[i]? = some x ∧ ys[i]? = some y,
    fun i H v H' => ∃ T x y, v = .ref T ∧ H T = none ∧ H' = upd H T (.tup [x, y]) ∧ (∀ xs, SqT K H a xs → xs[i]? = some x) ∧ ∀ ys, SqL K H b ys → ys[i]? = some y,
    fun i H => ∃ xs ys : List V, SqT K H a xs ∧ SqL K H b ys ∧ (xs.length ≤ i ∨ ys.length ≤ i)⟩
theorem turn_zipM {P : Program} {w : World} {K : PySem.W.Frag} {elts : List Expr} {kk : Nat} {tpos : Pos} {a b q p o i1 i2 : Addr} (ap : ZipApart q p o i1 i2 a b) :
    Turn P w K (.Tuple elts kk tpos) (ItzM K a b) [q, p, o, i1, i2] q (fun i h => Mz h q p o i1 i2 a b .none i i ∧ ∃ x y, IsPair h o x y) where
  mem := by simp
  obj := fun i h st c hc => by
    obtain ⟨⟨gz, gp, ⟨o1, e1, _, d1⟩, ⟨o2, e2, _, d2⟩⟩, ⟨x, y, go⟩⟩ := st
    simp only [List.mem_cons, List.not_mem_nil, or_false] at hc
    rcases hc with rfl | rfl | rfl | rfl | rfl
    · exact ⟨_, gz, fun v z => nomatch z⟩
    · exact ⟨_, gp, fun v z => nomatch z⟩
    · exact ⟨_, go, fun v z => nomatch z⟩
    · exact ⟨o1, e1, fun v z => by rw [d1] at z; cases z⟩
    · exact ⟨o2, e2, fun v z => by rw [d2] at z; cases z⟩
  keep := fun i h h' st k => by
    obtain ⟨⟨gz, gp, gi, gj⟩, ⟨x, y, go⟩⟩ := st
    exact ⟨⟨k q (by simp) _ gz, k p (by simp) _ gp, gi.at fun u z => k i1 (by simp) u z, gj.at fun u z => k i2 (by simp) u z⟩, x, y, k o (by simp) _ go⟩
  item := by
    intro X hP hw hK hc i pins s σ H E I hf st hg
    subst hP hw hK
    obtain ⟨gm, ⟨x0, y0, go⟩⟩ := st
    obtain ⟨xs, ys, x, y, qx, qy, hx, hy⟩ := hg
    obtain ⟨its, rv, pa, _⟩ := I.tuple qx
    obtain ⟨its2, rv2, pb, _⟩ := I.list qy
    obtain ⟨u, hu, ru⟩ := rv.get hx
    obtain ⟨u2, hu2, ru2⟩ := rv2.get hy
    have lq : q < s.heap.objs.size := Heap.lt_size gm.z
    refine mz_next ap gm go pa pb.isList (u := u) (v := u2) (by simpa using hu) (by simpa using hu2) fun t mt ot pt sz kt => ?_
    refine ⟨_, rfl, wpAny_letOwnedTupleGo_zip (s := { s with heap := t }) mt.z fun t2 z2 sb => ?_⟩
    have pt2 : t2.get? s.heap.objs.size = some { cls := .type "tuple", data := .seq #[u, u2] } := (sb.2 _ (Nat.ne_of_gt lq)).trans pt
    have nw : ObjOk X.prog X.w (upd H s.heap.objs.size (.tup [x, y])) t2 s.heap.objs.size (.tup [x, y]) :=
      ⟨by show 2 ≤ sizeLine; decide, [u, u2], .cons ru (.cons ru2 .nil), ⟨_, pt2, rfl, _, rfl⟩⟩
    have I1 : Inv X pins σ (upd H s.heap.objs.size (.tup [x, y])) { s with heap := t2 } :=
      I.turnedNew (t' := s.toks) (ch := [q, p, o, i1, i2]) (fun c e hb z => (sb.2 c (fun v => hb (by simp [v]))).trans (kt c e (fun v => hb (by simp [v])) (fun v => hb (by simp [v])) (fun v => hb (by simp [v])) (fun v => hb (by simp [v])) z)) hf (Nat.le_refl _) nw
    refine ⟨.ref s.heap.objs.size, _, I1, rfl, ⟨_, x, y, rfl, I.hok.fresh (Nat.le_refl _), rfl, fun l hl => by rw [I.tuple_inj hl qx]; exact hx, fun l hl => by rw [I.list_inj hl qy]; exact hy⟩, ⟨⟨z2, ?_, ?_, ?_⟩, ⟨u, u2, ?_⟩⟩, fun c hcm => ?_⟩
    · exact (sb.2 _ ap.TIz).trans mt.p
    · exact mt.i.at fun e z => (sb.2 _ ap.i1z).trans z
    · exact mt.j.at fun e z => (sb.2 _ ap.i2z).trans z
    · exact (sb.2 _ ap.TOz).trans ot
    · have lt : c < s.heap.objs.size := by
        simp only [List.mem_cons, List.not_mem_nil, or_false] at hcm
        rcases hcm with rfl | rfl | rfl | rfl | rfl
        · exact lq
        · exact Heap.lt_size gm.p
        · exact Heap.lt_size go
        · obtain ⟨_, e1, _⟩ := gm.i; exact Heap.lt_size e1
        · obtain ⟨_, e2, _⟩ := gm.j; exact Heap.lt_size e2
      rw [upd_ne (Nat.ne_of_lt lt)]
      exact (hf c hcm).1
  done := by
    intro X hP hw hK hc i pins s σ H E I hf st hg
    subst hP hw hK
    obtain ⟨gm, ⟨x0, y0, go⟩⟩ := st
    obtain ⟨xs, ys, qx, qy, fin⟩ := hg
    obtain ⟨its, rv, pa, _⟩ := I.tuple qx
    obtain ⟨its2, rv2, pb, _⟩ := I.list qy
    have l1 := rv.length
    have l2 := rv2.length
    have he : its.toArray[i]? = none ∨ its2.toArray[i]? = none := by
      rcases fin with z | z
      · left
        simp
        omega
      · right
        simp
        omega
    exact mz_stop (I.ok.hd hc) ap gm go pa pb.isList he fun t kt => ⟨rfl, I.turnedL (t' := s.toks) (ch := [q, p, o, i1, i2]) (fun c e hb z =>
      kt c e (fun v => hb (by simp [v])) (fun v => hb (by simp [v])) (fun v => hb (by simp [v])) (fun v => hb (by simp [v])) z) hf⟩
  self := fun A i s Q E st h => wpAny_pyIter_zip st.1.z h
def iZipM (K : PySem.W.Frag) (ta : TA) : L2.TI := fun σ H R => ta σ H fun vs H1 => ∃ a b xs ys, vs = [.ref a, .ref b] ∧ SqT K H1 a xs ∧ SqL K H1 b ys ∧ R (ItzM K a b) H1
theorem k_zipM {X : Cx} {K : PySem.W.Frag} {e e2 : Expr} {ta : TA} {p pos tpos : Pos} {elts : List Expr} {kk : Nat} (hg : Gl X "zip") (hm : X.mg "zip" = none) (ha : PA X [e, e2] ta) (ek : X.K = K := by rfl)
    (hs : starEach [e, e2] X.env = (false, eval e X.env) :: starEach [e2] X.env := by rfl) (hpl : (backTo pos (starEach [e2] X.env)).any (·.1) = false := by rfl) : PI X (.Tuple elts kk tpos) (.Call (.Name "zip" p) [e, e2] [] pos) (iZipM K ta) := by
  subst ek
  refine ⟨fun pins s σ H R I h => ?_⟩
  refine Call_ (ld_blt I hg hm PyProof.Rows.boot_zip (PyProof.Rows.callWith_type1 (thn (ha.run pos pins s σ H _ I h) fun us s1 ⟨vs, H1, I1, r1, a, b, xs, ys, ex, qx, qy, go⟩ => ?_) hs hpl))
  subst ex
  obtain ⟨ua, ub, rfl, ra, rb⟩ := vals2 r1
  obtain rfl : ua = Value.ref a := ra
  obtain rfl : ub = Value.ref b := rb
  obtain ⟨its, rv, pa, _⟩ := I1.tuple qx
  obtain ⟨its2, rv2, pb, _⟩ := I1.list qy
  obtain ⟨oa, ha, _⟩ := id pa
  have fresh : ∀ c, c ∈ [s1.heap.objs.size + 4, s1.heap.objs.size + 2, s1.heap.objs.size + 3, s1.heap.objs.size, s1.heap.objs.size + 1] → FpOk X pins H1 c := fun c hc => by
    have le : s1.heap.objs.size ≤ c := by
      simp only [List.mem_cons, List.not_mem_nil, or_false] at hc
      rcases hc with z | z | z | z | z
      · rw [z]; exact Nat.le_add_right _ _
      · rw [z]; exact Nat.le_add_right _ _
      · rw [z]; exact Nat.le_add_right _ _
      · rw [z]; exact Nat.le_refl _
      · rw [z]; exact Nat.le_add_right _ _
    exact I1.fpOk le (I1.hok.fresh le)
  refine mz_call (show s1.heap.IsTuple a its.toArray from pa) pb.isList fun t gm go4 kt => wpAny_pyIter_zip gm.z ?_
  have I2 : Inv X pins σ H1 { s1 with heap := t } := I1.kept (t' := s1.toks) kt
  exact ⟨s1.heap.objs.size + 4, [s1.heap.objs.size + 4, s1.heap.objs.size + 2, s1.heap.objs.size + 3, s1.heap.objs.size, s1.heap.objs.size + 1], _, _, H1, rfl, I2, turn_zipM (PySem.W.ktu_apart s1.heap.objs.size a b (Heap.lt_size ha) pb.lt), ⟨gm, _, _, go4⟩, fresh, go⟩
theorem walk_zipM {K : PySem.W.Frag} {a b : Addr} {xs ys : List V} {n : Nat} (hn : n = min xs.length ys.length) : Walk (ItzM K a b) n (fun H => SqT K H a xs ∧ SqL K H b ys) (YPair (fun i => xs[i]?) (fun i => ys[i]?)) := by
  subst hn
  constructor
  · intro i H hi q
    exact ⟨xs, ys, xs[i]'(by omega), ys[i]'(by omega), q.1, q.2, List.getElem?_eq_getElem _, List.getElem?_eq_getElem _⟩
  · exact fun H q => ⟨xs, ys, q.1, q.2, by omega⟩
  · rintro i H v H' _ q ⟨T, x, z, h1, h2, h3, h4, h5⟩
    exact ⟨T, x, z, h1, h2, h3, h4 xs q.1, h5 ys q.2⟩
theorem r_zipM {K : PySem.W.Frag} {ta : TA} {σ : L2.St} {H : Hp} {R : It → Hp → Prop} (h : ta σ H fun vs H1 => ∃ a b xs ys, vs = [.ref a, .ref b] ∧ SqT K H1 a xs ∧ SqL K H1 b ys ∧ R (ItzM K a b) H1) : iZipM K ta σ H R := h
/-- a comprehension over zip of a tuple and a list: as many as the shorter one has -/
theorem lc_zipM {K : PySem.W.Frag} {a b : Addr} {xs ys : List V} {s1 s2 : Nat} (hne : s1 ≠ s2) {te : TE} {σ : L2.St} {H1 : Hp} {Qd : VK} (rs : List V) (hl : rs.length = min xs.length ys.length) (hn : rs.length ≤ 100000) (ha : ∀ H', Same H1 H' → SqT K H' a xs) (hb : ∀ H', Same H1 H' → SqL K H' b ys)
    (he : ∀ (i : Nat) (x y r : V), xs[i]? = some x → ys[i]? = some y → rs[i]? = some r → ∀ (H2 : Hp) (R : VK), Same H1 H2 → (∀ H3, Same H2 H3 → R r H3) → te ((σ.set s1 (some x)).set s2 (some y)) H2 R)
    (hd : ∀ (D : Addr) (H' : Hp), H1 D = none → Same H1 H' → H' D = some (.lst rs) → Qd (.ref D) H') :
    LcG (ItzM K a b) (gTup K 2 (gCons (gName s1) (gCons (gName s2) gNil))) tYes te [s1, s2] σ H1 Qd := by
  intro D hD
  refine lc_it (Qd := fun H' => Qd (.ref D) H') (walk_zipM (n := rs.length) hl) (fun i H' => Same H1 H' ∧ H' D = some (.lst (rs.take i))) ⟨Same.new hD, upd_same⟩ (fun i H' _ p => ⟨ha H' p.1, hb H' p.1⟩) ?_ (fun H' p => hd D H' hD p.1 (by rw [p.2, List.take_length]))
  rintro i v H2 H2' hi ⟨p1, p2⟩ ⟨T, x, y, rfl, hT, rfl, hx, hy⟩
  have hr : rs[i]? = some rs[i] := List.getElem?_eq_getElem hi
  refine ⟨T, [x, y], rfl, SqT.of upd_same, rfl, x, [y], rfl, y, [], rfl, rfl, ?_, ?_⟩
  · show wipe (((wipe σ [s1, s2]).set s1 (some x)).set s2 (some y)) [s1, s2] = wipe σ [s1, s2]
    simp only [wipe]
    apply List.ext_getElem?
    intro j
    simp only [List.getElem?_set, List.length_set]
    by_cases h1 : s1 = j <;> by_cases h2 : s2 = j <;> simp [h1, h2]
  · have e1 : ((wipe σ [s1, s2]).set s1 (some x)).set s2 (some y) = (σ.set s1 (some x)).set s2 (some y) := by
      simp only [wipe]
      apply List.ext_getElem?
      intro j
      simp only [List.getElem?_set, List.length_set]
      by_cases h1 : s1 = j <;> by_cases h2 : s2 = j <;> simp [h1, h2]
    simp only [tYes, reduceIte]
    rw [e1]
    refine he i x y _ hx hy hr _ _ (p1.trans (Same.new hT)) fun H3 s3 => ?_
    have e4 := s3 _ _ (Same.new (o := .tup [x, y]) hT _ _ p2)
    refine ⟨_, e4, sz_lt (by rw [List.length_take]; omega), Same.mut ((p1.trans (Same.new hT)).trans s3) hD, ?_⟩
    rw [upd_same, List.take_add_one, hr]
    rfl
end TkR

set_option Elab.async false
set_option linter.all false
set_option maxRecDepth 100000
set_option maxHeartbeats 4000000
/-! str(x) of a number or a text; lengths of what is written -/
namespace Tk
open PySem PySem.Spec PyProof.Rows L2 SX
def rStrX : List V → Hp → VK → Prop := fun xs H Q => (∃ i : Int, xs = [.int i] ∧ i.natAbs.log2 < 1920 ∧ Q (.str (toString i)) H) ∨ ∃ a : Str, xs = [.str a] ∧ Q (.str a) H
theorem k_strX {X : Cx} : CallR X (.type "str") rStrX := by
  intro pins s σ H xs us Q I r h
  rcases h with h | h
  · exact call_str_int pins s σ H xs us Q I r h
  · exact SkE.call_str_str pins s σ H xs us Q I r h
/-! tuple(xs) -/
def rTupOf (K : PySem.W.Frag) : List V → Hp → VK → Prop := fun xs H Q => ∃ p ys, xs = [.ref p] ∧ ((SqL K H p ys ∧ ∀ l, H l = none → Q (.ref l) (upd H l (.tup ys))) ∨ (SqT K H p ys ∧ Q (.ref p) H))
theorem k_tupOf {X : Cx} {K : PySem.W.Frag} (e : X.K = K := by rfl) : CallR X (.type "tuple") (rTupOf K) := by
  subst e
  exact call_tuple_of
theorem r_tupOf {K : PySem.W.Frag} {p : Addr} {xs : List V} {H : Hp} {Q : VK} (h : H p = some (.lst xs)) (q : ∀ l H2, H l = none → Same H H2 → H2 l = some (.tup xs) → Q (.ref l) H2) : rTupOf K [.ref p] H Q :=
  ⟨p, xs, rfl, .inl ⟨SqL.of h, fun l hl => q l _ hl (Same.new hl) upd_same⟩⟩
theorem g_catL {K : PySem.W.Frag} {l b : Addr} {xs zs : List V} {H : Hp} {Q : VK} (e1 : H l = some (.lst xs)) (e2 : H b = some (.lst zs)) (hl : xs.length + zs.length ≤ 100000) (q : ∀ p H', H p = none → Same H H' → H' p = some (.lst (xs ++ zs)) → Q (.ref p) H') : GAdd K (.ref l) (.ref b) H Q :=
  .inr (.inr (.inl ⟨l, b, xs, zs, rfl, rfl, e1, e2, by unfold sizeLine; omega, fun p hp => q p _ hp (Same.new hp) upd_same⟩))
/-! a comprehension over zip of a tuple and a list that makes data -/
open TkR in
theorem lc_zipMD {K : PySem.W.Frag} {a b : Addr} {xs ys : List V} {s1 s2 : Nat} {te : TE} {σ : L2.St} {H1 : Hp} {Qd : VK} (ds : List PyData) (hl : ds.length = min xs.length ys.length) (hn : ds.length ≤ 100000) (fl : lsAll (fun _ => false) ds = true) (ha : ∀ H', Same H1 H' → SqT K H' a xs) (hb : ∀ H', Same H1 H' → SqL K H' b ys)
    (he : ∀ (i : Nat) (x y : V) (d : PyData), xs[i]? = some x → ys[i]? = some y → ds[i]? = some d → ∀ (H2 : Hp) (R : VK), Same H1 H2 → (∀ r H3, Same H2 H3 → Dd K H3 r d → R r H3) → te ((σ.set s1 (some x)).set s2 (some y)) H2 R)
    (hd : ∀ (D : Addr) (H' : Hp) (rs : List V), H1 D = none → Same H1 H' → H' D = some (.lst rs) → DdAll K H' rs ds → Qd (.ref D) H') :
    LcG (ItzM K a b) (gTup K 2 (gCons (gName s1) (gCons (gName s2) gNil))) tYes te [s1, s2] σ H1 Qd := by
  intro D hD
  refine lc_it (Qd := fun H' => Qd (.ref D) H') (walk_zipM (n := ds.length) hl) (fun i H' => Same H1 H' ∧ ∃ rs, H' D = some (.lst rs) ∧ DdAll K H' rs (ds.take i)) ⟨Same.new hD, [], upd_same, .nil⟩ (fun i H' _ p => ⟨ha H' p.1, hb H' p.1⟩) ?_
    (fun H' ⟨p1, rs, p2, p3⟩ => hd D H' rs hD p1 p2 (by rw [List.take_length] at p3; exact p3))
  rintro i v H2 H2' hi ⟨p1, rs, p2, p3⟩ ⟨T, x, y, rfl, hT, rfl, hx, hy⟩
  have hr : ds[i]? = some ds[i] := List.getElem?_eq_getElem hi
  have lk := p3.length
  refine ⟨T, [x, y], rfl, SqT.of upd_same, rfl, x, [y], rfl, y, [], rfl, rfl, ?_, ?_⟩
  · show wipe (((wipe σ [s1, s2]).set s1 (some x)).set s2 (some y)) [s1, s2] = wipe σ [s1, s2]
    simp only [wipe]
    apply List.ext_getElem?
    intro j
    simp only [List.getElem?_set, List.length_set]
    by_cases h1 : s1 = j <;> by_cases h2 : s2 = j <;> simp [h1, h2]
  · have e1 : ((wipe σ [s1, s2]).set s1 (some x)).set s2 (some y) = (σ.set s1 (some x)).set s2 (some y) := by
      simp only [wipe]
      apply List.ext_getElem?
      intro j
      simp only [List.getElem?_set, List.length_set]
      by_cases h1 : s1 = j <;> by_cases h2 : s2 = j <;> simp [h1, h2]
    simp only [tYes, reduceIte]
    rw [e1]
    refine he i x y _ hx hy hr _ _ (p1.trans (Same.new hT)) fun r H3 s3 dr => ?_
    have s23 : Same H2 H3 := (Same.new hT).trans s3
    have e4 := s23 _ _ p2
    have bt : But D H3 (upd H3 D (.lst (rs ++ [r]))) := fun c o e n => by rw [upd_ne n]; exact e
    have fi : lsAll (fun _ => false) (ds.take i) = true := lsAll_iff.mpr fun d hd => lsAll_iff.mp fl d (List.mem_of_mem_take hd)
    have fd : lsD (fun _ => false) ds[i] = true := lsAll_iff.mp fl _ (List.getElem_mem hi)
    refine ⟨_, e4, sz_lt (by rw [lk, List.length_take]; omega), Same.mut (p1.trans s23) hD, rs ++ [r], upd_same, ?_⟩
    rw [List.take_add_one, hr]
    exact (DdAll.chg bt ⟨_, e4⟩ (fun _ _ _ _ => rfl) _ _ fi (DdAll.same s23 _ _ p3)).append (.cons (Dd.chg bt ⟨_, e4⟩ (fun _ _ _ _ => rfl) _ _ fd dr) .nil)
end Tk

set_option Elab.async false
set_option linter.all false
set_option maxRecDepth 100000
set_option maxHeartbeats 4000000
/-! e.replace(c + d, z) of written texts -/
namespace Tk
open PySem PySem.Spec PyProof.Rows L2 CwR
theorem pet_replB {X : Cx} {o : Expr} {to : TE} {c d z : Str} {j j' k : Nat} {c0 c0' c1 bpos apos pos : Pos} (ho : PET X o to) (hc : (c.length == 0) = false := by decide) (hd : (d.length == 0) = false := by decide) (hf : c.length + d.length ≤ 100 := by decide) (hyz : ((c ++ d) == z) = false := by decide)
    (hst : starEach [.BinOp (.Constant (.str c) j c0) .Add (.Constant (.str d) j' c0') bpos, .Constant (.str z) k c1] X.env = [(false, eval (.BinOp (.Constant (.str c) j c0) .Add (.Constant (.str d) j' c0') bpos) X.env), (false, eval (.Constant (.str z) k c1) X.env)] := by rfl)
    (hbase : attributeBase o "replace" X.env (eval o X.env) = eval o X.env := by rfl) (hline : (apos.endLine == pos.line) = true := by rfl) :
    PET X (.Call (.Attribute o "replace" apos) [.BinOp (.Constant (.str c) j c0) .Add (.Constant (.str d) j' c0') bpos, .Constant (.str z) k c1] [] pos) (tReplC to (c ++ d) z) := by
  intro pn s σ H Q h0 I h
  refine PySem.Call_method2 hbase hst hline (wpAny_mono (PySem.wpAny_toks (ho pn s σ H _ h0 I h)) (fun v s1 q => ?_) fun _ _ z => z.2)
  obtain ⟨hk, v', H1, I1, r1, x, e1, hb, q⟩ := q
  subst e1
  obtain ⟨tx, e2⟩ := r1
  subst e2
  refine ⟨"str", _, PySem.F.plainAttrs_str, PySem.F.slot_str_replace, PySem.F.type_str_replace, typeIs_str _ _ _, (fun _ e => nomatch e), Calls.callWith_builtin rfl (Calls.evalArgs_plain (Calls.spliced_cons (wpAny_BinOp (Calls.Constant_str (Calls.Constant_str (PySem.P.add_str ?_))))))⟩
  rw [hc, hd]
  refine ⟨by rw [cat_len]; exact sz_of (by omega), Calls.spliced_cons (Calls.Constant_str (Calls.spliced_nil ?_))⟩
  exact PySem.SC.replace (by show s1.toks + 1 + 1 ≠ 0; omega) (by show s1.toks + 1 + 1 + 1 ≠ 0; omega) (by show s1.toks + 1 + 1 ≠ s1.toks + 1 + 1 + 1; omega) hyz hb fun t' k => ⟨.str (Txt.replace x (c ++ d) z), H1, I1.tok k, ⟨t', rfl⟩, q⟩
/-- a written tuple, a token out -/
theorem pet_tupT {X : Cx} {es : List Expr} {ta : TA} {pos : Pos} {x1} (h : PAT X es ta) : PET X (.Tuple es x1 pos) (tTup ta) := by
  intro pn s σ H Q h0 I hq
  refine wpAny_Tuple_spliced (thn (h pos pn s σ H _ h0 I hq) fun us s1 ⟨xs, H1, I1, r, z, q⟩ => ⟨by rw [← r.length]; exact z, ?_⟩)
  have new : H1 s1.heap.objs.size = none := I1.hok.fresh (Nat.le_refl _)
  refine ⟨.ref s1.heap.objs.size, upd H1 s1.heap.objs.size (.tup xs), I1.laid (t' := s1.toks) (fun c o e => Heap.get?_push_of_some _ e) (Nat.le_refl _) ?_, rfl, q _ new⟩
  exact ⟨z, us, r, ⟨_, Heap.get?_push_size _ rfl, rfl, _, rfl⟩⟩
end Tk

set_option Elab.async false
set_option linter.all false
set_option maxRecDepth 100000
set_option maxHeartbeats 4000000
-- TOKS t1 t2 t3 t4
namespace K07
open PySem PySem.Spec PyProof.Rows L2 Tk
local macro_rules | `(tactic| walk_at "rd1") => `(tactic| first
  | with_reducible refine r_seq ?_
  | ((with_reducible refine r_var (v := ?vv) ?hrv ?_); (case hrv => rfl))
  | with_reducible refine r_c ?_
  | with_reducible refine r_op ?_
  | ((with_reducible refine r_ixL (xs := ?xx) (v := ?vv) ?hh ?he ?_); (case hh => first | assumption | exact upd_same); (case he => rfl))
  | with_reducible refine r_asg ?_
  | with_reducible refine r_sub ?_
  | ((with_reducible refine r_gTup (xs := ?xx) ?hh ?he ?_); (case hh => assumption); (case he => rfl))
  | with_reducible refine r_gCons ?_
  | with_reducible refine r_gNil ?_
  | ((with_reducible refine r_setL (xs := ?xx) (j := ?vv) ?hh ?he ?_); (case hh => first | assumption | exact upd_same); (case he => rfl))
  | with_reducible refine r_pow15 ?_
  | with_reducible refine r_pow18 ?_
  | with_reducible refine r_repr ?_
  | with_reducible refine iteT ?_
  | with_reducible refine iteF ?_
  | with_reducible refine r_cons ?_
  | with_reducible refine r_nil ?_
  | with_reducible refine r_call ?_
  | with_reducible refine r_cb ?_
  | with_reducible refine r_ret ?_
  | with_reducible refine r_gName ?_
  | with_reducible refine r_next ?_
  | with_reducible refine r_ifS ?_
  | with_reducible refine r_un ?_
  | with_reducible refine r_U ?_
  | with_reducible refine r_max2 ?_
  | with_reducible refine r_min2 ?_
  | with_reducible refine r_sl ?_
  | with_reducible refine r_noPart ?_
  | with_reducible refine r_part ?_
  | with_reducible refine r_inti ?_
  | with_reducible refine r_lc ?_
  | with_reducible refine r_for ?_
  | with_reducible refine r_rng1 ?_
  | with_reducible refine r_iList ?_
  | with_reducible refine r_iTup ?_
  | with_reducible refine r_iStr ?_
  | with_reducible refine r_strx ?_
  | ((with_reducible refine r_j ?hh ?hi ?_); (case hh => omega); (case hi => omega))
  | with_reducible refine r_m1 ?_
  | with_reducible refine r_test ?_
  | with_reducible refine r_B ?_
  | with_reducible refine r_not ?_
  | with_reducible refine r_and ?_
  | with_reducible refine r_or ?_
  | with_reducible refine r_andV ?_
  | with_reducible refine r_orV ?_
  | with_reducible refine r_notV ?_
  | with_reducible refine r_if ?_
  | with_reducible refine r_chain ?_
  | with_reducible refine r_lst ?_
  | with_reducible refine r_tup ?_
  | with_reducible refine r_k ?_
  | ((with_reducible refine r_isiS (d := ?dd) ?hh ?_); (case hh => assumption))
  | ((with_reducible refine r_isiT (d := ?dd) ?hh ?_); (case hh => assumption))
  | ((with_reducible refine r_isiI (d := ?dd) ?hh ?_); (case hh => assumption))
  | ((with_reducible refine r_isiB (d := ?dd) ?hh ?_); (case hh => assumption))
  | ((with_reducible refine r_lenS ?hh ?_); (case hh => assumption))
  | ((with_reducible refine r_lenT (xs := ?dd) ?hh ?_); (case hh => assumption))
  | ((with_reducible refine r_ixT (xs := ?xx) (v := ?vv) ?hh ?he ?_); (case hh => assumption); (case he => rfl))
  | with_reducible refine r_isN ?_
  | with_reducible refine r_I0 ?_
  | with_reducible refine g_addI ?_
  | ((with_reducible refine r_mod ?hh ?_); (case hh => first | decide | omega))
  | ((with_reducible refine r_div ?hh ?hi ?_); (case hh => first | decide | omega); (case hi => first | decide | omega))
  | ((with_reducible refine g_mulB ?hh ?hi ?_); (case hh => omega); (case hi => omega))
  | with_reducible refine g_ltI ?_
  | with_reducible refine g_leI ?_
  | with_reducible refine g_gtI ?_
  | with_reducible refine g_geI ?_
  | with_reducible refine g_eqI ?_
  | with_reducible refine g_neI ?_
  | with_reducible refine g_eqS ?_
  | with_reducible refine g_neS ?_
  | with_reducible refine g_leS ?_
  | with_reducible refine g_ltS ?_)
local macro_rules | `(tactic| walk_at "rd") => `(tactic| repeat (walk_at "rd1"))
local macro_rules | `(tactic| walk_at "ed") => `(tactic| repeat first
  | exact ed_int
  | exact ed_str
  | exact ed_bl
  | exact ed_non
  | exact ed_nil
  | exact ed_dct
  | exact ed_neg
  | with_reducible apply ed_cons
  | with_reducible apply ed_tup
  | with_reducible apply ed_lst
  | exact Nat.le_of_ble_eq_true rfl)
local macro_rules | `(tactic| walk_at "tx1") => `(tactic| first
  | walk_at "rd1"
  | with_reducible refine r_callS ?_
  | with_reducible refine r_zipA ?_
  | with_reducible refine r_par ?_
  | with_reducible refine r_pair ?_
  | with_reducible refine r_pow6 ?_
  | with_reducible refine r_m0 ?_
  | with_reducible refine r_bm ?_
  | with_reducible refine r_isS ?_
  | with_reducible refine r_told ?_
  | with_reducible refine r_js ?_
  | with_reducible refine r_jsNil ?_
  | with_reducible refine r_repl ?_
  | ((with_reducible refine r_gLst (xs := ?xx) ?hh ?he ?_); (case hh => assumption); (case he => rfl))
  | ((with_reducible refine r_lenL (xs := ?xx) ?hh ?_); (case hh => assumption)))
local macro_rules | `(tactic| walk_at "tx") => `(tactic| repeat (walk_at "tx1"))
def top (i : Nat) : Stmt := PySem.Challenge.pw_tombkeeper_k07_events_as_text.main.body.getD i (.Pass ⟨0, 0, 0, 0⟩)
structure Txt (mg : Str → Option Value) (t1 t2 t3 t4 : Tok) : Prop where
  z_len : mg "len" = none
  z_all : mg "all" = none
  z_isinstance : mg "isinstance" = none
  z_str : mg "str" = none
  z_tuple : mg "tuple" = none
  z_int : mg "int" = none
  z_bool : mg "bool" = none
  z_list : mg "list" = none
  z_set : mg "set" = none
  z_sorted : mg "sorted" = none
  z_zip : mg "zip" = none
  z_repr : mg "repr" = none
  z_ValueError : mg "ValueError" = none
  z_range : mg "range" = none
  z_max : mg "max" = none
  z_min : mg "min" = none
  g_LONGEST_WORD : mg "LONGEST_WORD" = some (.int 8 t1)
  g_LONGEST_VALUE : mg "LONGEST_VALUE" = some (.int 40 t2)
  g_GREATEST_NUMBER : mg "GREATEST_NUMBER" = some (.int 1000000000000000 t3)
  g_MOST_DIGITS : mg "MOST_DIGITS" = some (.int 16 t4)
section
variable {t1 t2 t3 t4 : Tok} {P : Program} {w : World} {K : PySem.W.Frag} {mg : Str → Option Value} {base : Heap}
abbrev s_L_take : Stmt := top 30
abbrev n_L_take : List Str := ["_law_pool_here", "_law_many", "_law_found"]
abbrev p_L_take : List Str := ["_law_pool_here", "_law_many"]
theorem sc_L_take : FnScope n_L_take p_L_take (defScope s_L_take) := ⟨rfl, rfl, rfl, by decide +kernel, rfl, by decide +kernel, by decide +kernel⟩
theorem ok_L_take (T : Txt mg t1 t2 t3 t4) {f : Addr} {fd : FuncData} (F : Fun K "_law_take" "_law_take" s_L_take f fd) : FnOk P w K mg base CX0 1 f fd p_L_take spTake := by
  refine F.ok sc_L_take (fun vs H Q E h => spTake_len h) (fun cdv A outer s H vs Q E hr h => ?_)
  obtain ⟨p, m, rfl, ⟨a, b, hp, ha, hb, hb2⟩, hm, hm2, k⟩ := h
  have hu := hr.units
  have dr : ∀ {o : HO}, PoolAt (upd H p o) p → Drawn p H (upd H p o) := fun h => ⟨fun c u e n => by rw [upd_ne n]; exact e, h⟩
  refine ⟨_, (pss_cons (ps_if (pt_cmpR o_gt (pe_ix k_ix (pv 0) pe_int (fun _ _ => rfl)) pe_int (nomark _)) (pss_cons (ps_set (i := 2) sc_L_take.nd rfl (by first | exact Or.inl rfl | exact Or.inr rfl) (pe_op op_mod (pe_ix k_ix (pv 0) pe_int (fun _ _ => rfl)) (pv 1)))
      (pss_cons (ps_asg (pe_op o_fdiv (pe_ix k_ix (pv 0) pe_int (fun _ _ => rfl)) (pv 1)) (pg_sub (pv 0) pe_int set_list))
      (pss_one (ps_ret (pv 2))))) pss_nil)
      (pss_cons (ps_asg (pe_op op_mod (pe_op k_add (pe_op o_mul (pe_ix k_ix (pv 0) pe_int (fun _ _ => rfl)) pe_int) pe_int) pe_int) (pg_sub (pv 0) pe_int set_list))
      (pss_one (ps_ret (pe_op op_mod (pe_op o_fdiv (pe_op op_mod (pe_op o_mul (pe_ix k_ix (pv 0) pe_int (fun _ _ => rfl)) (pe_ix k_ix (pv 0) pe_int (fun _ _ => rfl))) pe_int) pe_int) (pv 1)))))), ?_⟩
  walk_at "rd"
  refine r_dec (fun c => ?_) (fun c => ?_)
  · walk_at "rd"
    exact k _ _ (Int.emod_nonneg _ (by omega)) (Int.emod_lt_of_pos _ hm) (dr (pool_mk1 (Int.ediv_nonneg ha (Int.le_of_lt hm)) hb hb2))
  · walk_at "rd"
    exact k _ _ (Int.emod_nonneg _ (by omega)) (Int.emod_lt_of_pos _ hm) (dr (pool_mk ha (Int.emod_nonneg _ (by decide)) (Int.emod_lt_of_pos _ (by decide))))
abbrev s_L_pool : Stmt := top 29
abbrev n_L_pool : List Str := ["_law_script", "_law_k", "_law_cell", "_law_seed"]
abbrev p_L_pool : List Str := ["_law_script", "_law_k"]
theorem sc_L_pool : FnScope n_L_pool p_L_pool (defScope s_L_pool) := ⟨rfl, rfl, rfl, by decide +kernel, rfl, by decide +kernel, by decide +kernel⟩
theorem ok_L_pool (T : Txt mg t1 t2 t3 t4) {f : Addr} {fd : FuncData} (F : Fun K "_law_pool" "_law_pool" s_L_pool f fd) : FnOk P w K mg base CX0 1 f fd p_L_pool (spPool K) := by
  refine F.ok sc_L_pool (fun vs H Q E h => spPool_len h) (fun cdv A outer s H vs Q E hr h => ?_)
  obtain ⟨sc, ns, i, rfl, hS, hl, h0, h1, k⟩ := h
  have hu := hr.units
  refine ⟨_, (pss_cons (ps_set (i := 2) sc_L_pool.nd rfl (by first | exact Or.inl rfl | exact Or.inr rfl) pe_int)
      (pss_cons (ps_if (pt_cmpR o_lt (pv 1) (pe_callB k_len (by rfl) T.z_len (by decide +kernel) (pa_cons (pv 0) pa_nil)) (nomark _)) (pss_one (ps_set (i := 2) sc_L_pool.nd rfl (by first | exact Or.inl rfl | exact Or.inr rfl) (pe_ix k_ix (pv 0) (pv 1) (fun _ _ => rfl)))) pss_nil)
      (pss_cons (ps_set (i := 3) sc_L_pool.nd rfl (by first | exact Or.inl rfl | exact Or.inr rfl) (pe_op op_mod (pe_op o_mul (pe_op k_add (pe_op k_add (pe_op op_mod (pv 2) pe_int) (pe_op o_mul (pe_op o_mul pe_int (pv 1)) (pv 1))) pe_int) pe_int) pe_int))
      (pss_cons (ps_if (pt_cmpR o_lt (pv 2) (pe_op op_pow pe_int pe_int) (nomark _)) (pss_one (ps_set (i := 2) sc_L_pool.nd rfl (by first | exact Or.inl rfl | exact Or.inr rfl) pe_int)) pss_nil)
      (pss_one (ps_ret (pe_lst (pa_cons (pv 2) (pa_cons (pe_op k_add (pe_op op_mod (pe_op o_mul (pv 3) (pv 3)) pe_int) pe_int) pa_nil))))))))), ?_⟩
  have fin : ∀ c : Int, (tSeq (tAsg (tOp (rI (fun x j => 0 < j) fun i j => V.int (i % j)) (tOp GMul (tOp (GAdd K) (tOp (GAdd K) (tOp (rI (fun x j => 0 < j) fun i j => V.int (i % j)) (tVar 2) (tC (V.int 2147483629))) (tOp GMul (tOp GMul (tC (V.int 7919)) (tVar 1)) (tVar 1))) (tC (V.int 13))) (tC (V.int 48271))) (tC (V.int 2147483647))) (gName 3)) (tSeq (tIfS (tTest (tOp GLt (tVar 2) (tOp (rI CPow fun i j => V.int (i ^ j.toNat)) (tC (V.int 10)) (tC (V.int 18))))) (tAsg (tC (V.int 0)) (gName 2)) tNext) (tRet (tLst (tCons (tVar 2) (tCons (tOp (GAdd K) (tOp (rI (fun x j => 0 < j) fun i j => V.int (i % j)) (tOp GMul (tVar 3) (tVar 3)) (tC (V.int 2147483587))) (tC (V.int 1))) tNil)))))) { nx := fun x H' => Q V.non H', rt := Q } [some (.ref sc), some (.int i), some (.int c), none] H := by
    intro c
    have e1 := Int.emod_nonneg c (show (2147483629 : Int) ≠ 0 by decide)
    have e2 := Int.emod_lt_of_pos c (show (0 : Int) < 2147483629 by decide)
    have e3 : 0 ≤ 7919 * i * i := Int.mul_nonneg (Int.mul_nonneg (by decide) h0) h0
    have e4 : 7919 * i * i ≤ 7919 * i * 64 := Int.mul_le_mul_of_nonneg_left (by omega) (Int.mul_nonneg (by decide) h0)
    walk_at "rd"
    generalize hx : (c % 2147483629 + 7919 * i * i + 13) * 48271 % 2147483647 = x
    have x1 : 0 ≤ x := by rw [← hx]; exact Int.emod_nonneg _ (by decide)
    have x2 : x < 2147483647 := by rw [← hx]; exact Int.emod_lt_of_pos _ (by decide)
    have y1 := Int.emod_nonneg (x * x) (show (2147483587 : Int) ≠ 0 by decide)
    have y2 := Int.emod_lt_of_pos (x * x) (show (0 : Int) < 2147483587 by decide)
    refine r_dec (fun c1 => ?_) (fun c1 => ?_)
    · walk_at "rd"
      exact ⟨by show 2 ≤ sizeLine; decide, fun p hp => k p _ hp (Same.new hp) (pool_mk (by decide) (by omega) (by omega))⟩
    · walk_at "rd"
      exact ⟨by show 2 ≤ sizeLine; decide, fun p hp => k p _ hp (Same.new hp) (pool_mk (by omega) (by omega) (by omega))⟩
  walk_at "rd"
  refine r_lenQ hS ?_
  walk_at "rd"
  refine r_dec (fun c1 => ?_) (fun c1 => ?_)
  · rw [List.length_map] at c1
    walk_at "rd"
    obtain ⟨j, rfl⟩ := Int.eq_ofNat_of_zero_le h0
    have hj : j < ns.length := by omega
    refine r_ixQ (v := .int ns[j]) hS (atI_nat (by simp [hj])) ?_
    exact fin _
  · exact fin _
abbrev s_is_word : Stmt := top 9
abbrev n_is_word : List Str := ["thing", "sign"]
abbrev p_is_word : List Str := ["thing"]
theorem sc_is_word : FnScope n_is_word p_is_word (defScope s_is_word) := ⟨rfl, rfl, rfl, by decide +kernel, rfl, by decide +kernel, by decide +kernel⟩
theorem ok_is_word (T : Txt mg t1 t2 t3 t4) {f : Addr} {fd : FuncData} (F : Fun K "is_word" "is_word" s_is_word f fd) : FnOk P w K mg base CX0 1 f fd p_is_word (spD K wordD) := by
  refine F.ok sc_is_word (fun vs H Q E h => spD_len h) (fun cdv A outer s H vs Q E hr h => ?_)
  obtain ⟨v, d, rfl, hd, ho, k⟩ := h
  refine ⟨_, (pss_cons (ps_if (PW.pt (pw_or (pt_not (pt_val (pe_callB k_isi (by rfl) T.z_isinstance (by decide +kernel) (pa_cons (pv 0) (pa_cons (pe_bltn (v := .ty "str") rfl T.z_str (by decide +kernel) rfl) pa_nil))))) (pw_or1 (pt_not (pt_chain o_le o_le pe_int (pe_callB k_len (by rfl) T.z_len (by decide +kernel) (pa_cons (pv 0) pa_nil)) (pe_glob (v := V.int (8)) rfl T.g_LONGEST_WORD ⟨_, rfl⟩)))))) (pss_one (ps_ret pe_bl)) pss_nil)
      (pss_one (ps_ret (pe_callB (k_all rfl) (by rfl) T.z_all (by decide +kernel) (pa_cons (pe_lc (own := [("sign", 1)]) rfl sc_is_word.nd (pi_str (pv 0)) (blkOk_by (own := [("sign", 1)]) (N := n_is_word) (sc := defScope s_is_word) (by decide +kernel)) (fun _ _ _ _ _ => (pg_name (i := 1) sc_is_word.nd rfl (by first | exact Or.inl rfl | exact Or.inr rfl))) (fun _ _ _ _ _ => pts_nil) (fun _ _ _ _ _ => (pe_chain o_le o_le pe_str (pv 1) pe_str))) pa_nil))))), ?_⟩
  walk_at "rd"
  rcases str_or d with ⟨x, rfl⟩ | hn
  · cases hd
    rw [isStr]
    refine iteF ?_
    have hx : x.length ≤ 100000 := ho
    walk_at "rd"
    refine r_dec (fun c1 => ?_) (fun c1 => ?_)
    · walk_at "rd"
      refine r_decN (fun c2 => ?_) (fun c2 => ?_)
      · walk_at "rd"
        have q := k H (Same.refl H)
        have e : wordD (.str x) = false := by simp [wordD, wordS, c2]
        rw [e] at q
        exact q
      · walk_at "rd"
        refine r_lcStr hx (fun _ => true) (fun v => .bl (lowB (codeV v))) (fun c _ H2 R s2 q => q H2 (Same.refl H2)) (fun c _ _ H2 R s2 q => ?_) (fun Dl H2 hD s2 e => ?_)
        · exact r_between rfl cps_a cps_z (q H2 (Same.refl H2))
        · refine r_all (bs := x.cps.toList.map lowB) (by rw [e, filt_true, List.map_map]; rfl) ?_
          have q := k H2 s2
          have e1 : wordD (.str x) = x.cps.toList.all lowB := by simp [wordD, wordS, c1, c2]
          rw [e1] at q
          rw [all_signs]
          exact q
    · walk_at "rd"
      have q := k H (Same.refl H)
      have e : wordD (.str x) = false := by simp [wordD, wordS, c1]
      rw [e] at q
      exact q
  · rw [isNotStr hn]
    refine iteT ?_
    walk_at "rd"
    have q := k H (Same.refl H)
    rw [wordD_no hn] at q
    exact q
abbrev s_is_value : Stmt := top 10
abbrev n_is_value : List Str := ["thing", "sign"]
abbrev p_is_value : List Str := ["thing"]
theorem sc_is_value : FnScope n_is_value p_is_value (defScope s_is_value) := ⟨rfl, rfl, rfl, by decide +kernel, rfl, by decide +kernel, by decide +kernel⟩
theorem ok_is_value (T : Txt mg t1 t2 t3 t4) {f : Addr} {fd : FuncData} (F : Fun K "is_value" "is_value" s_is_value f fd) : FnOk P w K mg base CX0 1 f fd p_is_value (spD K valueD) := by
  refine F.ok sc_is_value (fun vs H Q E h => spD_len h) (fun cdv A outer s H vs Q E hr h => ?_)
  obtain ⟨v, d, rfl, hd, ho, k⟩ := h
  refine ⟨_, (pss_cons (ps_if (PW.pt (pw_or (pt_not (pt_val (pe_callB k_isi (by rfl) T.z_isinstance (by decide +kernel) (pa_cons (pv 0) (pa_cons (pe_bltn (v := .ty "str") rfl T.z_str (by decide +kernel) rfl) pa_nil))))) (pw_or1 (pt_cmpR o_gt (pe_callB k_len (by rfl) T.z_len (by decide +kernel) (pa_cons (pv 0) pa_nil)) (pe_glob (v := V.int (40)) rfl T.g_LONGEST_VALUE ⟨_, rfl⟩) (nomark _))))) (pss_one (ps_ret pe_bl)) pss_nil)
      (pss_one (ps_ret (pe_callB (k_all rfl) (by rfl) T.z_all (by decide +kernel) (pa_cons (pe_lc (own := [("sign", 1)]) rfl sc_is_value.nd (pi_str (pv 0)) (blkOk_by (own := [("sign", 1)]) (N := n_is_value) (sc := defScope s_is_value) (by decide +kernel)) (fun _ _ _ _ _ => (pg_name (i := 1) sc_is_value.nd rfl (by first | exact Or.inl rfl | exact Or.inr rfl))) (fun _ _ _ _ _ => pts_nil) (fun _ _ _ _ _ => (pe_chain o_le o_le pe_str (pv 1) pe_str))) pa_nil))))), ?_⟩
  walk_at "rd"
  rcases str_or d with ⟨x, rfl⟩ | hn
  · cases hd
    rw [isStr]
    refine iteF ?_
    have hx : x.length ≤ 100000 := ho
    walk_at "rd"
    refine r_dec (fun c1 => ?_) (fun c1 => ?_)
    · walk_at "rd"
      have q := k H (Same.refl H)
      have e : valueD (.str x) = false := by simp [valueD, valueS, c1]
      rw [e] at q
      exact q
    · walk_at "rd"
      refine r_lcStr hx (fun _ => true) (fun v => .bl (shownB (codeV v))) (fun c _ H2 R s2 q => q H2 (Same.refl H2)) (fun c _ _ H2 R s2 q => ?_) (fun Dl H2 hD s2 e => ?_)
      · exact r_between rfl cps_sp cps_til (q H2 (Same.refl H2))
      · refine r_all (bs := x.cps.toList.map shownB) (by rw [e, filt_true, List.map_map]; rfl) ?_
        have q := k H2 s2
        have e1 : valueD (.str x) = x.cps.toList.all shownB := by simp [valueD, valueS, c1]
        rw [e1] at q
        rw [all_signs]
        exact q
  · rw [isNotStr hn]
    refine iteT ?_
    walk_at "rd"
    have q := k H (Same.refl H)
    rw [valueD_no hn] at q
    exact q
abbrev s_is_number : Stmt := top 11
abbrev n_is_number : List Str := ["thing"]
abbrev p_is_number : List Str := ["thing"]
theorem sc_is_number : FnScope n_is_number p_is_number (defScope s_is_number) := ⟨rfl, rfl, rfl, by decide +kernel, rfl, by decide +kernel, by decide +kernel⟩
theorem ok_is_number (T : Txt mg t1 t2 t3 t4) {f : Addr} {fd : FuncData} (F : Fun K "is_number" "is_number" s_is_number f fd) : FnOk P w K mg base CX0 1 f fd p_is_number (spD K numD) := by
  refine F.ok sc_is_number (fun vs H Q E h => spD_len h) (fun cdv A outer s H vs Q E hr h => ?_)
  obtain ⟨v, d, rfl, hd, ho, k⟩ := h
  refine ⟨_, (pss_cons (ps_if (PW.pt (pw_or (pt_not (pt_val (pe_callB k_isi (by rfl) T.z_isinstance (by decide +kernel) (pa_cons (pv 0) (pa_cons (pe_bltn (v := .ty "int") rfl T.z_int (by decide +kernel) rfl) pa_nil))))) (pw_or1 (pt_val (pe_callB k_isi (by rfl) T.z_isinstance (by decide +kernel) (pa_cons (pv 0) (pa_cons (pe_bltn (v := .ty "bool") rfl T.z_bool (by decide +kernel) rfl) pa_nil))))))) (pss_one (ps_ret pe_bl)) pss_nil)
      (pss_one (ps_ret (pe_chain o_le o_le pe_int (pv 0) (pe_glob (v := V.int (1000000000000000)) rfl T.g_GREATEST_NUMBER ⟨_, rfl⟩))))), ?_⟩
  have q := k H (Same.refl H)
  walk_at "rd"
  have hd2 := hd
  rcases isInt_or d with ⟨h1, h2, i, rfl⟩ | ⟨h1, h2, b, rfl⟩ | ⟨h1, h2⟩
  · rw [h1]
    cases hd
    refine iteF ?_
    walk_at "rd"
    rw [h2]
    refine iteF ?_
    walk_at "rd"
    refine r_dec (fun c1 => ?_) (fun c1 => ?_)
    · walk_at "rd"
      simpa [numD, c1] using q
    · simpa [numD, c1] using q
  · rw [h1]
    cases hd
    refine iteF ?_
    walk_at "rd"
    rw [h2]
    refine iteT ?_
    walk_at "rd"
    exact q
  · rw [h1]
    refine iteT ?_
    walk_at "rd"
    rw [h2] at q
    exact q

end
end K07

set_option Elab.async false
set_option linter.all false
set_option maxRecDepth 100000
set_option maxHeartbeats 4000000
namespace K07
open PySem PySem.Spec PyProof.Rows L2 Tk TkM CwR SX
local macro_rules | `(tactic| walk_at "rd1") => `(tactic| first
  | with_reducible refine r_seq ?_
  | ((with_reducible refine r_var (v := ?vv) ?hrv ?_); (case hrv => rfl))
  | with_reducible refine r_c ?_
  | with_reducible refine r_op ?_
  | ((with_reducible refine r_ixL (xs := ?xx) (v := ?vv) ?hh ?he ?_); (case hh => first | assumption | exact upd_same); (case he => rfl))
  | with_reducible refine r_asg ?_
  | with_reducible refine r_sub ?_
  | ((with_reducible refine r_gTup (xs := ?xx) ?hh ?he ?_); (case hh => assumption); (case he => rfl))
  | with_reducible refine r_gCons ?_
  | with_reducible refine r_gNil ?_
  | ((with_reducible refine r_setL (xs := ?xx) (j := ?vv) ?hh ?he ?_); (case hh => first | assumption | exact upd_same); (case he => rfl))
  | with_reducible refine r_pow15 ?_
  | with_reducible refine r_pow18 ?_
  | with_reducible refine r_repr ?_
  | with_reducible refine iteT ?_
  | with_reducible refine iteF ?_
  | with_reducible refine r_cons ?_
  | with_reducible refine r_nil ?_
  | with_reducible refine r_call ?_
  | with_reducible refine r_cb ?_
  | with_reducible refine r_ret ?_
  | with_reducible refine r_gName ?_
  | with_reducible refine r_next ?_
  | with_reducible refine r_ifS ?_
  | with_reducible refine r_un ?_
  | with_reducible refine r_U ?_
  | with_reducible refine r_max2 ?_
  | with_reducible refine r_min2 ?_
  | with_reducible refine r_sl ?_
  | with_reducible refine r_noPart ?_
  | with_reducible refine r_part ?_
  | with_reducible refine r_inti ?_
  | with_reducible refine r_lc ?_
  | with_reducible refine r_for ?_
  | with_reducible refine r_rng1 ?_
  | with_reducible refine r_iList ?_
  | with_reducible refine r_iTup ?_
  | with_reducible refine r_iStr ?_
  | with_reducible refine r_strx ?_
  | ((with_reducible refine r_j ?hh ?hi ?_); (case hh => omega); (case hi => omega))
  | with_reducible refine r_m1 ?_
  | with_reducible refine r_test ?_
  | with_reducible refine r_B ?_
  | with_reducible refine r_not ?_
  | with_reducible refine r_and ?_
  | with_reducible refine r_or ?_
  | with_reducible refine r_andV ?_
  | with_reducible refine r_orV ?_
  | with_reducible refine r_notV ?_
  | with_reducible refine r_if ?_
  | with_reducible refine r_chain ?_
  | with_reducible refine r_lst ?_
  | with_reducible refine r_tup ?_
  | with_reducible refine r_k ?_
  | ((with_reducible refine r_isiS (d := ?dd) ?hh ?_); (case hh => assumption))
  | ((with_reducible refine r_isiT (d := ?dd) ?hh ?_); (case hh => assumption))
  | ((with_reducible refine r_isiI (d := ?dd) ?hh ?_); (case hh => assumption))
  | ((with_reducible refine r_isiB (d := ?dd) ?hh ?_); (case hh => assumption))
  | ((with_reducible refine r_lenS ?hh ?_); (case hh => assumption))
  | ((with_reducible refine r_lenT (xs := ?dd) ?hh ?_); (case hh => assumption))
  | ((with_reducible refine r_ixT (xs := ?xx) (v := ?vv) ?hh ?he ?_); (case hh => assumption); (case he => rfl))
  | with_reducible refine r_isN ?_
  | with_reducible refine r_I0 ?_
  | with_reducible refine g_addI ?_
  | ((with_reducible refine r_mod ?hh ?_); (case hh => first | decide | omega))
  | ((with_reducible refine r_div ?hh ?hi ?_); (case hh => first | decide | omega); (case hi => first | decide | omega))
  | ((with_reducible refine g_mulB ?hh ?hi ?_); (case hh => omega); (case hi => omega))
  | with_reducible refine g_ltI ?_
  | with_reducible refine g_leI ?_
  | with_reducible refine g_gtI ?_
  | with_reducible refine g_geI ?_
  | with_reducible refine g_eqI ?_
  | with_reducible refine g_neI ?_
  | with_reducible refine g_eqS ?_
  | with_reducible refine g_neS ?_
  | with_reducible refine g_leS ?_
  | with_reducible refine g_ltS ?_)
local macro_rules | `(tactic| walk_at "rd") => `(tactic| repeat (walk_at "rd1"))
local macro_rules | `(tactic| walk_at "ed") => `(tactic| repeat first
  | exact ed_int
  | exact ed_str
  | exact ed_bl
  | exact ed_non
  | exact ed_nil
  | exact ed_dct
  | exact ed_neg
  | with_reducible apply ed_cons
  | with_reducible apply ed_tup
  | with_reducible apply ed_lst
  | exact Nat.le_of_ble_eq_true rfl)
local macro_rules | `(tactic| walk_at "tx1") => `(tactic| first
  | walk_at "rd1"
  | with_reducible refine r_callS ?_
  | with_reducible refine r_zipA ?_
  | with_reducible refine r_par ?_
  | with_reducible refine r_pair ?_
  | with_reducible refine r_pow6 ?_
  | with_reducible refine r_m0 ?_
  | with_reducible refine r_bm ?_
  | with_reducible refine r_isS ?_
  | with_reducible refine r_told ?_
  | with_reducible refine r_js ?_
  | with_reducible refine r_jsNil ?_
  | with_reducible refine r_repl ?_
  | ((with_reducible refine r_gLst (xs := ?xx) ?hh ?he ?_); (case hh => assumption); (case he => rfl))
  | ((with_reducible refine r_lenL (xs := ?xx) ?hh ?_); (case hh => assumption)))
local macro_rules | `(tactic| walk_at "tx") => `(tactic| repeat (walk_at "tx1"))
section
variable {t1 t2 t3 t4 : Tok} {P : Program} {w : World} {K : PySem.W.Frag} {mg : Str → Option Value} {base : Heap}
/-- a text made of a text -/
def spTxt (n : Nat) (f : Str → Str) : Sp := fun vs H Q _ => ∃ x : Str, vs = [.str x] ∧ x.length ≤ n ∧ ∀ H', Same H H' → Q (.str (f x)) H'
theorem spTxt_len {n : Nat} {f : Str → Str} {vs : List V} {H : Hp} {Q : VK} {E : XK} (h : spTxt n f vs H Q E) : vs.length = 1 := by
  obtain ⟨x, rfl, _⟩ := h
  rfl
theorem r_txt {n : Nat} {f : Str → Str} {x : Str} {H : Hp} {Q : VK} {E : XK} (hx : x.length ≤ n) (q : ∀ H', Same H H' → Q (.str (f x)) H') : spTxt n f ([.str x] ++ []) H Q E := ⟨x, rfl, hx, q⟩
def told (x : Str) : Str := S (34 :: (esc x.cps.toList ++ [34]))
theorem told_is (x : Str) : Str.empty ++ "\"" ++ Txt.replace (Txt.replace x "\\" "\\\\") "\"" "\\\"" ++ "\"" = told x := by
  refine TL.ext_tl ?_
  have e : (Txt.replace (Txt.replace x "\\" "\\\\") "\"" "\\\"").cps.toList = esc x.cps.toList := by
    rw [StrLaws.replace_list (by decide), StrLaws.replace_list (by decide)]
    exact esc_repl _
  rw [TL.tl_append, TL.tl_append, TL.tl_append]
  show [] ++ [34] ++ (Txt.replace (Txt.replace x "\\" "\\\\") "\"" "\\\"").cps.toList ++ [34] = 34 :: (esc x.cps.toList ++ [34])
  rw [e]
  rfl
abbrev s_format_value : Stmt := top 12
abbrev n_format_value : List Str := ["value", "inner"]
abbrev p_format_value : List Str := ["value"]
theorem sc_format_value : FnScope n_format_value p_format_value (defScope s_format_value) := ⟨rfl, rfl, rfl, by decide +kernel, rfl, by decide +kernel, by decide +kernel⟩
theorem ok_format_value (T : Txt mg t1 t2 t3 t4) {f : Addr} {fd : FuncData} (F : Fun K "format_value" "format_value" s_format_value f fd) : FnOk P w K mg base CX0 1 f fd p_format_value (spTxt 1000 told) := by
  refine Fun_okT F sc_format_value (by decide +kernel) (by decide) (fun vs H Q E h => spTxt_len h) (fun cdv A outer s H vs Q E hr h => ?_)
  obtain ⟨x, rfl, hx, k⟩ := h
  refine ⟨_, (psst_cons (pst_set (i := 1) sc_format_value.nd rfl (by first | exact Or.inl rfl | exact Or.inr rfl) (pet_replT (pet_replC (pv 0))))
      (psst_one (pst_ret (PET.of (pe_joined (PJ.cons pe_str (PJ.cons (pe_fmt (pv 1)) (PJ.cons pe_str PJ.nil)))))))), ?_⟩
  have l1 : (Txt.replace x "\\" "\\\\").length ≤ 3002 := repl_le hx (show ("\\\\" : Str).length ≤ 2 by decide)
  have l2 : (Txt.replace (Txt.replace x "\\" "\\\\") "\"" "\\\"").length ≤ 9008 := repl_le l1 (show ("\\\"" : Str).length ≤ 2 by decide)
  walk_at "tx"
  refine r_replU (by omega) (by decide) ?_
  walk_at "tx"
  refine r_replU (by omega) (by decide) ?_
  walk_at "tx"
  refine r_fits (by decide) ?_
  walk_at "tx"
  refine r_fmtVar rfl (by omega) ?_
  walk_at "tx"
  have c1 : (Str.empty ++ "\"").length = 1 := by decide
  refine r_fits (by rw [cat_len, c1]; omega) ?_
  walk_at "tx"
  refine r_fits (by rw [cat_len, cat_len, c1, show ("\"" : Str).length = 1 by decide]; omega) ?_
  walk_at "tx"
  have q := k H (Same.refl H)
  rw [← told_is] at q
  exact q
abbrev s_likely_value : Stmt := top 14
abbrev n_likely_value : List Str := ["text"]
abbrev p_likely_value : List Str := ["text"]
theorem sc_likely_value : FnScope n_likely_value p_likely_value (defScope s_likely_value) := ⟨rfl, rfl, rfl, by decide +kernel, rfl, by decide +kernel, by decide +kernel⟩
theorem ok_likely_value (T : Txt mg t1 t2 t3 t4) {f : Addr} {fd : FuncData} (F : Fun K "likely_value" "likely_value" s_likely_value f fd) : FnOk P w K mg base CX0 1 f fd p_likely_value (spTxt 20000 unq) := by
  refine Fun_okT F sc_likely_value (by decide +kernel) (by decide) (fun vs H Q E h => spTxt_len h) (fun cdv A outer s H vs Q E hr h => ?_)
  obtain ⟨x, rfl, hx, k⟩ := h
  refine ⟨_, (psst_one (pst_ret (pet_replT (pet_replC (pe_slice k_slice (pv 0) (po_some pe_int) (po_some (pe_un un_neg pe_int))))))), ?_⟩
  have l0 := cutS_len x (some 1) (some (-1))
  walk_at "tx"
  refine g_slS (by omega) ?_
  walk_at "tx"
  refine r_replU (by omega) (by decide) ?_
  walk_at "tx"
  refine r_replU ?_ (by decide) (k _ (Same.refl H))
  have l1 : (Txt.replace (cutS x (some 1) (some (-1))) "\\\"" "\"").length ≤ 20000 + 20001 * 1 := repl_le (by omega) (show ("\"" : Str).length ≤ 1 by decide)
  exact Nat.le_trans l1 (by decide)
abbrev s_likely_number : Stmt := top 13
abbrev n_likely_number : List Str := ["text"]
abbrev p_likely_number : List Str := ["text"]
theorem sc_likely_number : FnScope n_likely_number p_likely_number (defScope s_likely_number) := ⟨rfl, rfl, rfl, by decide +kernel, rfl, by decide +kernel, by decide +kernel⟩
def spLikN (K : PySem.W.Frag) : Sp := fun vs H Q _ => ∃ x : Str, vs = [.str x] ∧ x.length ≤ 20000 ∧ ∀ v H', Same H H' → Dd K H' v (likN x) → Q v H'
theorem ok_likely_number (T : Txt mg t1 t2 t3 t4) {f : Addr} {fd : FuncData} (F : Fun K "likely_number" "likely_number" s_likely_number f fd) : FnOk P w K mg base CX0 1 f fd p_likely_number (spLikN K) := by
  refine F.ok sc_likely_number (fun vs H Q E h => ?_) (fun cdv A outer s H vs Q E hr h => ?_)
  · obtain ⟨x, rfl, _⟩ := h
    rfl
  obtain ⟨x, rfl, hx, k⟩ := h
  have hu := hr.units
  refine ⟨_, (pss_cons (ps_if (PW.pt (pw_or (pt_cmpR o_gt (pe_callB k_len (by rfl) T.z_len (by decide +kernel) (pa_cons (pv 0) pa_nil)) (pe_glob (v := V.int (16)) rfl T.g_MOST_DIGITS ⟨_, rfl⟩) (nomark _)) (pw_or1 (pt_not (PW.pt (pw_and (pt_val (pe_m0 PySem.F.slot_str_isascii PySem.F.type_str_isascii k_ascii (pv 0))) (pw_and1 (pt_val (pe_m0 PySem.F.slot_str_isdigit PySem.F.type_str_isdigit k_digit (pv 0)))))))))) (pss_one (ps_ret pe_non)) pss_nil)
      (pss_one (ps_ret (pe_callTy call_int_str (by rfl) T.z_int (by decide +kernel) (pa_cons (pv 0) pa_nil))))), ?_⟩
  walk_at "tx"
  refine r_lenS (by omega) ?_
  walk_at "tx"
  have no : ∀ b : Bool, b = true → (decide ((16 : Int) < (x.length : Int)) || !(Txt.isascii x && Txt.isdigit x)) = b → Q .non H := fun b e1 e2 => by
    subst e1
    refine k _ H (Same.refl H) ?_
    unfold likN
    rw [e2]
    exact .non
  refine r_dec (fun c => ?_) (fun c => ?_)
  · walk_at "tx"
    exact no _ rfl (by simp [c])
  · walk_at "tx"
    refine r_bool (fun c1 => ?_) (fun c1 => ?_)
    · walk_at "tx"
      refine r_boolN (fun c2 => ?_) (fun c2 => ?_)
      · walk_at "tx"
        exact no _ rfl (by simp [c1, c2])
      · walk_at "tx"
        have e := digits_told x.cps.toList
        rw [S_tl, c1, c2, Bool.and_self] at e
        have e' := e.symm
        rw [Bool.and_eq_true] at e'
        have hl : x.cps.toList.length = x.length := by rw [Array.length_toList]; rfl
        have n := int_S (a := x.cps.toList) e'.2 (by intro z; rw [z] at e'; exact nomatch e'.1) (by omega)
        rw [S_tl] at n
        refine ⟨x, _, rfl, n, by omega, ?_⟩
        refine k _ H (Same.refl H) ?_
        unfold likN
        rw [if_neg (by simp [c, c1, c2])]
        exact .int _
    · walk_at "tx"
      exact no _ rfl (by simp [c1])
end
end K07

set_option Elab.async false
set_option linter.all false
set_option maxRecDepth 100000
set_option maxHeartbeats 4000000
namespace K07
open PySem PySem.Spec PyProof.Rows L2 Tk
local macro_rules | `(tactic| walk_at "rd1") => `(tactic| first
  | with_reducible refine r_seq ?_
  | ((with_reducible refine r_var (v := ?vv) ?hrv ?_); (case hrv => rfl))
  | with_reducible refine r_c ?_
  | with_reducible refine r_op ?_
  | ((with_reducible refine r_ixL (xs := ?xx) (v := ?vv) ?hh ?he ?_); (case hh => first | assumption | exact upd_same); (case he => rfl))
  | with_reducible refine r_asg ?_
  | with_reducible refine r_sub ?_
  | ((with_reducible refine r_gTup (xs := ?xx) ?hh ?he ?_); (case hh => assumption); (case he => rfl))
  | with_reducible refine r_gCons ?_
  | with_reducible refine r_gNil ?_
  | ((with_reducible refine r_setL (xs := ?xx) (j := ?vv) ?hh ?he ?_); (case hh => first | assumption | exact upd_same); (case he => rfl))
  | with_reducible refine r_pow15 ?_
  | with_reducible refine r_pow18 ?_
  | with_reducible refine r_repr ?_
  | with_reducible refine iteT ?_
  | with_reducible refine iteF ?_
  | with_reducible refine r_cons ?_
  | with_reducible refine r_nil ?_
  | with_reducible refine r_call ?_
  | with_reducible refine r_cb ?_
  | with_reducible refine r_ret ?_
  | with_reducible refine r_gName ?_
  | with_reducible refine r_next ?_
  | with_reducible refine r_ifS ?_
  | with_reducible refine r_un ?_
  | with_reducible refine r_U ?_
  | with_reducible refine r_max2 ?_
  | with_reducible refine r_min2 ?_
  | with_reducible refine r_sl ?_
  | with_reducible refine r_noPart ?_
  | with_reducible refine r_part ?_
  | with_reducible refine r_inti ?_
  | with_reducible refine r_lc ?_
  | with_reducible refine r_for ?_
  | with_reducible refine r_rng1 ?_
  | with_reducible refine r_iList ?_
  | with_reducible refine r_iTup ?_
  | with_reducible refine r_iStr ?_
  | with_reducible refine r_strx ?_
  | ((with_reducible refine r_j ?hh ?hi ?_); (case hh => omega); (case hi => omega))
  | with_reducible refine r_m1 ?_
  | with_reducible refine r_test ?_
  | with_reducible refine r_B ?_
  | with_reducible refine r_not ?_
  | with_reducible refine r_and ?_
  | with_reducible refine r_or ?_
  | with_reducible refine r_andV ?_
  | with_reducible refine r_orV ?_
  | with_reducible refine r_notV ?_
  | with_reducible refine r_if ?_
  | with_reducible refine r_chain ?_
  | with_reducible refine r_lst ?_
  | with_reducible refine r_tup ?_
  | with_reducible refine r_k ?_
  | ((with_reducible refine r_isiS (d := ?dd) ?hh ?_); (case hh => assumption))
  | ((with_reducible refine r_isiT (d := ?dd) ?hh ?_); (case hh => assumption))
  | ((with_reducible refine r_isiI (d := ?dd) ?hh ?_); (case hh => assumption))
  | ((with_reducible refine r_isiB (d := ?dd) ?hh ?_); (case hh => assumption))
  | ((with_reducible refine r_lenS ?hh ?_); (case hh => assumption))
  | ((with_reducible refine r_lenT (xs := ?dd) ?hh ?_); (case hh => assumption))
  | ((with_reducible refine r_ixT (xs := ?xx) (v := ?vv) ?hh ?he ?_); (case hh => assumption); (case he => rfl))
  | with_reducible refine r_isN ?_
  | with_reducible refine r_I0 ?_
  | with_reducible refine g_addI ?_
  | ((with_reducible refine r_mod ?hh ?_); (case hh => first | decide | omega))
  | ((with_reducible refine r_div ?hh ?hi ?_); (case hh => first | decide | omega); (case hi => first | decide | omega))
  | ((with_reducible refine g_mulB ?hh ?hi ?_); (case hh => omega); (case hi => omega))
  | with_reducible refine g_ltI ?_
  | with_reducible refine g_leI ?_
  | with_reducible refine g_gtI ?_
  | with_reducible refine g_geI ?_
  | with_reducible refine g_eqI ?_
  | with_reducible refine g_neI ?_
  | with_reducible refine g_eqS ?_
  | with_reducible refine g_neS ?_
  | with_reducible refine g_leS ?_
  | with_reducible refine g_ltS ?_)
local macro_rules | `(tactic| walk_at "rd") => `(tactic| repeat (walk_at "rd1"))
local macro_rules | `(tactic| walk_at "ed") => `(tactic| repeat first
  | exact ed_int
  | exact ed_str
  | exact ed_bl
  | exact ed_non
  | exact ed_nil
  | exact ed_dct
  | exact ed_neg
  | with_reducible apply ed_cons
  | with_reducible apply ed_tup
  | with_reducible apply ed_lst
  | exact Nat.le_of_ble_eq_true rfl)
local macro_rules | `(tactic| walk_at "tx1") => `(tactic| first
  | walk_at "rd1"
  | with_reducible refine r_callS ?_
  | with_reducible refine r_zipA ?_
  | with_reducible refine r_par ?_
  | with_reducible refine r_pair ?_
  | with_reducible refine r_pow6 ?_
  | with_reducible refine r_m0 ?_
  | with_reducible refine r_bm ?_
  | with_reducible refine r_isS ?_
  | with_reducible refine r_told ?_
  | with_reducible refine r_js ?_
  | with_reducible refine r_jsNil ?_
  | with_reducible refine r_repl ?_
  | ((with_reducible refine r_gLst (xs := ?xx) ?hh ?he ?_); (case hh => assumption); (case he => rfl))
  | ((with_reducible refine r_lenL (xs := ?xx) ?hh ?_); (case hh => assumption)))
local macro_rules | `(tactic| walk_at "tx") => `(tactic| repeat (walk_at "tx1"))
section
variable {t1 t2 t3 t4 : Tok} {P : Program} {w : World} {K : PySem.W.Frag} {mg : Str → Option Value} {base : Heap}
/-- a def that tells something of short data -/
def spF (K : PySem.W.Frag) (f : PyData → Bool) : Sp := fun vs H Q _ => ∃ (v : V) (d : PyData), vs = [v] ∧ Dd K H v d ∧ okD d ∧ fewD d ∧ ∀ H', Same H H' → Q (.bl (f d)) H'
abbrev s_is_index : Stmt := top 22
abbrev n_is_index : List Str := ["part"]
abbrev p_is_index : List Str := ["part"]
theorem sc_is_index : FnScope n_is_index p_is_index (defScope s_is_index) := ⟨rfl, rfl, rfl, by decide +kernel, rfl, by decide +kernel, by decide +kernel⟩
theorem ok_is_index (T : Txt mg t1 t2 t3 t4) {f : Addr} {fd : FuncData} (F : Fun K "_is_index" "_is_index" s_is_index f fd) : FnOk P w K mg base CX0 1 f fd p_is_index (spD K indexD) := by
  refine F.ok sc_is_index (fun vs H Q E h => spD_len h) (fun cdv A outer s H vs Q E hr h => ?_)
  obtain ⟨v, d, rfl, hd, ho, k⟩ := h
  refine ⟨_, (pss_cons (ps_if (PW.pt (pw_or (pt_not (pt_val (pe_callB k_isi (by rfl) T.z_isinstance (by decide +kernel) (pa_cons (pv 0) (pa_cons (pe_bltn (v := .ty "int") rfl T.z_int (by decide +kernel) rfl) pa_nil))))) (pw_or1 (pt_val (pe_callB k_isi (by rfl) T.z_isinstance (by decide +kernel) (pa_cons (pv 0) (pa_cons (pe_bltn (v := .ty "bool") rfl T.z_bool (by decide +kernel) rfl) pa_nil))))))) (pss_one (ps_ret pe_bl)) pss_nil)
      (pss_one (ps_ret (pe_chain o_le o_le pe_int (pv 0) (pe_glob (v := V.int (1000000000000000)) rfl T.g_GREATEST_NUMBER ⟨_, rfl⟩))))), ?_⟩
  have q := k H (Same.refl H)
  walk_at "tx"
  have hd2 := hd
  have no : isOf d "int" = false → indexD d = false := fun h => by
    rcases isInt_or d with ⟨h1, _⟩ | ⟨h1, _⟩ | ⟨_, _⟩
    · rw [h1] at h; cases h
    · rw [h1] at h; cases h
    · cases d with
      | int i => rw [show isOf (.int i) "int" = true from isN_int.2.2.1] at h; cases h
      | _ => rfl
  rcases isInt_or d with ⟨h1, h2, i, rfl⟩ | ⟨h1, h2, b, rfl⟩ | ⟨h1, h2⟩
  · rw [h1]
    cases hd
    refine iteF ?_
    walk_at "tx"
    rw [h2]
    refine iteF ?_
    walk_at "tx"
    refine r_dec (fun c1 => ?_) (fun c1 => ?_)
    · walk_at "tx"
      simpa [indexD, c1] using q
    · simpa [indexD, c1] using q
  · rw [h1]
    cases hd
    refine iteF ?_
    walk_at "tx"
    rw [h2]
    refine iteT ?_
    walk_at "tx"
    exact q
  · rw [h1]
    refine iteT ?_
    walk_at "tx"
    rw [no h1] at q
    exact q
abbrev s_are_keys : Stmt := top 23
abbrev n_are_keys : List Str := ["part", "key"]
abbrev p_are_keys : List Str := ["part"]
theorem sc_are_keys : FnScope n_are_keys p_are_keys (defScope s_are_keys) := ⟨rfl, rfl, rfl, by decide +kernel, rfl, by decide +kernel, by decide +kernel⟩
theorem ok_are_keys (T : Txt mg t1 t2 t3 t4) {f : Addr} {fd : FuncData} (F : Fun K "_are_keys" "_are_keys" s_are_keys f fd) (K_is_word : Cal P w K mg base CX0 1 "is_word" p_is_word (spD K wordD)) : FnOk P w K mg base CX0 2 f fd p_are_keys (spF K ascD) := by
  refine F.ok sc_are_keys (fun vs H Q E h => by obtain ⟨v, d, rfl, _⟩ := h; rfl) (fun cdv A outer s H vs Q E hr h => ?_)
  obtain ⟨v, d, rfl, hd, ho, hf, k⟩ := h
  have hu := hr.units
  refine ⟨_, (pss_cons (ps_if (PW.pt (pw_or (pt_not (pt_val (pe_callB k_isi (by rfl) T.z_isinstance (by decide +kernel) (pa_cons (pv 0) (pa_cons (pe_bltn (v := .ty "tuple") rfl T.z_tuple (by decide +kernel) rfl) pa_nil))))) (pw_or1 (pt_not (pt_val (pe_callB (k_all rfl) (by rfl) T.z_all (by decide +kernel) (pa_cons (pe_lc (own := [("key", 1)]) rfl sc_are_keys.nd (k_tup (pv 0)) (blkOk_by (own := [("key", 1)]) (N := n_are_keys) (sc := defScope s_are_keys) (by decide +kernel)) (fun _ _ _ _ _ => (pg_name (i := 1) sc_are_keys.nd rfl (by first | exact Or.inl rfl | exact Or.inr rfl))) (fun _ _ _ _ _ => pts_nil) (fun _ _ _ _ _ => (pe_cal K_is_word (hr.mono (by decide)) pass0 (pa_cons (pv 1) pa_nil)))) pa_nil))))))) (pss_one (ps_ret pe_bl)) pss_nil)
      (pss_one (ps_ret (pe_cmpR (k_eqP hu) (pe_callTy k_listOf (by rfl) T.z_list (by decide +kernel) (pa_cons (pv 0) pa_nil)) (pe_callB (k_sortX rfl) (by rfl) T.z_sorted (by decide +kernel) (pa_cons (pe_callTy (k_setX rfl) (by rfl) T.z_set (by decide +kernel) (pa_cons (pv 0) pa_nil)) pa_nil)) (nomark _))))), ?_⟩
  walk_at "tx"
  rcases tup_or hd with ⟨a, xs, ds, rfl, rfl, ha, hds, e⟩ | ⟨e, hn⟩
  · rw [e]
    refine iteF ?_
    obtain ⟨o1, o2⟩ := ho
    have hf : ds.length ≤ 60 := hf
    walk_at "tx"
    refine ⟨_, rfl, ⟨_, SqT.of ha⟩, ?_⟩
    refine lc_tupP ha (by rw [hds.length]; exact o1) (fun v => .bl (wordV v)) (fun x hx H2 R s2 q => ?_) (fun D H1 hD s1 e1 => ?_)
    · obtain ⟨d, hd, od⟩ := hds.mem o2 hx
      walk_at "tx"
      refine r_spD (Dd.same s2 _ _ hd) od fun H3 s3 => ?_
      rw [← wordV_is hd]
      exact q H3 s3
    · have e1' : H1 D = some (.lst ((ds.map wordD).map V.bl)) := by
        rw [e1, ← words_all hds, List.map_map]
        rfl
      walk_at "tx"
      refine r_all e1' ?_
      have ea : (ds.map wordD).all id = ds.all wordD := by rw [List.all_map]; rfl
      rw [ea]
      walk_at "tx"
      refine r_boolN (fun c => ?_) (fun c => ?_)
      · walk_at "tx"
        have q := k H1 s1
        have z : ascD (.tuple ds) = false := by
          show (ds.all wordD && _) = false
          rw [c]
          rfl
        rw [z] at q
        exact q
      · obtain ⟨ys, rfl, rfl⟩ := words_strs hds c
        have hf : ys.length ≤ 60 := by rw [List.length_map] at hf; exact hf
        walk_at "tx"
        refine g_listOfT (s1 _ _ ha) fun l H2 hl s2 e2 => ?_
        walk_at "tx"
        refine r_setXT (s2 _ _ (s1 _ _ ha)) (by omega) fun S H3 hS s3 e3 => ?_
        walk_at "tx"
        refine r_sortX e3 (by have := Ts.gather_len ys.reverse; rw [List.length_reverse] at this; omega) fun zs p H4 pm st hp s4 e4 => ?_
        have d1 : Dd K H4 (.ref l) (.list (ys.map PyData.str)) := .lst (s4 _ _ (s3 _ _ e2)) (strs_data ys)
        have d2 : Dd K H4 (.ref p) (.list (zs.map PyData.str)) := .lst e4 (strs_data zs)
        refine ⟨_, _, d1, d2, strs_plain ys, strs_plain zs, ?_, ?_⟩
        · show PyData.depthAll _ + 1 ≤ 60
          rw [strs_depth]
          decide
        · have q := k H4 (s1.trans (s2.trans (s3.trans s4)))
          have z : ascD (.tuple (ys.map PyData.str)) = PyData.eqv (.list (ys.map PyData.str)) (.list (zs.map PyData.str)) := by
            show ((ys.map PyData.str).all wordD && ascB ((ys.map PyData.str).map txtD)) = PyData.eqvAll _ _
            rw [c, txt_strs, strs_eqv, asc_sorted pm st]
            rfl
          rw [z] at q
          exact q
  · rw [e]
    refine iteT ?_
    walk_at "tx"
    have q := k H (Same.refl H)
    have z : ascD d = false := by
      cases d with
      | tuple x => exact absurd rfl (hn x)
      | _ => rfl
    rw [z] at q
    exact q
end
end K07

set_option Elab.async false
set_option linter.all false
set_option maxRecDepth 100000
set_option maxHeartbeats 4000000
namespace K07
open PySem PySem.Spec PyProof.Rows L2 Tk
local macro_rules | `(tactic| walk_at "rd1") => `(tactic| first
  | with_reducible refine r_seq ?_
  | ((with_reducible refine r_var (v := ?vv) ?hrv ?_); (case hrv => rfl))
  | with_reducible refine r_c ?_
  | with_reducible refine r_op ?_
  | ((with_reducible refine r_ixL (xs := ?xx) (v := ?vv) ?hh ?he ?_); (case hh => first | assumption | exact upd_same); (case he => rfl))
  | with_reducible refine r_asg ?_
  | with_reducible refine r_sub ?_
  | ((with_reducible refine r_gTup (xs := ?xx) ?hh ?he ?_); (case hh => assumption); (case he => rfl))
  | with_reducible refine r_gCons ?_
  | with_reducible refine r_gNil ?_
  | ((with_reducible refine r_setL (xs := ?xx) (j := ?vv) ?hh ?he ?_); (case hh => first | assumption | exact upd_same); (case he => rfl))
  | with_reducible refine r_pow15 ?_
  | with_reducible refine r_pow18 ?_
  | with_reducible refine r_repr ?_
  | with_reducible refine iteT ?_
  | with_reducible refine iteF ?_
  | with_reducible refine r_cons ?_
  | with_reducible refine r_nil ?_
  | with_reducible refine r_call ?_
  | with_reducible refine r_cb ?_
  | with_reducible refine r_ret ?_
  | with_reducible refine r_gName ?_
  | with_reducible refine r_next ?_
  | with_reducible refine r_ifS ?_
  | with_reducible refine r_un ?_
  | with_reducible refine r_U ?_
  | with_reducible refine r_max2 ?_
  | with_reducible refine r_min2 ?_
  | with_reducible refine r_sl ?_
  | with_reducible refine r_noPart ?_
  | with_reducible refine r_part ?_
  | with_reducible refine r_inti ?_
  | with_reducible refine r_lc ?_
  | with_reducible refine r_for ?_
  | with_reducible refine r_rng1 ?_
  | with_reducible refine r_iList ?_
  | with_reducible refine r_iTup ?_
  | with_reducible refine r_iStr ?_
  | with_reducible refine r_strx ?_
  | ((with_reducible refine r_j ?hh ?hi ?_); (case hh => omega); (case hi => omega))
  | with_reducible refine r_m1 ?_
  | with_reducible refine r_test ?_
  | with_reducible refine r_B ?_
  | with_reducible refine r_not ?_
  | with_reducible refine r_and ?_
  | with_reducible refine r_or ?_
  | with_reducible refine r_andV ?_
  | with_reducible refine r_orV ?_
  | with_reducible refine r_notV ?_
  | with_reducible refine r_if ?_
  | with_reducible refine r_chain ?_
  | with_reducible refine r_lst ?_
  | with_reducible refine r_tup ?_
  | with_reducible refine r_k ?_
  | ((with_reducible refine r_isiS (d := ?dd) ?hh ?_); (case hh => assumption))
  | ((with_reducible refine r_isiT (d := ?dd) ?hh ?_); (case hh => assumption))
  | ((with_reducible refine r_isiI (d := ?dd) ?hh ?_); (case hh => assumption))
  | ((with_reducible refine r_isiB (d := ?dd) ?hh ?_); (case hh => assumption))
  | ((with_reducible refine r_lenS ?hh ?_); (case hh => assumption))
  | ((with_reducible refine r_lenT (xs := ?dd) ?hh ?_); (case hh => assumption))
  | ((with_reducible refine r_ixT (xs := ?xx) (v := ?vv) ?hh ?he ?_); (case hh => assumption); (case he => rfl))
  | with_reducible refine r_isN ?_
  | with_reducible refine r_I0 ?_
  | with_reducible refine g_addI ?_
  | ((with_reducible refine r_mod ?hh ?_); (case hh => first | decide | omega))
  | ((with_reducible refine r_div ?hh ?hi ?_); (case hh => first | decide | omega); (case hi => first | decide | omega))
  | ((with_reducible refine g_mulB ?hh ?hi ?_); (case hh => omega); (case hi => omega))
  | with_reducible refine g_ltI ?_
  | with_reducible refine g_leI ?_
  | with_reducible refine g_gtI ?_
  | with_reducible refine g_geI ?_
  | with_reducible refine g_eqI ?_
  | with_reducible refine g_neI ?_
  | with_reducible refine g_eqS ?_
  | with_reducible refine g_neS ?_
  | with_reducible refine g_leS ?_
  | with_reducible refine g_ltS ?_)
local macro_rules | `(tactic| walk_at "rd") => `(tactic| repeat (walk_at "rd1"))
local macro_rules | `(tactic| walk_at "ed") => `(tactic| repeat first
  | exact ed_int
  | exact ed_str
  | exact ed_bl
  | exact ed_non
  | exact ed_nil
  | exact ed_dct
  | exact ed_neg
  | with_reducible apply ed_cons
  | with_reducible apply ed_tup
  | with_reducible apply ed_lst
  | exact Nat.le_of_ble_eq_true rfl)
local macro_rules | `(tactic| walk_at "tx1") => `(tactic| first
  | walk_at "rd1"
  | with_reducible refine r_callS ?_
  | with_reducible refine r_zipA ?_
  | with_reducible refine r_par ?_
  | with_reducible refine r_pair ?_
  | with_reducible refine r_pow6 ?_
  | with_reducible refine r_m0 ?_
  | with_reducible refine r_bm ?_
  | with_reducible refine r_isS ?_
  | with_reducible refine r_told ?_
  | with_reducible refine r_js ?_
  | with_reducible refine r_jsNil ?_
  | with_reducible refine r_repl ?_
  | ((with_reducible refine r_gLst (xs := ?xx) ?hh ?he ?_); (case hh => assumption); (case he => rfl))
  | ((with_reducible refine r_lenL (xs := ?xx) ?hh ?_); (case hh => assumption)))
local macro_rules | `(tactic| walk_at "tx") => `(tactic| repeat (walk_at "tx1"))
section
variable {t1 t2 t3 t4 : Tok} {P : Program} {w : World} {K : PySem.W.Frag} {mg : Str → Option Value} {base : Heap}
def spPart (K : PySem.W.Frag) : Sp := fun vs H Q _ => ∃ (k : Str) (v : V) (d : PyData), vs = [.str k, v] ∧ Dd K H v d ∧ okD d ∧ fewD d ∧ ∀ H', Same H H' → Q (.bl (kindD k d)) H'
abbrev s_is_part : Stmt := top 21
abbrev n_is_part : List Str := ["kind", "part"]
abbrev p_is_part : List Str := ["kind", "part"]
theorem sc_is_part : FnScope n_is_part p_is_part (defScope s_is_part) := ⟨rfl, rfl, rfl, by decide +kernel, rfl, by decide +kernel, by decide +kernel⟩
theorem ok_is_part (T : Txt mg t1 t2 t3 t4) {f : Addr} {fd : FuncData} (F : Fun K "_is_part" "_is_part" s_is_part f fd) (K_is_word : Cal P w K mg base CX0 2 "is_word" p_is_word (spD K wordD)) (K_is_value : Cal P w K mg base CX0 2 "is_value" p_is_value (spD K valueD))
    (K_is_number : Cal P w K mg base CX0 2 "is_number" p_is_number (spD K numD)) (K_is_index : Cal P w K mg base CX0 2 "_is_index" p_is_index (spD K indexD)) (K_are_keys : Cal P w K mg base CX0 2 "_are_keys" p_are_keys (spF K ascD)) :
    FnOk P w K mg base CX0 3 f fd p_is_part (spPart K) := by
  refine F.ok sc_is_part (fun vs H Q E h => by obtain ⟨k, v, d, rfl, _⟩ := h; rfl) (fun cdv A outer s H vs Q E hr h => ?_)
  obtain ⟨kx, v, d, rfl, hd, ho, hf, k⟩ := h
  have hu := hr.units
  refine ⟨_, (pss_cons (ps_if (pt_cmpR (k_eq hu) (pv 0) pe_str (nomark _)) (pss_one (ps_ret (pe_cal K_is_word (hr.mono (by decide)) pass0 (pa_cons (pv 1) pa_nil)))) pss_nil)
      (pss_cons (ps_if (pt_cmpR (k_eq hu) (pv 0) pe_str (nomark _)) (pss_one (ps_ret (pe_cal K_is_value (hr.mono (by decide)) pass0 (pa_cons (pv 1) pa_nil)))) pss_nil)
      (pss_cons (ps_if (pt_cmpR (k_eq hu) (pv 0) pe_str (nomark _)) (pss_one (ps_ret (pe_cal K_is_number (hr.mono (by decide)) pass0 (pa_cons (pv 1) pa_nil)))) pss_nil)
      (pss_cons (ps_if (pt_cmpR (k_eq hu) (pv 0) pe_str (nomark _)) (pss_one (ps_ret (pe_cal K_is_index (hr.mono (by decide)) pass0 (pa_cons (pv 1) pa_nil)))) pss_nil)
      (pss_one (ps_ret (pe_or (pe_cmpR o_isN (pv 1) pe_non (nomark _)) (pe_one (pe_cal K_are_keys (hr.mono (by decide)) pass0 (pa_cons (pv 1) pa_nil)))))))))), ?_⟩
  unfold kindD at k
  walk_at "tx"
  refine r_dec (fun c1 => ?_) (fun c1 => ?_)
  · rw [if_pos c1] at k
    walk_at "tx"
    exact r_spD hd ho k
  · rw [if_neg c1] at k
    walk_at "tx"
    refine r_dec (fun c2 => ?_) (fun c2 => ?_)
    · rw [if_pos c2] at k
      walk_at "tx"
      exact r_spD hd ho k
    · rw [if_neg c2] at k
      walk_at "tx"
      refine r_dec (fun c3 => ?_) (fun c3 => ?_)
      · rw [if_pos c3] at k
        walk_at "tx"
        exact r_spD hd ho k
      · rw [if_neg c3] at k
        walk_at "tx"
        refine r_dec (fun c4 => ?_) (fun c4 => ?_)
        · rw [if_pos c4] at k
          walk_at "tx"
          exact r_spD hd ho k
        · rw [if_neg c4] at k
          walk_at "tx"
          rw [noneD_iff hd]
          refine r_bool (fun c5 => ?_) (fun c5 => ?_)
          · have q := k H (Same.refl H)
            simpa [c5] using q
          · walk_at "tx"
            refine ⟨v, d, rfl, hd, ho, hf, fun H' s' => ?_⟩
            have q := k H' s'
            simpa [c5] using q
def spEvt (K : PySem.W.Frag) : Sp := fun vs H Q _ => ∃ (v : V) (d : PyData), vs = [v] ∧ Dd K H v d ∧ okD d ∧ fewI d ∧ ∀ H', Same H H' → Q (.bl (eventD d)) H'
theorem partsD_zip : ∀ {f : List Str} {ds : List PyData}, f.length = ds.length → partsD f ds = (List.zipWith kindD f ds).all id
  | [], [], _ => rfl
  | k :: f, d :: ds, h => by
    rw [partsD, List.zipWith_cons_cons, List.all_cons, partsD_zip (by simpa using h)]
    rfl
  | [], _ :: _, h => nomatch h
  | _ :: _, [], h => nomatch h
theorem DdAll.get {K : PySem.W.Frag} {H : Hp} : ∀ {vs : List V} {ds : List PyData} {i : Nat} {v : V}, DdAll K H vs ds → vs[i]? = some v → ∃ d, ds[i]? = some d ∧ Dd K H v d
  | _, _, _, _, .nil, h => by simp at h
  | _, _, 0, v, .cons h t, e => by
    simp at e
    subst e
    exact ⟨_, rfl, h⟩
  | _, _, i + 1, v, .cons h t, e => DdAll.get t (i := i) (by simpa using e)
theorem okAll_mem : ∀ {ds : List PyData} {d : PyData}, okAll ds → d ∈ ds → okD d
  | _ :: _, _, o, .head _ => o.1
  | _ :: _, _, o, .tail _ m => okAll_mem o.2 m
theorem lookup_few : ∀ r ∈ formsT, r.2.length ≤ 3 := by decide +kernel
theorem lookup_mem {x : Str} {f : List Str} (h : formsT.lookup x = some f) : f.length ≤ 3 := by
  have go : ∀ (l : List (Str × List Str)), l.lookup x = some f → (x, f) ∈ l := by
    intro l
    induction l with
    | nil => intro h; cases h
    | cons r l ih =>
      obtain ⟨y, g⟩ := r
      intro h
      rw [List.lookup_cons] at h
      by_cases e : (x == y) = true
      · rw [e] at h
        cases h
        rw [eq_of_beq e]
        exact List.mem_cons_self
      · rw [Bool.not_eq_true] at e
        rw [e] at h
        exact List.mem_cons_of_mem _ (ih h)
  exact lookup_few _ (go _ h)
abbrev s_is_event : Stmt := top 17
abbrev n_is_event : List Str := ["thing", "form", "kind", "part"]
abbrev p_is_event : List Str := ["thing"]
theorem sc_is_event : FnScope n_is_event p_is_event (defScope s_is_event) := ⟨rfl, rfl, rfl, by decide +kernel, rfl, by decide +kernel, by decide +kernel⟩
theorem ok_is_event {DF : Addr} (hDF : mg "FORMS" = some (.ref DF)) (hTab : TabK K w.params DF formsT) (T : Txt mg t1 t2 t3 t4) {f : Addr} {fd : FuncData} (F : Fun K "is_event" "is_event" s_is_event f fd) (K_is_word : Cal P w K mg base CX0 3 "is_word" p_is_word (spD K wordD))
    (K_is_part : Cal P w K mg base CX0 3 "_is_part" p_is_part (spPart K)) : FnOk P w K mg base CX0 4 f fd p_is_event (spEvt K) := by
  refine F.ok sc_is_event (fun vs H Q E h => by obtain ⟨v, d, rfl, _⟩ := h; rfl) (fun cdv A outer s H vs Q E hr h => ?_)
  obtain ⟨v, d, rfl, hd, ho, hf, k⟩ := h
  have hu := hr.units
  refine ⟨_, (pss_cons (ps_if (PW.pt (pw_or (pt_not (pt_val (pe_callB k_isi (by rfl) T.z_isinstance (by decide +kernel) (pa_cons (pv 0) (pa_cons (pe_bltn (v := .ty "tuple") rfl T.z_tuple (by decide +kernel) rfl) pa_nil))))) (pw_or1 (pt_cmpR (k_eq hu) (pe_callB k_len (by rfl) T.z_len (by decide +kernel) (pa_cons (pv 0) pa_nil)) pe_int (nomark _))))) (pss_one (ps_ret pe_bl)) pss_nil)
      (pss_cons (ps_if (PW.pt (pw_or (pt_not (pt_val (pe_cal K_is_word (hr.mono (by decide)) pass0 (pa_cons (pe_ix k_ix (pv 0) pe_int (fun _ _ => rfl)) pa_nil)))) (pw_or1 (pt_cmpR k_tabNot (pe_ix k_ix (pv 0) pe_int (fun _ _ => rfl)) (pe_glob (v := .ref DF) rfl hDF rfl) rfl)))) (pss_one (ps_ret pe_bl)) pss_nil)
      (pss_cons (ps_set (i := 1) sc_is_event.nd rfl (by first | exact Or.inl rfl | exact Or.inr rfl) (pe_ix k_tabIx (pe_glob (v := .ref DF) rfl hDF rfl) (pe_ix k_ix (pv 0) pe_int (fun _ _ => rfl)) (fun _ _ => rfl)))
      (pss_cons (ps_if (pt_cmpR (k_ne hu) (pe_callB k_len (by rfl) T.z_len (by decide +kernel) (pa_cons (pv 0) pa_nil)) (pe_op k_add (pe_callB k_len (by rfl) T.z_len (by decide +kernel) (pa_cons (pv 1) pa_nil)) pe_int) (nomark _)) (pss_one (ps_ret pe_bl)) pss_nil)
      (pss_one (ps_ret (pe_callB (k_all rfl) (by rfl) T.z_all (by decide +kernel) (pa_cons (pe_lc (own := [("kind", 2), ("part", 3)]) rfl sc_is_event.nd (k_zipA rfl T.z_zip (pa_cons (pv 1) (pa_cons (pe_slice k_slice (pv 0) (po_some pe_int) po_none) pa_nil))) (blkOk_by (own := [("kind", 2), ("part", 3)]) (N := n_is_event) (sc := defScope s_is_event) (by decide +kernel)) (fun _ _ _ _ _ => (k_gtup (n := 2) rfl (pgs_cons (pg_name (i := 2) sc_is_event.nd rfl (by first | exact Or.inl rfl | exact Or.inr rfl)) (pgs_cons (pg_name (i := 3) sc_is_event.nd rfl (by first | exact Or.inl rfl | exact Or.inr rfl)) pgs_nil)))) (fun _ _ _ _ _ => pts_nil) (fun _ _ _ _ _ => (pe_cal K_is_part (hr.mono (by decide)) pass0 (pa_cons (pv 2) (pa_cons (pv 3) pa_nil))))) pa_nil)))))))), ?_⟩
  walk_at "tx"
  have no : ∀ H', Same H H' → eventD d = false → Q (.bl false) H' := fun H' s' z => by
    have q := k H' s'
    rw [z] at q
    exact q
  rcases tup_or hd with ⟨a, xs, ds, rfl, rfl, ha, hds, e⟩ | ⟨e, hn⟩
  · rw [e]
    refine iteF ?_
    obtain ⟨o1, o2⟩ := ho
    walk_at "tx"
    cases hds with
    | nil =>
      refine r_dec (fun c => ?_) (fun c => absurd rfl c)
      walk_at "tx"
      exact no H (Same.refl H) rfl
    | cons h0 hr' =>
      rename_i v0 vs d0 dr
      refine r_dec (fun c => by rw [List.length_cons] at c; omega) (fun _ => ?_)
      walk_at "tx"
      refine r_ixT ha (v := v0) (atI_nat (j := 0) rfl) ?_
      walk_at "tx"
      refine r_spD h0 o2.1 fun H1 s1 => ?_
      have ha1 := s1 _ _ ha
      walk_at "tx"
      refine r_boolN (fun c => ?_) (fun c => ?_)
      · walk_at "tx"
        refine no H1 s1 ?_
        cases d0 with
        | str x =>
          show (wordS x && _) = false
          rw [show wordS x = false from c]
          rfl
        | _ => rfl
      · cases h0 with
        | str x =>
          have cw : wordS x = true := c
          walk_at "tx"
          refine r_ixT ha1 (v := .str x) (atI_nat (j := 0) rfl) ?_
          walk_at "tx"
          refine ⟨DF, formsT, x, rfl, rfl, hTab, ?_⟩
          walk_at "tx"
          cases hx : formsT.lookup x with
          | none =>
            refine iteT ?_
            walk_at "tx"
            refine no H1 s1 ?_
            show (wordS x && match formsT.lookup x with | some f => partsD f dr | none => false) = false
            rw [hx, Bool.and_false]
          | some fm =>
            have ev : eventD (.tuple (.str x :: dr)) = partsD fm dr := by
              show (wordS x && match formsT.lookup x with | some f => partsD f dr | none => false) = _
              rw [hx, cw]
              rfl
            refine iteF ?_
            walk_at "tx"
            refine r_ixT ha1 (v := .str x) (atI_nat (j := 0) rfl) ?_
            walk_at "tx"
            refine ⟨DF, formsT, x, fm, rfl, rfl, hTab, hx, fun b hb => ?_⟩
            walk_at "tx"
            refine ⟨_, _, rfl, .inr ⟨_, hb H1, rfl⟩, ?_⟩
            walk_at "tx"
            have lm := lookup_mem hx
            have ll := hr'.length
            refine r_decN (fun c2 => ?_) (fun c2 => ?_)
            · walk_at "tx"
              refine no H1 s1 ?_
              rw [ev]
              cases z : partsD fm dr with
              | false => rfl
              | true =>
                exfalso
                have := partsD_len z
                rw [List.length_cons, List.length_map] at c2
                omega
            · rw [List.length_cons, List.length_map] at c2
              have lf : fm.length = dr.length := by omega
              walk_at "tx"
              refine g_slT ha1 (n := (V.str x :: vs).length) rfl (by
                intro z
                have i1 : HT.sIx (V.str x :: vs).length 0 (some 1) = 1 := by
                  rw [List.length_cons]
                  unfold HT.sIx
                  simp
                rw [i1] at z
                exact absurd z.1 (by decide)) fun p H2 hp s2 e2 => ?_
              have e2 : H2 p = some (.tup vs) := by
                rw [e2]
                unfold cutV
                have i1 : HT.sIx (V.str x :: vs).length 0 (some 1) = 1 := by
                  rw [List.length_cons]
                  unfold HT.sIx
                  simp
                rw [i1, HT.sIx_none]
                show some (HO.tup (vs.take ((V.str x :: vs).length - 1))) = _
                rw [List.take_of_length_le (by simp)]
              walk_at "tx"
              refine ⟨b, p, fm.map V.str, vs, rfl, .inr ⟨hb H2, SqT.of e2, ?_⟩⟩
              have few : vs.length ≤ 3 := by omega
              refine lc_zip (by decide) ((List.zipWith kindD fm dr).map V.bl) (by simp; omega) (by simp; omega) (by simp; omega) (fun H' _ => hb H') (fun H' s' => SqT.of (s' _ _ e2)) (fun i y z r hy hz hr2 H3 R s3 q => ?_) (fun D H3 hD s3 e3 => ?_)
              · walk_at "tx"
                obtain ⟨dz, hdz, dd⟩ := DdAll.get hr' hz
                rw [List.getElem?_map] at hy
                cases hk : fm[i]? with
                | none => rw [hk] at hy; cases hy
                | some kx =>
                  rw [hk] at hy
                  cases hy
                  have hm := List.mem_of_getElem? hdz
                  refine ⟨kx, z, dz, rfl, Dd.same ((s1.trans s2).trans s3) _ _ dd, okAll_mem o2.2 hm, hf dz (List.mem_cons_of_mem _ hm), fun H4 s4 => ?_⟩
                  rw [List.getElem?_map, List.getElem?_zipWith, hk, hdz] at hr2
                  cases hr2
                  exact q H4 s4
              · walk_at "tx"
                refine r_all e3 ?_
                have q := k H3 ((s1.trans s2).trans s3)
                rw [ev, partsD_zip lf] at q
                exact q
        | _ => exact nomatch c
  · rw [e]
    refine iteT ?_
    walk_at "tx"
    exact no H (Same.refl H) (eventD_no hn)
theorem event_head {d : PyData} (h : eventD d = true) : ∃ x r, d = .tuple (.str x :: r) := by
  unfold eventD at h
  split at h
  · exact ⟨_, _, rfl⟩
  · cases h
def raisedF (C : Addr) (v : V) (H : Hp) (E : XK) : Prop := ∀ d H', H d = none → Same H H' → H' d = some (.xd (valF v)) → E (.ref C) (some d) H'
theorem mk_raisedF {C : Addr} {v : V} {H H1 : Hp} {E : XK} {K : PySem.W.Frag} (k : raisedF C v H E) (s : Same H H1) : MkG K C v H1 E := r_mk fun d H2 n2 s2 e2 => k d H2 (by
  cases z : H d with
  | none => rfl
  | some o => rw [s _ _ z] at n2; cases n2) (s.trans s2) e2
end
end K07

set_option Elab.async false
set_option linter.all false
set_option maxRecDepth 100000
set_option maxHeartbeats 4000000
namespace K07
open PySem PySem.Spec PyProof.Rows L2 Tk TkM TkP TkR CwR SX
local macro_rules | `(tactic| walk_at "rd1") => `(tactic| first
  | with_reducible refine r_seq ?_
  | ((with_reducible refine r_var (v := ?vv) ?hrv ?_); (case hrv => rfl))
  | with_reducible refine r_c ?_
  | with_reducible refine r_op ?_
  | ((with_reducible refine r_ixL (xs := ?xx) (v := ?vv) ?hh ?he ?_); (case hh => first | assumption | exact upd_same); (case he => rfl))
  | with_reducible refine r_asg ?_
  | with_reducible refine r_sub ?_
  | ((with_reducible refine r_gTup (xs := ?xx) ?hh ?he ?_); (case hh => assumption); (case he => rfl))
  | with_reducible refine r_gCons ?_
  | with_reducible refine r_gNil ?_
  | ((with_reducible refine r_setL (xs := ?xx) (j := ?vv) ?hh ?he ?_); (case hh => first | assumption | exact upd_same); (case he => rfl))
  | with_reducible refine r_pow15 ?_
  | with_reducible refine r_pow18 ?_
  | with_reducible refine r_repr ?_
  | with_reducible refine iteT ?_
  | with_reducible refine iteF ?_
  | with_reducible refine r_cons ?_
  | with_reducible refine r_nil ?_
  | with_reducible refine r_call ?_
  | with_reducible refine r_cb ?_
  | with_reducible refine r_ret ?_
  | with_reducible refine r_gName ?_
  | with_reducible refine r_next ?_
  | with_reducible refine r_ifS ?_
  | with_reducible refine r_un ?_
  | with_reducible refine r_U ?_
  | with_reducible refine r_max2 ?_
  | with_reducible refine r_min2 ?_
  | with_reducible refine r_sl ?_
  | with_reducible refine r_noPart ?_
  | with_reducible refine r_part ?_
  | with_reducible refine r_inti ?_
  | with_reducible refine r_lc ?_
  | with_reducible refine r_for ?_
  | with_reducible refine r_rng1 ?_
  | with_reducible refine r_iList ?_
  | with_reducible refine r_iTup ?_
  | with_reducible refine r_iStr ?_
  | with_reducible refine r_strx ?_
  | ((with_reducible refine r_j ?hh ?hi ?_); (case hh => omega); (case hi => omega))
  | with_reducible refine r_m1 ?_
  | with_reducible refine r_test ?_
  | with_reducible refine r_B ?_
  | with_reducible refine r_not ?_
  | with_reducible refine r_and ?_
  | with_reducible refine r_or ?_
  | with_reducible refine r_andV ?_
  | with_reducible refine r_orV ?_
  | with_reducible refine r_notV ?_
  | with_reducible refine r_if ?_
  | with_reducible refine r_chain ?_
  | with_reducible refine r_lst ?_
  | with_reducible refine r_tup ?_
  | with_reducible refine r_k ?_
  | ((with_reducible refine r_isiS (d := ?dd) ?hh ?_); (case hh => assumption))
  | ((with_reducible refine r_isiT (d := ?dd) ?hh ?_); (case hh => assumption))
  | ((with_reducible refine r_isiI (d := ?dd) ?hh ?_); (case hh => assumption))
  | ((with_reducible refine r_isiB (d := ?dd) ?hh ?_); (case hh => assumption))
  | ((with_reducible refine r_lenS ?hh ?_); (case hh => assumption))
  | ((with_reducible refine r_lenT (xs := ?dd) ?hh ?_); (case hh => assumption))
  | ((with_reducible refine r_ixT (xs := ?xx) (v := ?vv) ?hh ?he ?_); (case hh => assumption); (case he => rfl))
  | with_reducible refine r_isN ?_
  | with_reducible refine r_I0 ?_
  | with_reducible refine g_addI ?_
  | ((with_reducible refine r_mod ?hh ?_); (case hh => first | decide | omega))
  | ((with_reducible refine r_div ?hh ?hi ?_); (case hh => first | decide | omega); (case hi => first | decide | omega))
  | ((with_reducible refine g_mulB ?hh ?hi ?_); (case hh => omega); (case hi => omega))
  | with_reducible refine g_ltI ?_
  | with_reducible refine g_leI ?_
  | with_reducible refine g_gtI ?_
  | with_reducible refine g_geI ?_
  | with_reducible refine g_eqI ?_
  | with_reducible refine g_neI ?_
  | with_reducible refine g_eqS ?_
  | with_reducible refine g_neS ?_
  | with_reducible refine g_leS ?_
  | with_reducible refine g_ltS ?_)
local macro_rules | `(tactic| walk_at "rd") => `(tactic| repeat (walk_at "rd1"))
local macro_rules | `(tactic| walk_at "ed") => `(tactic| repeat first
  | exact ed_int
  | exact ed_str
  | exact ed_bl
  | exact ed_non
  | exact ed_nil
  | exact ed_dct
  | exact ed_neg
  | with_reducible apply ed_cons
  | with_reducible apply ed_tup
  | with_reducible apply ed_lst
  | exact Nat.le_of_ble_eq_true rfl)
local macro_rules | `(tactic| walk_at "tx1") => `(tactic| first
  | walk_at "rd1"
  | with_reducible refine r_callS ?_
  | with_reducible refine r_zipA ?_
  | with_reducible refine r_par ?_
  | with_reducible refine r_pair ?_
  | with_reducible refine r_pow6 ?_
  | with_reducible refine r_m0 ?_
  | with_reducible refine r_bm ?_
  | with_reducible refine r_isS ?_
  | with_reducible refine r_told ?_
  | with_reducible refine r_js ?_
  | with_reducible refine r_jsNil ?_
  | with_reducible refine r_repl ?_
  | ((with_reducible refine r_gLst (xs := ?xx) ?hh ?he ?_); (case hh => assumption); (case he => rfl))
  | ((with_reducible refine r_lenL (xs := ?xx) ?hh ?_); (case hh => assumption)))
local macro_rules | `(tactic| walk_at "tx") => `(tactic| repeat (walk_at "tx1"))
section
variable {t1 t2 t3 t4 : Tok} {P : Program} {w : World} {K : PySem.W.Frag} {mg : Str → Option Value} {base : Heap}
def five : List Str := ["word", "value", "number", "index", "keys"]
theorem kd_word (d : PyData) : kindD (Str.ofString "word") d = wordD d := if_pos rfl
theorem kd_value (d : PyData) : kindD (Str.ofString "value") d = valueD d := (if_neg (by decide +kernel)).trans (if_pos rfl)
theorem kd_number (d : PyData) : kindD (Str.ofString "number") d = numD d := (if_neg (by decide +kernel)).trans ((if_neg (by decide +kernel)).trans (if_pos rfl))
theorem kd_index (d : PyData) : kindD (Str.ofString "index") d = indexD d := (if_neg (by decide +kernel)).trans ((if_neg (by decide +kernel)).trans ((if_neg (by decide +kernel)).trans (if_pos rfl)))
theorem kd_keys (d : PyData) : kindD (Str.ofString "keys") d = (noneD d || ascD d) := (if_neg (by decide +kernel)).trans ((if_neg (by decide +kernel)).trans ((if_neg (by decide +kernel)).trans (if_neg (by decide +kernel))))
theorem log_few {i : Int} (h0 : 0 ≤ i) (h1 : i ≤ 1000000000000000) : i.natAbs.log2 < 1920 := by
  by_cases z : i.natAbs = 0
  · rw [z]; decide
  · exact (Nat.log2_lt z).mpr (Nat.lt_of_le_of_lt (show i.natAbs ≤ 2 ^ 50 by omega) (Nat.pow_lt_pow_right (by decide) (by decide)))
theorem num_txt {i : Int} (h0 : 0 ≤ i) : Str.ofString (toString i) = S (TL.numL i.toNat) := by
  obtain ⟨n, rfl⟩ := Int.eq_ofNat_of_zero_le h0
  exact num_S n
theorem join_keys (ys : List Str) : Txt.join (Str.ofString " ") ys = S (partT (Str.ofString "keys") (.tuple (ys.map .str))) := by
  have e := join_S [32] (ys.map fun y => y.cps.toList)
  have e2 : (ys.map fun y => y.cps.toList).map S = ys := by
    rw [List.map_map]
    exact (List.map_congr_left fun y _ => S_tl y).trans (List.map_id _)
  rw [e2] at e
  refine Eq.trans (show _ = Txt.join (S [32]) ys from rfl) (e.trans ?_)
  show _ = S (TL.joinL [32] (keysT (ys.map .str)))
  unfold keysT
  rw [List.map_map]
  rfl
/-- what a part of an event is as text -/
def spFP (K : PySem.W.Frag) : Sp := fun vs H Q _ => ∃ (k : Str) (v : V) (d : PyData), vs = [.str k, v] ∧ Dd K H v d ∧ fewD d ∧ k ∈ five ∧ kindD k d = true ∧ ∀ H', Same H H' → Q (.str (S (partT k d))) H'
abbrev s_format_part : Stmt := top 24
abbrev n_format_part : List Str := ["kind", "part"]
abbrev p_format_part : List Str := ["kind", "part"]
theorem sc_format_part : FnScope n_format_part p_format_part (defScope s_format_part) := ⟨rfl, rfl, rfl, by decide +kernel, rfl, by decide +kernel, by decide +kernel⟩
theorem ok_format_part (T : Txt mg t1 t2 t3 t4) {f : Addr} {fd : FuncData} (F : Fun K "_format_part" "_format_part" s_format_part f fd) (K_format_value : Cal P w K mg base CX0 1 "format_value" p_format_value (spTxt 1000 told)) :
    FnOk P w K mg base CX0 2 f fd p_format_part (spFP K) := by
  refine F.ok sc_format_part (fun vs H Q E h => by obtain ⟨k, v, d, rfl, _⟩ := h; rfl) (fun cdv A outer s H vs Q E hr h => ?_)
  obtain ⟨kx, v, d, rfl, hd, hf, h5, hk, k⟩ := h
  have hu := hr.units
  refine ⟨_, (pss_cons (ps_if (pt_cmpR (k_eq hu) (pv 0) pe_str (nomark _)) (pss_one (ps_ret (pe_cal K_format_value (hr.mono (by decide)) pass0 (pa_cons (pv 1) pa_nil)))) pss_nil)
      (pss_cons (ps_if (pt_cmpR (k_eq hu) (pv 0) pe_str (nomark _)) (pss_one (ps_ret (pe_ifExp (pt_cmpR o_isN (pv 1) pe_non (nomark _)) pe_str (k_joinK pe_str (pv 1))))) pss_nil)
      (pss_one (ps_ret (pe_callTy k_strX (by rfl) T.z_str (by decide +kernel) (pa_cons (pv 1) pa_nil)))))), ?_⟩
  have q := k H (Same.refl H)
  walk_at "tx"
  refine r_dec (fun c1 => ?_) (fun c1 => ?_)
  · obtain rfl : kx = "value" := c1
    rw [kd_value] at hk
    cases d with
    | str x =>
      cases hd
      walk_at "tx"
      have l := value_len (x := x.cps.toList) (by rw [S_tl]; exact hk)
      have l2 : x.length ≤ 1000 := by
        have : x.cps.toList.length = x.length := by rw [Array.length_toList]; rfl
        omega
      exact r_txt l2 k
    | _ => cases hk
  · walk_at "tx"
    refine r_dec (fun c2 => ?_) (fun c2 => ?_)
    · obtain rfl : kx = "keys" := c2
      rw [kd_keys, Bool.or_eq_true] at hk
      walk_at "tx"
      rw [noneD_iff hd]
      refine r_bool (fun c3 => ?_) (fun c3 => ?_)
      · walk_at "tx"
        cases d <;> first | exact q | cases c3
      · walk_at "tx"
        have hk : ascD d = true := hk.resolve_left (by rw [c3]; exact Bool.false_ne_true)
        cases d with
        | tuple ds =>
          cases hd with
          | tup ha hds =>
            unfold ascD at hk
            rw [Bool.and_eq_true] at hk
            obtain ⟨ys, rfl, rfl⟩ := words_strs hds hk.1
            have hf : (ys.map PyData.str).length ≤ 60 := hf
            rw [List.length_map] at hf
            refine ⟨_, _, ys, rfl, rfl, .inr (SqT.of ha), ?_, ?_⟩
            · have sm := sum_le (zs := ys) (n := 8) fun y hy => by
                have := List.all_eq_true.mp hk.1 (.str y) (List.mem_map_of_mem hy)
                have l := (word_len (x := y.cps.toList) (by rw [S_tl]; exact this)).2
                have : y.cps.toList.length = y.length := by rw [Array.length_toList]; rfl
                omega
              have e1 : (Str.ofString " ").length = 1 := by decide
              rw [e1]
              omega
            · have e : Txt.join (Str.ofString " ") ys = S (partT (Str.ofString "keys") (.tuple (ys.map .str))) := join_keys ys
              rw [e]
              exact q
        | _ => cases hk
    · walk_at "tx"
      unfold five at h5
      simp only [List.mem_cons, List.not_mem_nil, or_false] at h5
      rcases h5 with rfl | rfl | rfl | rfl | rfl
      · rw [kd_word] at hk
        obtain ⟨a, rfl, _⟩ := word_txt hk
        cases hd
        exact .inr ⟨_, rfl, q⟩
      · exact absurd rfl c1
      · rw [kd_number] at hk
        cases d with
        | int i =>
          cases hd
          unfold numD at hk
          rw [Bool.and_eq_true, decide_eq_true_eq, decide_eq_true_eq] at hk
          refine .inl ⟨i, rfl, log_few (by omega) (by omega), ?_⟩
          rw [num_txt (by omega)]
          exact q
        | _ => cases hk
      · rw [kd_index] at hk
        cases d with
        | int i =>
          cases hd
          unfold indexD at hk
          rw [Bool.and_eq_true, decide_eq_true_eq, decide_eq_true_eq] at hk
          refine .inl ⟨i, rfl, log_few (by omega) (by omega), ?_⟩
          rw [num_txt (by omega)]
          exact q
        | _ => cases hk
      · exact absurd rfl c2
end
end K07

set_option Elab.async false
set_option linter.all false
set_option maxRecDepth 100000
set_option maxHeartbeats 4000000
namespace K07
open PySem PySem.Spec PyProof.Rows L2 Tk TkM TkP TkR CwR SX
local macro_rules | `(tactic| walk_at "rd1") => `(tactic| first
  | with_reducible refine r_seq ?_
  | ((with_reducible refine r_var (v := ?vv) ?hrv ?_); (case hrv => rfl))
  | with_reducible refine r_c ?_
  | with_reducible refine r_op ?_
  | ((with_reducible refine r_ixL (xs := ?xx) (v := ?vv) ?hh ?he ?_); (case hh => first | assumption | exact upd_same); (case he => rfl))
  | with_reducible refine r_asg ?_
  | with_reducible refine r_sub ?_
  | ((with_reducible refine r_gTup (xs := ?xx) ?hh ?he ?_); (case hh => assumption); (case he => rfl))
  | with_reducible refine r_gCons ?_
  | with_reducible refine r_gNil ?_
  | ((with_reducible refine r_setL (xs := ?xx) (j := ?vv) ?hh ?he ?_); (case hh => first | assumption | exact upd_same); (case he => rfl))
  | with_reducible refine r_pow15 ?_
  | with_reducible refine r_pow18 ?_
  | with_reducible refine r_repr ?_
  | with_reducible refine iteT ?_
  | with_reducible refine iteF ?_
  | with_reducible refine r_cons ?_
  | with_reducible refine r_nil ?_
  | with_reducible refine r_call ?_
  | with_reducible refine r_cb ?_
  | with_reducible refine r_ret ?_
  | with_reducible refine r_gName ?_
  | with_reducible refine r_next ?_
  | with_reducible refine r_ifS ?_
  | with_reducible refine r_un ?_
  | with_reducible refine r_U ?_
  | with_reducible refine r_max2 ?_
  | with_reducible refine r_min2 ?_
  | with_reducible refine r_sl ?_
  | with_reducible refine r_noPart ?_
  | with_reducible refine r_part ?_
  | with_reducible refine r_inti ?_
  | with_reducible refine r_lc ?_
  | with_reducible refine r_for ?_
  | with_reducible refine r_rng1 ?_
  | with_reducible refine r_iList ?_
  | with_reducible refine r_iTup ?_
  | with_reducible refine r_iStr ?_
  | with_reducible refine r_strx ?_
  | ((with_reducible refine r_j ?hh ?hi ?_); (case hh => omega); (case hi => omega))
  | with_reducible refine r_m1 ?_
  | with_reducible refine r_test ?_
  | with_reducible refine r_B ?_
  | with_reducible refine r_not ?_
  | with_reducible refine r_and ?_
  | with_reducible refine r_or ?_
  | with_reducible refine r_andV ?_
  | with_reducible refine r_orV ?_
  | with_reducible refine r_notV ?_
  | with_reducible refine r_if ?_
  | with_reducible refine r_chain ?_
  | with_reducible refine r_lst ?_
  | with_reducible refine r_tup ?_
  | with_reducible refine r_k ?_
  | ((with_reducible refine r_isiS (d := ?dd) ?hh ?_); (case hh => assumption))
  | ((with_reducible refine r_isiT (d := ?dd) ?hh ?_); (case hh => assumption))
  | ((with_reducible refine r_isiI (d := ?dd) ?hh ?_); (case hh => assumption))
  | ((with_reducible refine r_isiB (d := ?dd) ?hh ?_); (case hh => assumption))
  | ((with_reducible refine r_lenS ?hh ?_); (case hh => assumption))
  | ((with_reducible refine r_lenT (xs := ?dd) ?hh ?_); (case hh => assumption))
  | ((with_reducible refine r_ixT (xs := ?xx) (v := ?vv) ?hh ?he ?_); (case hh => assumption); (case he => rfl))
  | with_reducible refine r_isN ?_
  | with_reducible refine r_I0 ?_
  | with_reducible refine g_addI ?_
  | ((with_reducible refine r_mod ?hh ?_); (case hh => first | decide | omega))
  | ((with_reducible refine r_div ?hh ?hi ?_); (case hh => first | decide | omega); (case hi => first | decide | omega))
  | ((with_reducible refine g_mulB ?hh ?hi ?_); (case hh => omega); (case hi => omega))
  | with_reducible refine g_ltI ?_
  | with_reducible refine g_leI ?_
  | with_reducible refine g_gtI ?_
  | with_reducible refine g_geI ?_
  | with_reducible refine g_eqI ?_
  | with_reducible refine g_neI ?_
  | with_reducible refine g_eqS ?_
  | with_reducible refine g_neS ?_
  | with_reducible refine g_leS ?_
  | with_reducible refine g_ltS ?_)
local macro_rules | `(tactic| walk_at "rd") => `(tactic| repeat (walk_at "rd1"))
local macro_rules | `(tactic| walk_at "ed") => `(tactic| repeat first
  | exact ed_int
  | exact ed_str
  | exact ed_bl
  | exact ed_non
  | exact ed_nil
  | exact ed_dct
  | exact ed_neg
  | with_reducible apply ed_cons
  | with_reducible apply ed_tup
  | with_reducible apply ed_lst
  | exact Nat.le_of_ble_eq_true rfl)
local macro_rules | `(tactic| walk_at "tx1") => `(tactic| first
  | walk_at "rd1"
  | with_reducible refine r_callS ?_
  | with_reducible refine r_zipA ?_
  | with_reducible refine r_par ?_
  | with_reducible refine r_pair ?_
  | with_reducible refine r_pow6 ?_
  | with_reducible refine r_m0 ?_
  | with_reducible refine r_bm ?_
  | with_reducible refine r_isS ?_
  | with_reducible refine r_told ?_
  | with_reducible refine r_js ?_
  | with_reducible refine r_jsNil ?_
  | with_reducible refine r_repl ?_
  | ((with_reducible refine r_gLst (xs := ?xx) ?hh ?he ?_); (case hh => assumption); (case he => rfl))
  | ((with_reducible refine r_lenL (xs := ?xx) ?hh ?_); (case hh => assumption)))
local macro_rules | `(tactic| walk_at "tx") => `(tactic| repeat (walk_at "tx1"))
section
variable {t1 t2 t3 t4 : Tok} {P : Program} {w : World} {K : PySem.W.Frag} {mg : Str → Option Value} {base : Heap}
theorem partsT_len : ∀ {f : List Str} {ds : List PyData}, ds.length = f.length → (partsT f ds).length = f.length
  | [], [], _ => rfl
  | k :: f, d :: ds, h => by
    show (partsT f ds).length + 1 = _
    rw [partsT_len (f := f) (ds := ds) (by simpa using h)]
    rfl
  | [], _ :: _, h => nomatch h
  | _ :: _, [], h => nomatch h
theorem partsT_get : ∀ {f : List Str} {ds : List PyData} {i : Nat} {k : Str} {d : PyData}, f[i]? = some k → ds[i]? = some d → (partsT f ds)[i]? = some (partT k d)
  | k :: f, d :: ds, 0, _, _, h1, h2 => by
    simp at h1 h2
    subst h1 h2
    rfl
  | k :: f, d :: ds, i + 1, _, _, h1, h2 => partsT_get (f := f) (ds := ds) (i := i) (by simpa using h1) (by simpa using h2)
  | [], _, _, _, _, h1, _ => by simp at h1
  | _ :: _, [], _, _, _, _, h2 => by simp at h2
theorem partsD_get : ∀ {f : List Str} {ds : List PyData} {i : Nat} {k : Str} {d : PyData}, partsD f ds = true → f[i]? = some k → ds[i]? = some d → kindD k d = true
  | k :: f, d :: ds, 0, _, _, h, h1, h2 => by
    simp at h1 h2
    subst h1 h2
    rw [partsD, Bool.and_eq_true] at h
    exact h.1
  | k :: f, d :: ds, i + 1, _, _, h, h1, h2 => by
    rw [partsD, Bool.and_eq_true] at h
    exact partsD_get (f := f) (ds := ds) (i := i) h.2 (by simpa using h1) (by simpa using h2)
  | [], _, _, _, _, _, h1, _ => by simp at h1
  | _ :: _, [], _, _, _, _, _, h2 => by simp at h2
theorem shape_five {f : List Str} (h : f ∈ shapes) : ∀ k ∈ f, k ∈ five := by
  have all : ∀ f ∈ shapes, ∀ k ∈ f, k ∈ five := by decide
  exact all f h
theorem esc_len (v : List Nat) : (esc v).length ≤ 2 * v.length := by
  induction v with
  | nil => exact Nat.le_refl _
  | cons c v ih =>
    rw [esc_cons, List.length_append, List.length_cons]
    split <;> simp <;> omega
theorem partT_le {k : Str} {d : PyData} (h5 : k ∈ five) (hk : kindD k d = true) (hf : fewD d) : (partT k d).length ≤ 1000 := by
  unfold five at h5
  simp only [List.mem_cons, List.not_mem_nil, or_false] at h5
  have word : wordD d = true → ∀ k : Str, k ≠ "value" → (partT k d).length ≤ 1000 := fun z k n => by
    obtain ⟨a, rfl, w⟩ := word_txt z
    have := (word_len w).2
    show (if k = "value" then 34 :: (esc a ++ [34]) else a).length ≤ 1000
    rw [if_neg n]
    omega
  have num : ∀ (i : Int), 0 ≤ i → i ≤ 1000000000000000 → (TL.numL i.toNat).length ≤ 1000 := fun i a b => by
    have := num_len (n := i.toNat) (by omega)
    omega
  rcases h5 with rfl | rfl | rfl | rfl | rfl
  · rw [kd_word] at hk
    exact word hk _ (by decide)
  · rw [kd_value] at hk
    cases d with
    | str x =>
      have l := value_len (x := x.cps.toList) (by rw [S_tl]; exact hk)
      have l2 := esc_len x.cps.toList
      show (34 :: (esc x.cps.toList ++ [34])).length ≤ 1000
      simp
      omega
    | _ => cases hk
  · rw [kd_number] at hk
    cases d with
    | int i =>
      unfold numD at hk
      rw [Bool.and_eq_true, decide_eq_true_eq, decide_eq_true_eq] at hk
      exact num i (by omega) (by omega)
    | _ => cases hk
  · rw [kd_index] at hk
    cases d with
    | int i =>
      unfold indexD at hk
      rw [Bool.and_eq_true, decide_eq_true_eq, decide_eq_true_eq] at hk
      exact num i (by omega) (by omega)
    | _ => cases hk
  · rw [kd_keys, Bool.or_eq_true] at hk
    rcases hk with hk | hk
    · cases d <;> first | (show [42].length ≤ 1000; decide) | cases hk
    · cases d with
      | tuple ds =>
        unfold ascD at hk
        rw [Bool.and_eq_true] at hk
        have ex : ∃ ys : List Str, ds = ys.map PyData.str := ⟨ds.map txtD, by
          rw [List.map_map]
          refine ((List.map_congr_left fun d hd => ?_).trans (List.map_id _)).symm
          obtain ⟨a, rfl, _⟩ := word_txt (List.all_eq_true.mp hk.1 d hd)
          rfl⟩
        obtain ⟨ys, rfl⟩ := ex
        have hf : (ys.map PyData.str).length ≤ 60 := hf
        rw [List.length_map] at hf
        have e : (Txt.join (Str.ofString " ") ys).length = (partT (Str.ofString "keys") (.tuple (ys.map .str))).length := by rw [join_keys, S_len]
        rw [join_len] at e
        have sm := sum_le (zs := ys) (n := 8) fun y hy => by
          have := List.all_eq_true.mp hk.1 (.str y) (List.mem_map_of_mem hy)
          have l := (word_len (x := y.cps.toList) (by rw [S_tl]; exact this)).2
          have : y.cps.toList.length = y.length := by rw [Array.length_toList]; rfl
          omega
        have e1 : (Str.ofString " ").length = 1 := by decide
        rw [e1] at e
        show (partT (Str.ofString "keys") (.tuple (ys.map .str))).length ≤ 1000
        omega
      | _ => cases hk
theorem partsT_le : ∀ {f : List Str} {ds : List PyData}, (∀ k ∈ f, k ∈ five) → partsD f ds = true → (∀ d ∈ ds, fewD d) → ∀ t ∈ partsT f ds, t.length ≤ 1000
  | k :: f, d :: ds, h5, hp, hf, t, ht => by
    rw [partsD, Bool.and_eq_true] at hp
    rcases List.mem_cons.mp (show t ∈ partT k d :: partsT f ds from ht) with rfl | ht
    · exact partT_le (h5 _ List.mem_cons_self) hp.1 (hf _ List.mem_cons_self)
    · exact partsT_le (fun k hk => h5 k (List.mem_cons_of_mem _ hk)) hp.2 (fun d hd => hf d (List.mem_cons_of_mem _ hd)) t ht
  | [], _, _, _, _, _, ht => by cases ht
  | _ :: _, [], _, _, _, _, ht => by cases ht
def spFmtE (K : PySem.W.Frag) (C : Addr) : Sp := fun vs H Q E => ∃ (v : V) (d : PyData), vs = [v] ∧ Dd K H v d ∧ okD d ∧ fewI d ∧ (eventD d = true → ∀ H', Same H H' → Q (.str (S (evT d))) H') ∧ (eventD d = false → raisedF C v H E)
abbrev s_format_event : Stmt := top 18
abbrev n_format_event : List Str := ["event", "form", "parts", "kind", "part"]
abbrev p_format_event : List Str := ["event"]
theorem sc_format_event : FnScope n_format_event p_format_event (defScope s_format_event) := ⟨rfl, rfl, rfl, by decide +kernel, rfl, by decide +kernel, by decide +kernel⟩
theorem ok_format_event {CB DF : Addr} (hDF : mg "FORMS" = some (.ref DF)) (hTab : TabK K w.params DF formsT) (R_BadEvent : ExcR P w K mg base "BadEvent" CB) (T : Txt mg t1 t2 t3 t4) {f : Addr} {fd : FuncData} (F : Fun K "format_event" "format_event" s_format_event f fd)
    (K_is_event : Cal P w K mg base CX0 4 "is_event" p_is_event (spEvt K)) (K_format_part : Cal P w K mg base CX0 4 "_format_part" p_format_part (spFP K)) : FnOk P w K mg base (L2.CX P w) 5 f fd p_format_event (spFmtE K CB) := by
  refine F.okX sc_format_event (fun vs H Q E h => by obtain ⟨v, d, rfl, _⟩ := h; rfl) (fun cdv A outer s H vs Q E hr h => ?_)
  obtain ⟨v, d, rfl, hd, ho, hf, k, kx⟩ := h
  have hu := hr.units
  refine ⟨_, (pss_cons (ps_if (pt_not (pt_val (pe_cal K_is_event (hr.mono (by decide)) pass0 (pa_cons (pv 0) pa_nil)))) (pss_one (ps_raiseV R_BadEvent (takes_of rfl rfl rfl rfl) (hr.mono (by decide)) (pv 0))) pss_nil)
      (pss_cons (ps_set (i := 1) sc_format_event.nd rfl (by first | exact Or.inl rfl | exact Or.inr rfl) (pe_ix k_tabIx (pe_glob (v := .ref DF) rfl hDF rfl) (pe_ix k_ix (pv 0) pe_int (fun _ _ => rfl)) (fun _ _ => rfl)))
      (pss_cons (ps_setLc (i := 2) (own := [("kind", 3), ("part", 4)]) rfl sc_format_event.nd rfl rfl (sw_true rfl rfl rfl (by decide +kernel)) (k_zipA rfl T.z_zip (pa_cons (pv 1) (pa_cons (pe_slice k_slice (pv 0) (po_some pe_int) po_none) pa_nil))) (blkOk_by (own := [("kind", 3), ("part", 4)]) (N := n_format_event) (sc := defScope s_format_event) (by decide +kernel)) (fun _ _ _ _ _ => (k_gtup (n := 2) rfl (pgs_cons (pg_name (i := 3) sc_format_event.nd rfl (by first | exact Or.inl rfl | exact Or.inr rfl)) (pgs_cons (pg_name (i := 4) sc_format_event.nd rfl (by first | exact Or.inl rfl | exact Or.inr rfl)) pgs_nil)))) (fun _ _ _ _ _ => pts_nil) (fun _ _ _ _ _ => (pe_cal K_format_part (hr.mono (by decide)) pass0 (pa_cons (pv 3) (pa_cons (pv 4) pa_nil)))))
      (pss_one (ps_ret (k_joinK pe_str (pe_op k_add (pe_lst (pa_cons (pe_ix k_ix (pv 0) pe_int (fun _ _ => rfl)) pa_nil)) (pv 2)))))))), ?_⟩
  walk_at "tx"
  refine ⟨v, d, rfl, hd, ho, hf, fun H1 s1 => ?_⟩
  walk_at "tx"
  refine r_boolN (fun c => ?_) (fun c => ?_)
  · refine r_raise ?_
    walk_at "tx"
    exact mk_raisedF (kx c) s1
  · obtain ⟨w0, fm, dr, rfl, hw, hx, hs, hp, et⟩ := event_is c
    cases hd with
    | tup ha al =>
      cases al with
      | cons h0 hr' =>
        cases h0
        rename_i a vs
        have ha1 := s1 _ _ ha
        walk_at "tx"
        refine r_ixT ha1 (v := .str (S w0)) (atI_nat (j := 0) rfl) ?_
        walk_at "tx"
        refine ⟨DF, formsT, S w0, fm, rfl, rfl, hTab, hx, fun b hb => ?_⟩
        walk_at "tx"
        have ll := hr'.length
        have lp := partsD_len hp
        have lm := lookup_mem hx
        refine g_slT ha1 (n := (V.str (S w0) :: vs).length) rfl (by
          intro z
          have i1 : HT.sIx (V.str (S w0) :: vs).length 0 (some 1) = 1 := by
            rw [List.length_cons]
            unfold HT.sIx
            simp
          rw [i1] at z
          exact absurd z.1 (by decide)) fun p H2 hp2 s2 e2 => ?_
        have e2 : H2 p = some (.tup vs) := by
          rw [e2]
          unfold cutV
          have i1 : HT.sIx (V.str (S w0) :: vs).length 0 (some 1) = 1 := by
            rw [List.length_cons]
            unfold HT.sIx
            simp
          rw [i1, HT.sIx_none]
          show some (HO.tup (vs.take ((V.str (S w0) :: vs).length - 1))) = _
          rw [List.take_of_length_le (by simp)]
        walk_at "tx"
        refine ⟨b, p, fm.map V.str, vs, rfl, .inr ⟨hb H2, SqT.of e2, ?_⟩⟩
        refine lc_zip (by decide) ((partsT fm dr).map fun t => V.str (S t)) (by rw [List.length_map, List.length_map, partsT_len lp]) (by rw [List.length_map, partsT_len lp]; omega) (by rw [List.length_map, partsT_len lp]; omega) (fun H' _ => hb H') (fun H' s' => SqT.of (s' _ _ e2)) (fun i y z r hy hz hr2 H3 R s3 q => ?_) (fun D H3 hD s3 e3 => ?_)
        · rw [List.getElem?_map] at hy
          obtain ⟨dz, hdz, dd⟩ := DdAll.get hr' hz
          cases hk : fm[i]? with
          | none => rw [hk] at hy; cases hy
          | some kx =>
            rw [hk] at hy
            cases hy
            rw [List.getElem?_map, partsT_get hk hdz] at hr2
            cases hr2
            walk_at "tx"
            exact ⟨kx, z, dz, rfl, Dd.same ((s1.trans s2).trans s3) _ _ dd, hf dz (List.mem_cons_of_mem _ (List.mem_of_getElem? hdz)), shape_five hs kx (List.mem_of_getElem? hk), partsD_get hp hk hdz, q⟩
        · walk_at "tx"
          refine r_ixT (s3 _ _ (s2 _ _ ha1)) (v := .str (S w0)) (atI_nat (j := 0) rfl) ?_
          walk_at "tx"
          refine a_lst (by simp) fun L H4 n4 s4 e4 => ?_
          walk_at "tx"
          refine g_catL e4 (s4 _ _ e3) (by simp [partsT_len lp]; omega) fun p5 H5 n5 s5 e5 => ?_
          have small : ∀ t ∈ w0 :: partsT fm dr, t.length ≤ 1000 := by
            intro t ht
            rcases List.mem_cons.mp ht with rfl | ht
            · have := (word_len hw).2
              omega
            · exact partsT_le (shape_five hs) hp (fun d hd => hf d (List.mem_cons_of_mem _ hd)) t ht
          have e5 : H5 p5 = some (.lst (((w0 :: partsT fm dr).map S).map V.str)) := by
            rw [e5, List.map_cons, List.map_cons, List.map_map]
            rfl
          refine r_join e5 ?_ ?_
          · have sm := sum_le (zs := (w0 :: partsT fm dr).map S) (n := 1000) fun y hy => by
              obtain ⟨t, ht, rfl⟩ := List.mem_map.mp hy
              rw [S_len]
              exact small t ht
            have e1 : (Str.ofString " ").length = 1 := by decide
            rw [e1]
            rw [List.length_map, List.length_cons, partsT_len lp] at *
            omega
          · have q := k c H5 (s1.trans (s2.trans (s3.trans (s4.trans s5))))
            rw [et, ← join_S] at q
            exact q
end
end K07

set_option Elab.async false
set_option linter.all false
set_option maxRecDepth 100000
set_option maxHeartbeats 4000000
namespace K07
open PySem PySem.Spec PyProof.Rows L2 Tk TkM TkP TkR CwR SX
local macro_rules | `(tactic| walk_at "rd1") => `(tactic| first
  | with_reducible refine r_seq ?_
  | ((with_reducible refine r_var (v := ?vv) ?hrv ?_); (case hrv => rfl))
  | with_reducible refine r_c ?_
  | with_reducible refine r_op ?_
  | ((with_reducible refine r_ixL (xs := ?xx) (v := ?vv) ?hh ?he ?_); (case hh => first | assumption | exact upd_same); (case he => rfl))
  | with_reducible refine r_asg ?_
  | with_reducible refine r_sub ?_
  | ((with_reducible refine r_gTup (xs := ?xx) ?hh ?he ?_); (case hh => assumption); (case he => rfl))
  | with_reducible refine r_gCons ?_
  | with_reducible refine r_gNil ?_
  | ((with_reducible refine r_setL (xs := ?xx) (j := ?vv) ?hh ?he ?_); (case hh => first | assumption | exact upd_same); (case he => rfl))
  | with_reducible refine r_pow15 ?_
  | with_reducible refine r_pow18 ?_
  | with_reducible refine r_repr ?_
  | with_reducible refine iteT ?_
  | with_reducible refine iteF ?_
  | with_reducible refine r_cons ?_
  | with_reducible refine r_nil ?_
  | with_reducible refine r_call ?_
  | with_reducible refine r_cb ?_
  | with_reducible refine r_ret ?_
  | with_reducible refine r_gName ?_
  | with_reducible refine r_next ?_
  | with_reducible refine r_ifS ?_
  | with_reducible refine r_un ?_
  | with_reducible refine r_U ?_
  | with_reducible refine r_max2 ?_
  | with_reducible refine r_min2 ?_
  | with_reducible refine r_sl ?_
  | with_reducible refine r_noPart ?_
  | with_reducible refine r_part ?_
  | with_reducible refine r_inti ?_
  | with_reducible refine r_lc ?_
  | with_reducible refine r_for ?_
  | with_reducible refine r_rng1 ?_
  | with_reducible refine r_iList ?_
  | with_reducible refine r_iTup ?_
  | with_reducible refine r_iStr ?_
  | with_reducible refine r_strx ?_
  | ((with_reducible refine r_j ?hh ?hi ?_); (case hh => omega); (case hi => omega))
  | with_reducible refine r_m1 ?_
  | with_reducible refine r_test ?_
  | with_reducible refine r_B ?_
  | with_reducible refine r_not ?_
  | with_reducible refine r_and ?_
  | with_reducible refine r_or ?_
  | with_reducible refine r_andV ?_
  | with_reducible refine r_orV ?_
  | with_reducible refine r_notV ?_
  | with_reducible refine r_if ?_
  | with_reducible refine r_chain ?_
  | with_reducible refine r_lst ?_
  | with_reducible refine r_tup ?_
  | with_reducible refine r_k ?_
  | ((with_reducible refine r_isiS (d := ?dd) ?hh ?_); (case hh => assumption))
  | ((with_reducible refine r_isiT (d := ?dd) ?hh ?_); (case hh => assumption))
  | ((with_reducible refine r_isiI (d := ?dd) ?hh ?_); (case hh => assumption))
  | ((with_reducible refine r_isiB (d := ?dd) ?hh ?_); (case hh => assumption))
  | ((with_reducible refine r_lenS ?hh ?_); (case hh => assumption))
  | ((with_reducible refine r_lenT (xs := ?dd) ?hh ?_); (case hh => assumption))
  | ((with_reducible refine r_ixT (xs := ?xx) (v := ?vv) ?hh ?he ?_); (case hh => assumption); (case he => rfl))
  | with_reducible refine r_isN ?_
  | with_reducible refine r_I0 ?_
  | with_reducible refine g_addI ?_
  | ((with_reducible refine r_mod ?hh ?_); (case hh => first | decide | omega))
  | ((with_reducible refine r_div ?hh ?hi ?_); (case hh => first | decide | omega); (case hi => first | decide | omega))
  | ((with_reducible refine g_mulB ?hh ?hi ?_); (case hh => omega); (case hi => omega))
  | with_reducible refine g_ltI ?_
  | with_reducible refine g_leI ?_
  | with_reducible refine g_gtI ?_
  | with_reducible refine g_geI ?_
  | with_reducible refine g_eqI ?_
  | with_reducible refine g_neI ?_
  | with_reducible refine g_eqS ?_
  | with_reducible refine g_neS ?_
  | with_reducible refine g_leS ?_
  | with_reducible refine g_ltS ?_)
local macro_rules | `(tactic| walk_at "rd") => `(tactic| repeat (walk_at "rd1"))
local macro_rules | `(tactic| walk_at "ed") => `(tactic| repeat first
  | exact ed_int
  | exact ed_str
  | exact ed_bl
  | exact ed_non
  | exact ed_nil
  | exact ed_dct
  | exact ed_neg
  | with_reducible apply ed_cons
  | with_reducible apply ed_tup
  | with_reducible apply ed_lst
  | exact Nat.le_of_ble_eq_true rfl)
local macro_rules | `(tactic| walk_at "tx1") => `(tactic| first
  | walk_at "rd1"
  | with_reducible refine r_callS ?_
  | with_reducible refine r_zipA ?_
  | with_reducible refine r_par ?_
  | with_reducible refine r_pair ?_
  | with_reducible refine r_pow6 ?_
  | with_reducible refine r_m0 ?_
  | with_reducible refine r_bm ?_
  | with_reducible refine r_isS ?_
  | with_reducible refine r_told ?_
  | with_reducible refine r_js ?_
  | with_reducible refine r_jsNil ?_
  | with_reducible refine r_repl ?_
  | ((with_reducible refine r_gLst (xs := ?xx) ?hh ?he ?_); (case hh => assumption); (case he => rfl))
  | ((with_reducible refine r_lenL (xs := ?xx) ?hh ?_); (case hh => assumption)))
local macro_rules | `(tactic| walk_at "tx") => `(tactic| repeat (walk_at "tx1"))
section
variable {t1 t2 t3 t4 : Tok} {P : Program} {w : World} {K : PySem.W.Frag} {mg : Str → Option Value} {base : Heap}
/-- a def that makes data of a text -/
def spLk (K : PySem.W.Frag) (g : Str → PyData) : Sp := fun vs H Q _ => ∃ x : Str, vs = [.str x] ∧ x.length ≤ 20000 ∧ ∀ v H', Same H H' → Dd K H' v (g x) → Q v H'
abbrev s_likely_keys : Stmt := top 27
abbrev n_likely_keys : List Str := ["text"]
abbrev p_likely_keys : List Str := ["text"]
theorem sc_likely_keys : FnScope n_likely_keys p_likely_keys (defScope s_likely_keys) := ⟨rfl, rfl, rfl, by decide +kernel, rfl, by decide +kernel, by decide +kernel⟩
theorem ok_likely_keys (T : Txt mg t1 t2 t3 t4) {f : Addr} {fd : FuncData} (F : Fun K "_likely_keys" "_likely_keys" s_likely_keys f fd) : FnOk P w K mg base CX0 1 f fd p_likely_keys (spLk K likK) := by
  refine F.ok sc_likely_keys (fun vs H Q E h => by obtain ⟨x, rfl, _⟩ := h; rfl) (fun cdv A outer s H vs Q E hr h => ?_)
  obtain ⟨x, rfl, hx, k⟩ := h
  have hu := hr.units
  refine ⟨_, (pss_cons (ps_if (pt_cmpR (k_eq hu) (pv 0) pe_str (nomark _)) (pss_one (ps_ret pe_non)) pss_nil)
      (pss_one (ps_ret (pe_ifExp (pt_cmpR o_gt (pe_callB k_len (by rfl) T.z_len (by decide +kernel) (pa_cons (pv 0) pa_nil)) pe_int (nomark _)) (pe_callTy k_tupOf (by rfl) T.z_tuple (by decide +kernel) (pa_cons (pe_m1 PySem.F.slot_str_split PySem.F.type_str_split k_split1 (pv 0) pe_str) pa_nil)) (pe_tup pa_nil))))), ?_⟩
  walk_at "tx"
  refine r_dec (fun c1 => ?_) (fun c1 => ?_)
  · walk_at "tx"
    refine k _ H (Same.refl H) ?_
    unfold likK
    rw [if_pos (by rw [show x = S [42] from c1]; decide)]
    exact .non
  · have n1 : ¬ (x == S [42]) = true := fun z => c1 (eq_of_beq z)
    walk_at "tx"
    refine r_lenS (by omega) ?_
    walk_at "tx"
    refine r_dec (fun c2 => ?_) (fun c2 => ?_)
    · have c2 : (0 : Int) < (x.length : Int) := c2
      walk_at "tx"
      refine r_split1 (by decide) (by omega) fun L H1 n1' s1 e1 => ?_
      walk_at "tx"
      refine r_tupOf e1 fun l H2 n2 s2 e2 => ?_
      refine k _ H2 (s1.trans s2) ?_
      unfold likK
      rw [if_neg n1, if_pos c2]
      exact .tup e2 (strs_data _)
    · have c2 : ¬ (0 : Int) < (x.length : Int) := c2
      walk_at "tx"
      refine a_tup (by simp) fun l H1 n1' s1 e1 => ?_
      refine k _ H1 s1 ?_
      unfold likK
      rw [if_neg n1, if_neg c2]
      exact .tup e1 .nil
abbrev s_likely_part : Stmt := top 26
abbrev n_likely_part : List Str := ["kind", "text"]
abbrev p_likely_part : List Str := ["kind", "text"]
theorem sc_likely_part : FnScope n_likely_part p_likely_part (defScope s_likely_part) := ⟨rfl, rfl, rfl, by decide +kernel, rfl, by decide +kernel, by decide +kernel⟩
def spLP (K : PySem.W.Frag) : Sp := fun vs H Q _ => ∃ (kx x : Str), vs = [.str kx, .str x] ∧ x.length ≤ 20000 ∧ ∀ v H', Same H H' → Dd K H' v (likP kx x) → Q v H'
theorem ok_likely_part (T : Txt mg t1 t2 t3 t4) {f : Addr} {fd : FuncData} (F : Fun K "_likely_part" "_likely_part" s_likely_part f fd) (K_likely_value : Cal P w K mg base CX0 1 "likely_value" p_likely_value (spTxt 20000 unq))
    (K_likely_number : Cal P w K mg base CX0 1 "likely_number" p_likely_number (spLikN K)) (K_likely_keys : Cal P w K mg base CX0 1 "_likely_keys" p_likely_keys (spLk K likK)) : FnOk P w K mg base CX0 2 f fd p_likely_part (spLP K) := by
  refine F.ok sc_likely_part (fun vs H Q E h => by obtain ⟨k, x, rfl, _⟩ := h; rfl) (fun cdv A outer s H vs Q E hr h => ?_)
  obtain ⟨kx, x, rfl, hx, k⟩ := h
  have hu := hr.units
  refine ⟨_, (pss_cons (ps_if (pt_cmpR (k_eq hu) (pv 0) pe_str (nomark _)) (pss_one (ps_ret (pe_cal K_likely_value (hr.mono (by decide)) pass0 (pa_cons (pv 1) pa_nil)))) pss_nil)
      (pss_cons (ps_if (pt_cmpR k_in (pv 0) (pe_tup (pa_cons pe_str (pa_cons pe_str pa_nil))) rfl) (pss_one (ps_ret (pe_cal K_likely_number (hr.mono (by decide)) pass0 (pa_cons (pv 1) pa_nil)))) pss_nil)
      (pss_cons (ps_if (pt_cmpR (k_eq hu) (pv 0) pe_str (nomark _)) (pss_one (ps_ret (pe_cal K_likely_keys (hr.mono (by decide)) pass0 (pa_cons (pv 1) pa_nil)))) pss_nil)
      (pss_one (ps_ret (pv 1)))))), ?_⟩
  unfold likP at k
  walk_at "tx"
  refine r_dec (fun c1 => ?_) (fun c1 => ?_)
  · rw [if_pos c1] at k
    walk_at "tx"
    exact r_txt hx fun H1 s1 => k _ H1 s1 (.str _)
  · rw [if_neg c1] at k
    walk_at "tx"
    refine a_tup (by simp) fun l H1 n1' s1 e1 => ?_
    walk_at "tx"
    refine ⟨l, _, rfl, .inr (SqT.of e1), rfl, rfl, ?_⟩
    have ei : inV (.str kx) [.str (Str.ofString "number"), .str (Str.ofString "index")] = decide (kx = Str.ofString "number" ∨ kx = Str.ofString "index") := by
      show (Str.ofString "number" == kx || (Str.ofString "index" == kx || false)) = _
      rw [Bool.or_false, Bool.eq_iff_iff, Bool.or_eq_true, beq_iff_eq, beq_iff_eq, decide_eq_true_eq]
      exact ⟨fun z => z.elim (fun a => .inl a.symm) (fun a => .inr a.symm), fun z => z.elim (fun a => .inl a.symm) (fun a => .inr a.symm)⟩
    have eb : (if (false : Bool) = true then !inV (.str kx) [.str (Str.ofString "number"), .str (Str.ofString "index")] else inV (.str kx) [.str (Str.ofString "number"), .str (Str.ofString "index")]) = decide (kx = Str.ofString "number" ∨ kx = Str.ofString "index") := ei
    rw [eb]
    walk_at "tx"
    refine r_dec (fun c2 => ?_) (fun c2 => ?_)
    · rw [if_pos c2] at k
      walk_at "tx"
      exact ⟨x, rfl, hx, fun v H2 s2 d2 => k v H2 (s1.trans s2) d2⟩
    · rw [if_neg c2] at k
      walk_at "tx"
      refine r_dec (fun c3 => ?_) (fun c3 => ?_)
      · rw [if_pos c3] at k
        walk_at "tx"
        exact ⟨x, rfl, hx, fun v H2 s2 d2 => k v H2 (s1.trans s2) d2⟩
      · rw [if_neg c3] at k
        walk_at "tx"
        exact k _ H1 s1 (.str _)
theorem likPs_get : ∀ {f xs : List Str} {i : Nat} {k x : Str}, f[i]? = some k → xs[i]? = some x → (likPs f xs)[i]? = some (likP k x)
  | k :: f, x :: xs, 0, _, _, h1, h2 => by
    simp at h1 h2
    subst h1 h2
    rfl
  | k :: f, x :: xs, i + 1, _, _, h1, h2 => likPs_get (f := f) (xs := xs) (i := i) (by simpa using h1) (by simpa using h2)
  | [], _, _, _, _, h1, _ => by simp at h1
  | _ :: _, [], _, _, _, _, h2 => by simp at h2
theorem likPs_len : ∀ (f xs : List Str), (likPs f xs).length = min f.length xs.length
  | k :: f, x :: xs => by
    show (likPs f xs).length + 1 = _
    rw [likPs_len f xs, List.length_cons, List.length_cons]
    omega
  | [], xs => by
    show 0 = _
    simp
  | _ :: _, [] => by
    show 0 = _
    simp
theorem lik_flat (k x : Str) : flatD (likP k x) = true := by
  unfold likP
  split
  · rfl
  · split
    · unfold likN
      split <;> rfl
    · split
      · unfold likK
        split
        · rfl
        · split
          · refine lsAll_iff.mpr fun d hd => ?_
            obtain ⟨y, _, rfl⟩ := List.mem_map.mp hd
            rfl
          · rfl
      · rfl
theorem likPs_flat : ∀ (f xs : List Str), lsAll (fun _ => false) (likPs f xs) = true
  | k :: f, x :: xs => by
    show (flatD (likP k x) && lsAll (fun _ => false) (likPs f xs)) = true
    rw [lik_flat, likPs_flat f xs]
    rfl
  | [], _ => rfl
  | _ :: _, [] => rfl
theorem shape_pos {f : List Str} (h : f ∈ shapes) : 1 ≤ f.length := by
  have all : ∀ f ∈ shapes, 1 ≤ f.length := by decide
  exact all f h
abbrev s_likely_event : Stmt := top 25
abbrev n_likely_event : List Str := ["text", "word", "_", "rest", "form", "parts", "kind", "part"]
abbrev p_likely_event : List Str := ["text"]
theorem sc_likely_event : FnScope n_likely_event p_likely_event (defScope s_likely_event) := ⟨rfl, rfl, rfl, by decide +kernel, rfl, by decide +kernel, by decide +kernel⟩
theorem ok_likely_event {DF : Addr} (hDF : mg "FORMS" = some (.ref DF)) (hTab : TabK K w.params DF formsT) (T : Txt mg t1 t2 t3 t4) {f : Addr} {fd : FuncData} (F : Fun K "_likely_event" "_likely_event" s_likely_event f fd)
    (K_likely_part : Cal P w K mg base CX0 2 "_likely_part" p_likely_part (spLP K)) : FnOk P w K mg base CX0 3 f fd p_likely_event (spLk K likV) := by
  refine F.ok sc_likely_event (fun vs H Q E h => by obtain ⟨x, rfl, _⟩ := h; rfl) (fun cdv A outer s H vs Q E hr h => ?_)
  obtain ⟨x, rfl, hx, k⟩ := h
  have hu := hr.units
  refine ⟨_, (pss_cons (ps_asg (pe_m1 PySem.F.slot_str_partition PySem.F.type_str_partition k_part3 (pv 0) pe_str) (k_gtup (n := 3) rfl (pgs_cons (pg_name (i := 1) sc_likely_event.nd rfl (by first | exact Or.inl rfl | exact Or.inr rfl)) (pgs_cons (pg_name (i := 2) sc_likely_event.nd rfl (by first | exact Or.inl rfl | exact Or.inr rfl)) (pgs_cons (pg_name (i := 3) sc_likely_event.nd rfl (by first | exact Or.inl rfl | exact Or.inr rfl)) pgs_nil)))))
      (pss_cons (ps_if (pt_cmpR k_tabNot (pv 1) (pe_glob (v := .ref DF) rfl hDF rfl) rfl) (pss_one (ps_ret pe_non)) pss_nil)
      (pss_cons (ps_set (i := 4) sc_likely_event.nd rfl (by first | exact Or.inl rfl | exact Or.inr rfl) (pe_ix k_tabIx (pe_glob (v := .ref DF) rfl hDF rfl) (pv 1) (fun _ _ => rfl)))
      (pss_cons (ps_set (i := 5) sc_likely_event.nd rfl (by first | exact Or.inl rfl | exact Or.inr rfl) (pe_bm PySem.F.plainAttrs_str PySem.F.slot_str_split PySem.F.type_str_split k_split2 (pv 3) (pa_cons pe_str (pa_cons (pe_op op_sub (pe_callB k_len (by rfl) T.z_len (by decide +kernel) (pa_cons (pv 4) pa_nil)) pe_int) pa_nil))))
      (pss_one (ps_ret (pe_op k_add (pe_tup (pa_cons (pv 1) pa_nil)) (pe_callTy k_tupOf (by rfl) T.z_tuple (by decide +kernel) (pa_cons (pe_lc (own := [("kind", 6), ("part", 7)]) rfl sc_likely_event.nd (k_zipM rfl T.z_zip (pa_cons (pv 4) (pa_cons (pv 5) pa_nil))) (blkOk_by (own := [("kind", 6), ("part", 7)]) (N := n_likely_event) (sc := defScope s_likely_event) (by decide +kernel)) (fun _ _ _ _ _ => (k_gtup (n := 2) rfl (pgs_cons (pg_name (i := 6) sc_likely_event.nd rfl (by first | exact Or.inl rfl | exact Or.inr rfl)) (pgs_cons (pg_name (i := 7) sc_likely_event.nd rfl (by first | exact Or.inl rfl | exact Or.inr rfl)) pgs_nil)))) (fun _ _ _ _ _ => pts_nil) (fun _ _ _ _ _ => (pe_cal K_likely_part (hr.mono (by decide)) pass0 (pa_cons (pv 6) (pa_cons (pv 7) pa_nil))))) pa_nil))))))))), ?_⟩
  walk_at "tx"
  have pl := part3_le x " "
  refine r_part3 (a := x) (b := " ") (by decide) (by omega) fun T2 H1 n1 s1 e1 => ?_
  have due : likV x = (match formsT.lookup (Txt.partition x " ").1 with
    | none => .none
    | some f => .tuple (.str (Txt.partition x " ").1 :: likPs f (Txt.splitMax (Txt.partition x " ").2.2 " " ((f.length : Int) - 1)))) := rfl
  generalize Txt.partition x " " = pt at *
  obtain ⟨p1, p2, p3⟩ := pt
  have e1 : H1 T2 = some (.tup [.str p1, .str p2, .str p3]) := e1
  have due : likV x = (match formsT.lookup p1 with
    | none => .none
    | some f => .tuple (.str p1 :: likPs f (Txt.splitMax p3 " " ((f.length : Int) - 1)))) := due
  have l3 : p3.length ≤ x.length := pl.2
  walk_at "tx"
  refine ⟨DF, formsT, p1, rfl, rfl, hTab, ?_⟩
  walk_at "tx"
  cases hf : formsT.lookup p1 with
  | none =>
    refine iteT ?_
    walk_at "tx"
    refine k _ H1 s1 ?_
    rw [due, hf]
    exact .non
  | some fm =>
    have due : likV x = .tuple (.str p1 :: likPs fm (Txt.splitMax p3 " " ((fm.length : Int) - 1))) := by rw [due, hf]
    have lm := lookup_mem hf
    have lm1 : 1 ≤ fm.length := shape_pos (shape_of hf)
    refine iteF ?_
    walk_at "tx"
    refine ⟨DF, formsT, p1, fm, rfl, rfl, hTab, hf, fun b hb => ?_⟩
    walk_at "tx"
    refine ⟨rfl, ?_⟩
    walk_at "tx"
    refine ⟨_, _, rfl, .inr ⟨_, hb H1, rfl⟩, ?_⟩
    walk_at "tx"
    refine r_split2 (k := ((fm.map V.str).length : Int) - 1) (by decide) (by rw [List.length_map]; omega) (by rw [List.length_map]; omega) (by omega) fun L H2 n2 s2 e2 => ?_
    rw [List.length_map] at e2
    have short := splitMax_le p3 " " ((fm.length : Int) - 1)
    generalize Txt.splitMax p3 " " ((fm.length : Int) - 1) = ys at *
    walk_at "tx"
    refine a_tup (by simp) fun l H3 n3 s3 e3 => ?_
    walk_at "tx"
    have e2' := s3 _ _ e2
    refine r_zipM ?_
    walk_at "tx"
    refine ⟨b, L, fm.map V.str, ys.map V.str, rfl, hb H3, SqL.of e2', ?_⟩
    refine lc_zipMD (likPs fm ys) (by rw [likPs_len, List.length_map, List.length_map]) (by rw [likPs_len]; omega) (likPs_flat fm ys) (fun H' _ => hb H') (fun H' s' => SqL.of (s' _ _ e2')) (fun i y z d hy hz hd2 H4 R s4 q => ?_) (fun D H4 rs hD s4 e4 d4 => ?_)
    · rw [List.getElem?_map] at hy hz
      cases hk : fm[i]? with
      | none => rw [hk] at hy; cases hy
      | some kx =>
        cases hp : ys[i]? with
        | none => rw [hp] at hz; cases hz
        | some xp =>
          rw [hk] at hy
          rw [hp] at hz
          cases hy
          cases hz
          rw [likPs_get hk hp] at hd2
          cases hd2
          walk_at "tx"
          have := short xp (List.mem_of_getElem? hp)
          exact ⟨kx, xp, rfl, by omega, q⟩
    · walk_at "tx"
      refine r_tupOf e4 fun t H5 n5 s5 e5 => ?_
      walk_at "tx"
      refine g_catD (ds := [.str p1]) (es := likPs fm ys) (.tup ((s4.trans s5) _ _ e3) (.cons (.str _) .nil)) (.tup e5 (DdAll.same s5 _ _ d4)) (by rw [likPs_len]; simp; omega) fun v' H6 s6 d6 => ?_
      refine k _ H6 (s1.trans (s2.trans (s3.trans (s4.trans (s5.trans s6))))) ?_
      rw [due]
      exact d6
end
end K07

set_option Elab.async false
set_option linter.all false
set_option maxRecDepth 100000
set_option maxHeartbeats 4000000
namespace K07
open PySem PySem.Spec PyProof.Rows L2 Tk TkM TkP TkR CwR SX
local macro_rules | `(tactic| walk_at "rd1") => `(tactic| first
  | with_reducible refine r_seq ?_
  | ((with_reducible refine r_var (v := ?vv) ?hrv ?_); (case hrv => rfl))
  | with_reducible refine r_c ?_
  | with_reducible refine r_op ?_
  | ((with_reducible refine r_ixL (xs := ?xx) (v := ?vv) ?hh ?he ?_); (case hh => first | assumption | exact upd_same); (case he => rfl))
  | with_reducible refine r_asg ?_
  | with_reducible refine r_sub ?_
  | ((with_reducible refine r_gTup (xs := ?xx) ?hh ?he ?_); (case hh => assumption); (case he => rfl))
  | with_reducible refine r_gCons ?_
  | with_reducible refine r_gNil ?_
  | ((with_reducible refine r_setL (xs := ?xx) (j := ?vv) ?hh ?he ?_); (case hh => first | assumption | exact upd_same); (case he => rfl))
  | with_reducible refine r_pow15 ?_
  | with_reducible refine r_pow18 ?_
  | with_reducible refine r_repr ?_
  | with_reducible refine iteT ?_
  | with_reducible refine iteF ?_
  | with_reducible refine r_cons ?_
  | with_reducible refine r_nil ?_
  | with_reducible refine r_call ?_
  | with_reducible refine r_cb ?_
  | with_reducible refine r_ret ?_
  | with_reducible refine r_gName ?_
  | with_reducible refine r_next ?_
  | with_reducible refine r_ifS ?_
  | with_reducible refine r_un ?_
  | with_reducible refine r_U ?_
  | with_reducible refine r_max2 ?_
  | with_reducible refine r_min2 ?_
  | with_reducible refine r_sl ?_
  | with_reducible refine r_noPart ?_
  | with_reducible refine r_part ?_
  | with_reducible refine r_inti ?_
  | with_reducible refine r_lc ?_
  | with_reducible refine r_for ?_
  | with_reducible refine r_rng1 ?_
  | with_reducible refine r_iList ?_
  | with_reducible refine r_iTup ?_
  | with_reducible refine r_iStr ?_
  | with_reducible refine r_strx ?_
  | ((with_reducible refine r_j ?hh ?hi ?_); (case hh => omega); (case hi => omega))
  | with_reducible refine r_m1 ?_
  | with_reducible refine r_test ?_
  | with_reducible refine r_B ?_
  | with_reducible refine r_not ?_
  | with_reducible refine r_and ?_
  | with_reducible refine r_or ?_
  | with_reducible refine r_andV ?_
  | with_reducible refine r_orV ?_
  | with_reducible refine r_notV ?_
  | with_reducible refine r_if ?_
  | with_reducible refine r_chain ?_
  | with_reducible refine r_lst ?_
  | with_reducible refine r_tup ?_
  | with_reducible refine r_k ?_
  | ((with_reducible refine r_isiS (d := ?dd) ?hh ?_); (case hh => assumption))
  | ((with_reducible refine r_isiT (d := ?dd) ?hh ?_); (case hh => assumption))
  | ((with_reducible refine r_isiI (d := ?dd) ?hh ?_); (case hh => assumption))
  | ((with_reducible refine r_isiB (d := ?dd) ?hh ?_); (case hh => assumption))
  | ((with_reducible refine r_lenS ?hh ?_); (case hh => assumption))
  | ((with_reducible refine r_lenT (xs := ?dd) ?hh ?_); (case hh => assumption))
  | ((with_reducible refine r_ixT (xs := ?xx) (v := ?vv) ?hh ?he ?_); (case hh => assumption); (case he => rfl))
  | with_reducible refine r_isN ?_
  | with_reducible refine r_I0 ?_
  | with_reducible refine g_addI ?_
  | ((with_reducible refine r_mod ?hh ?_); (case hh => first | decide | omega))
  | ((with_reducible refine r_div ?hh ?hi ?_); (case hh => first | decide | omega); (case hi => first | decide | omega))
  | ((with_reducible refine g_mulB ?hh ?hi ?_); (case hh => omega); (case hi => omega))
  | with_reducible refine g_ltI ?_
  | with_reducible refine g_leI ?_
  | with_reducible refine g_gtI ?_
  | with_reducible refine g_geI ?_
  | with_reducible refine g_eqI ?_
  | with_reducible refine g_neI ?_
  | with_reducible refine g_eqS ?_
  | with_reducible refine g_neS ?_
  | with_reducible refine g_leS ?_
  | with_reducible refine g_ltS ?_)
local macro_rules | `(tactic| walk_at "rd") => `(tactic| repeat (walk_at "rd1"))
local macro_rules | `(tactic| walk_at "ed") => `(tactic| repeat first
  | exact ed_int
  | exact ed_str
  | exact ed_bl
  | exact ed_non
  | exact ed_nil
  | exact ed_dct
  | exact ed_neg
  | with_reducible apply ed_cons
  | with_reducible apply ed_tup
  | with_reducible apply ed_lst
  | exact Nat.le_of_ble_eq_true rfl)
local macro_rules | `(tactic| walk_at "tx1") => `(tactic| first
  | walk_at "rd1"
  | with_reducible refine r_callS ?_
  | with_reducible refine r_zipA ?_
  | with_reducible refine r_par ?_
  | with_reducible refine r_pair ?_
  | with_reducible refine r_pow6 ?_
  | with_reducible refine r_m0 ?_
  | with_reducible refine r_bm ?_
  | with_reducible refine r_isS ?_
  | with_reducible refine r_told ?_
  | with_reducible refine r_js ?_
  | with_reducible refine r_jsNil ?_
  | with_reducible refine r_repl ?_
  | ((with_reducible refine r_gLst (xs := ?xx) ?hh ?he ?_); (case hh => assumption); (case he => rfl))
  | ((with_reducible refine r_lenL (xs := ?xx) ?hh ?_); (case hh => assumption)))
local macro_rules | `(tactic| walk_at "tx") => `(tactic| repeat (walk_at "tx1"))
section
variable {t1 t2 t3 t4 : Tok} {P : Program} {w : World} {K : PySem.W.Frag} {mg : Str → Option Value} {base : Heap}
theorem okAll_iff : ∀ {ds : List PyData}, okAll ds ↔ ∀ d ∈ ds, okD d
  | [] => by simp [okAll]
  | d :: ds => by
    rw [okAll, okAll_iff (ds := ds)]
    simp
theorem split_few : ∀ (t : List Nat), (TL.spl [32] 0 [] t).length ≤ t.length + 1 := by
  have go : ∀ (t acc : List Nat), (TL.spl [32] 0 acc t).length ≤ t.length + 1 := by
    intro t
    induction t with
    | nil => intro acc; rw [TL.spl_nil]; simp
    | cons c r ih =>
      intro acc
      cases h : TL.pre [32] (c :: r) with
      | true =>
        rw [TL.spl_hit h]
        have := ih []
        simp only [List.length_cons, List.length_singleton] at *
        show (TL.spl [32] 0 [] r).length + 1 ≤ _
        omega
      | false =>
        rw [TL.spl_miss h]
        have := ih (acc ++ [c])
        simp only [List.length_cons]
        omega
  exact fun t => go t []
theorem splitS_len (x : Str) : (Txt.split x (S [32])).length ≤ x.length + 1 := by
  have e := split_S (a := x.cps.toList) (b := [32]) (by simp) (by decide)
  rw [S_tl] at e
  rw [e, List.length_map]
  have := split_few x.cps.toList
  have hl : x.cps.toList.length = x.length := by rw [Array.length_toList]; rfl
  omega
theorem unq_len {x : Str} {n : Nat} (h : x.length ≤ n) : (unq x).length ≤ 4 * n + 8 := by
  have a := cutS_len x (some 1) (some (-1))
  have l5 : (Txt.replace (cutS x (some 1) (some (-1))) (S [92, 34]) (S [34])).length ≤ n + (n + 1) * 1 := repl_le (Nat.le_trans a h) (by decide)
  have l6 : (unq x).length ≤ (n + (n + 1) * 1) + (n + (n + 1) * 1 + 1) * 1 := repl_le l5 (by decide)
  omega
theorem okD_likP {k x : Str} (hx : x.length ≤ 20000) : okD (likP k x) := by
  unfold likP
  split
  · have := unq_len hx
    show (unq x).length ≤ 100000
    omega
  · split
    · unfold likN
      split <;> trivial
    · split
      · unfold likK
        split
        · trivial
        · split
          · have := splitS_len x
            refine ⟨by rw [List.length_map]; omega, okAll_iff.mpr fun d hd => ?_⟩
            obtain ⟨y, hy, rfl⟩ := List.mem_map.mp hd
            have := split_le x (S [32]) y hy
            show y.length ≤ 100000
            omega
          · exact ⟨by simp, trivial⟩
      · show x.length ≤ 100000
        omega
theorem likPs_mem : ∀ {f xs : List Str} {d : PyData}, d ∈ likPs f xs → ∃ k x, x ∈ xs ∧ d = likP k x
  | k :: f, x :: xs, d, h => by
    rcases List.mem_cons.mp (show d ∈ likP k x :: likPs f xs from h) with rfl | h
    · exact ⟨k, x, List.mem_cons_self, rfl⟩
    · obtain ⟨k', x', h1, h2⟩ := likPs_mem h
      exact ⟨k', x', List.mem_cons_of_mem _ h1, h2⟩
  | [], _, _, h => by cases h
  | _ :: _, [], _, h => by cases h
theorem okD_likV {x : Str} (hx : x.length ≤ 20000) : okD (likV x) := by
  have pl := part3_le x (S [32])
  unfold likV
  split
  · trivial
  · rename_i fm hf
    have lm := lookup_mem hf
    refine ⟨by rw [List.length_cons, likPs_len]; omega, show (Txt.partition x (S [32])).1.length ≤ 100000 by omega, okAll_iff.mpr fun d hd => ?_⟩
    obtain ⟨k, y, hy, rfl⟩ := likPs_mem hd
    have := splitMax_le (Txt.partition x (S [32])).2.2 (S [32]) ((fm.length : Int) - 1) y hy
    exact okD_likP (by omega)
/-- a short text has few parts -/
theorem few_likV {x : Str} (hx : x.length ≤ 59) : fewI (likV x) := by
  have pl := part3_le x (S [32])
  unfold likV
  split
  · trivial
  · rename_i fm hf
    intro d hd
    rcases List.mem_cons.mp hd with rfl | hd
    · trivial
    · obtain ⟨k, y, hy, rfl⟩ := likPs_mem hd
      have l := splitMax_le (Txt.partition x (S [32])).2.2 (S [32]) ((fm.length : Int) - 1) y hy
      unfold likP
      split
      · trivial
      · split
        · unfold likN
          split <;> trivial
        · split
          · unfold likK
            split
            · trivial
            · split
              · have := splitS_len y
                show ((Txt.split y (S [32])).map PyData.str).length ≤ 60
                rw [List.length_map]
                omega
              · show ([] : List PyData).length ≤ 60
                simp
          · trivial
/-- the event that is written so -/
def evOf : PyData → Option PyData
  | .str x => if eventD (likV x) = true ∧ evT (likV x) = TL.tl x then some (likV x) else none
  | _ => none
def spParseE (K : PySem.W.Frag) (C : Addr) : Sp := fun vs H Q E => ∃ (v : V) (d : PyData), vs = [v] ∧ Dd K H v d ∧ (∀ x, d = .str x → x.length ≤ 20000 ∧ fewI (likV x)) ∧ (∀ e, evOf d = some e → ∀ v' H', Same H H' → Dd K H' v' e → Q v' H') ∧ (evOf d = none → raisedF C v H E)
def askE (d : PyData) : Prop := ∀ x, d = .str x → x.length ≤ 20000 ∧ fewI (likV x)
def inE (d : PyData) : PyData := match evOf d with | some e => e | none => .none
def spEvIn (K : PySem.W.Frag) : Sp := fun vs H Q _ => ∃ (v : V) (d : PyData), vs = [v] ∧ Dd K H v d ∧ askE d ∧ ∀ v' H', Same H H' → Dd K H' v' (inE d) → Q v' H'
theorem inE_none {d : PyData} (h : evOf d = none) : inE d = .none := by rw [inE, h]
theorem inE_some {d e : PyData} (h : evOf d = some e) : inE d = e := by rw [inE, h]
theorem evOf_ne {d e : PyData} (h : evOf d = some e) : e ≠ .none := by
  intro z
  subst z
  cases d with
  | str x =>
    change (if _ then _ else _) = _ at h
    split at h
    · rename_i c
      have c1 := c.1
      rw [Option.some.inj h] at c1
      cases c1
    · cases h
  | _ => cases h
abbrev s_event_in : Stmt := top 20
abbrev n_event_in : List Str := ["text", "event"]
abbrev p_event_in : List Str := ["text"]
theorem sc_event_in : FnScope n_event_in p_event_in (defScope s_event_in) := ⟨rfl, rfl, rfl, by decide +kernel, rfl, by decide +kernel, by decide +kernel⟩
theorem ok_event_in {CB : Addr} (T : Txt mg t1 t2 t3 t4) {f : Addr} {fd : FuncData} (F : Fun K "event_in" "event_in" s_event_in f fd) (K_is_event : Cal P w K mg base CX0 4 "is_event" p_is_event (spEvt K))
    (K_likely_event : Cal P w K mg base CX0 3 "_likely_event" p_likely_event (spLk K likV)) (K_format_event : Cal P w K mg base (L2.CX P w) 5 "format_event" p_format_event (spFmtE K CB)) : FnOk P w K mg base (L2.CX P w) 6 f fd p_event_in (spEvIn K) := by
  refine F.okX sc_event_in (fun vs H Q E h => by obtain ⟨v, d, rfl, _⟩ := h; rfl) (fun cdv A outer s H vs Q E hr h => ?_)
  obtain ⟨v, d, rfl, hd, hx, k⟩ := h
  have hu := hr.units
  refine ⟨_, (pss_cons (ps_set (i := 1) sc_event_in.nd rfl (by first | exact Or.inl rfl | exact Or.inr rfl) (pe_ifExp (pt_val (pe_callB k_isi (by rfl) T.z_isinstance (by decide +kernel) (pa_cons (pv 0) (pa_cons (pe_bltn (v := .ty "str") rfl T.z_str (by decide +kernel) rfl) pa_nil)))) (pe_cal K_likely_event (hr.mono (by decide)) pass0 (pa_cons (pv 0) pa_nil)) pe_non))
      (pss_cons (ps_if (PW.pt (pw_or (pt_not (pt_val (pe_cal K_is_event (hr.mono (by decide)) pass0 (pa_cons (pv 1) pa_nil)))) (pw_or1 (pt_cmpR (k_ne hu) (pe_cal K_format_event (hr.mono (by decide)) (passOut (takes_of rfl rfl rfl rfl)) (pa_cons (pv 1) pa_nil)) (pv 0) (nomark _))))) (pss_one (ps_ret pe_non)) pss_nil)
      (pss_one (ps_ret (pv 1))))), ?_⟩
  walk_at "tx"
  rcases str_or d with ⟨x, rfl⟩ | hn
  · rw [isStr]
    refine iteT ?_
    obtain ⟨hx, hf⟩ := hx x rfl
    cases hd
    walk_at "tx"
    refine ⟨x, rfl, hx, fun v1 H1 s1 d1 => ?_⟩
    walk_at "tx"
    refine ⟨v1, likV x, rfl, d1, okD_likV hx, hf, fun H2 s2 => ?_⟩
    walk_at "tx"
    refine r_boolN (fun c => ?_) (fun c => ?_)
    · refine iteT ?_
      walk_at "tx"
      refine k _ _ (s1.trans s2) ?_
      rw [inE_none (show (if _ then _ else _) = _ from by rw [if_neg (by rw [c]; rintro ⟨z, _⟩; cases z)])]
      exact .non
    · walk_at "tx"
      refine ⟨v1, likV x, rfl, Dd.same s2 _ _ d1, okD_likV hx, hf, fun _ H3 s3 => ?_, fun z => by rw [z] at c; cases c⟩
      walk_at "tx"
      refine r_decN (fun c2 => ?_) (fun c2 => ?_)
      · walk_at "tx"
        refine k _ _ (s1.trans (s2.trans s3)) ?_
        rw [inE_none (show (if _ then _ else _) = _ from by rw [if_neg]; rintro ⟨_, z⟩; exact c2 (by rw [z]))]
        exact .non
      · walk_at "tx"
        refine k v1 H3 (s1.trans (s2.trans s3)) ?_
        rw [inE_some (show (if _ then _ else _) = _ from if_pos ⟨c, congrArg TL.tl c2⟩)]
        exact Dd.same (s2.trans s3) _ _ d1
  · rw [isNotStr hn]
    refine iteF ?_
    walk_at "tx"
    refine ⟨.non, .none, rfl, .non, trivial, trivial, fun H2 s2 => ?_⟩
    walk_at "tx"
    refine iteT (iteT ?_)
    walk_at "tx"
    refine k _ _ s2 ?_
    rw [inE_none (by cases d <;> first | rfl | exact absurd rfl (hn _))]
    exact .non
abbrev s_parse_event : Stmt := top 19
abbrev n_parse_event : List Str := ["text", "event"]
abbrev p_parse_event : List Str := ["text"]
theorem sc_parse_event : FnScope n_parse_event p_parse_event (defScope s_parse_event) := ⟨rfl, rfl, rfl, by decide +kernel, rfl, by decide +kernel, by decide +kernel⟩
theorem ok_parse_event {CT : Addr} (R_BadText : ExcR P w K mg base "BadText" CT) (T : Txt mg t1 t2 t3 t4) {f : Addr} {fd : FuncData} (F : Fun K "parse_event" "parse_event" s_parse_event f fd) (K_event_in : Cal P w K mg base (L2.CX P w) 6 "event_in" p_event_in (spEvIn K)) : FnOk P w K mg base (L2.CX P w) 7 f fd p_parse_event (spParseE K CT) := by
  refine F.okX sc_parse_event (fun vs H Q E h => by obtain ⟨v, d, rfl, _⟩ := h; rfl) (fun cdv A outer s H vs Q E hr h => ?_)
  obtain ⟨v, d, rfl, hd, hx, k, kx⟩ := h
  have hu := hr.units
  refine ⟨_, (pss_cons (ps_set (i := 1) sc_parse_event.nd rfl (by first | exact Or.inl rfl | exact Or.inr rfl) (pe_cal K_event_in (hr.mono (by decide)) (passOut (takes_of rfl rfl rfl rfl)) (pa_cons (pv 0) pa_nil)))
      (pss_cons (ps_if (pt_cmpR o_isN (pv 1) pe_non (nomark _)) (pss_one (ps_raiseV R_BadText (takes_of rfl rfl rfl rfl) (hr.mono (by decide)) (pv 0))) pss_nil)
      (pss_one (ps_ret (pv 1))))), ?_⟩
  walk_at "tx"
  refine ⟨v, d, rfl, hd, hx, fun v1 H1 s1 d1 => ?_⟩
  walk_at "tx"
  cases he : evOf d with
  | none =>
    rw [inE_none he] at d1
    cases d1
    refine iteT (r_raise ?_)
    walk_at "tx"
    exact mk_raisedF (kx he) s1
  | some e =>
    rw [inE_some he] at d1
    have hne : v1 ≠ .non := by
      rintro rfl
      cases d1
      exact evOf_ne he rfl
    rw [decide_eq_false hne]
    refine iteF ?_
    walk_at "tx"
    exact k e he v1 H1 s1 d1
end
end K07

set_option Elab.async false
set_option linter.all false
set_option maxRecDepth 100000
set_option maxHeartbeats 4000000
namespace K07
open PySem PySem.Spec PyProof.Rows L2 Tk TkM TkP TkR CwR SX
local macro_rules | `(tactic| walk_at "rd1") => `(tactic| first
  | with_reducible refine r_seq ?_
  | ((with_reducible refine r_var (v := ?vv) ?hrv ?_); (case hrv => rfl))
  | with_reducible refine r_c ?_
  | with_reducible refine r_op ?_
  | ((with_reducible refine r_ixL (xs := ?xx) (v := ?vv) ?hh ?he ?_); (case hh => first | assumption | exact upd_same); (case he => rfl))
  | with_reducible refine r_asg ?_
  | with_reducible refine r_sub ?_
  | ((with_reducible refine r_gTup (xs := ?xx) ?hh ?he ?_); (case hh => assumption); (case he => rfl))
  | with_reducible refine r_gCons ?_
  | with_reducible refine r_gNil ?_
  | ((with_reducible refine r_setL (xs := ?xx) (j := ?vv) ?hh ?he ?_); (case hh => first | assumption | exact upd_same); (case he => rfl))
  | with_reducible refine r_pow15 ?_
  | with_reducible refine r_pow18 ?_
  | with_reducible refine r_repr ?_
  | with_reducible refine iteT ?_
  | with_reducible refine iteF ?_
  | with_reducible refine r_cons ?_
  | with_reducible refine r_nil ?_
  | with_reducible refine r_call ?_
  | with_reducible refine r_cb ?_
  | with_reducible refine r_ret ?_
  | with_reducible refine r_gName ?_
  | with_reducible refine r_next ?_
  | with_reducible refine r_ifS ?_
  | with_reducible refine r_un ?_
  | with_reducible refine r_U ?_
  | with_reducible refine r_max2 ?_
  | with_reducible refine r_min2 ?_
  | with_reducible refine r_sl ?_
  | with_reducible refine r_noPart ?_
  | with_reducible refine r_part ?_
  | with_reducible refine r_inti ?_
  | with_reducible refine r_lc ?_
  | with_reducible refine r_for ?_
  | with_reducible refine r_rng1 ?_
  | with_reducible refine r_iList ?_
  | with_reducible refine r_iTup ?_
  | with_reducible refine r_iStr ?_
  | with_reducible refine r_strx ?_
  | ((with_reducible refine r_j ?hh ?hi ?_); (case hh => omega); (case hi => omega))
  | with_reducible refine r_m1 ?_
  | with_reducible refine r_test ?_
  | with_reducible refine r_B ?_
  | with_reducible refine r_not ?_
  | with_reducible refine r_and ?_
  | with_reducible refine r_or ?_
  | with_reducible refine r_andV ?_
  | with_reducible refine r_orV ?_
  | with_reducible refine r_notV ?_
  | with_reducible refine r_if ?_
  | with_reducible refine r_chain ?_
  | with_reducible refine r_lst ?_
  | with_reducible refine r_tup ?_
  | with_reducible refine r_k ?_
  | ((with_reducible refine r_isiS (d := ?dd) ?hh ?_); (case hh => assumption))
  | ((with_reducible refine r_isiT (d := ?dd) ?hh ?_); (case hh => assumption))
  | ((with_reducible refine r_isiI (d := ?dd) ?hh ?_); (case hh => assumption))
  | ((with_reducible refine r_isiB (d := ?dd) ?hh ?_); (case hh => assumption))
  | ((with_reducible refine r_lenS ?hh ?_); (case hh => assumption))
  | ((with_reducible refine r_lenT (xs := ?dd) ?hh ?_); (case hh => assumption))
  | ((with_reducible refine r_ixT (xs := ?xx) (v := ?vv) ?hh ?he ?_); (case hh => assumption); (case he => rfl))
  | with_reducible refine r_isN ?_
  | with_reducible refine r_I0 ?_
  | with_reducible refine g_addI ?_
  | ((with_reducible refine r_mod ?hh ?_); (case hh => first | decide | omega))
  | ((with_reducible refine r_div ?hh ?hi ?_); (case hh => first | decide | omega); (case hi => first | decide | omega))
  | ((with_reducible refine g_mulB ?hh ?hi ?_); (case hh => omega); (case hi => omega))
  | with_reducible refine g_ltI ?_
  | with_reducible refine g_leI ?_
  | with_reducible refine g_gtI ?_
  | with_reducible refine g_geI ?_
  | with_reducible refine g_eqI ?_
  | with_reducible refine g_neI ?_
  | with_reducible refine g_eqS ?_
  | with_reducible refine g_neS ?_
  | with_reducible refine g_leS ?_
  | with_reducible refine g_ltS ?_)
local macro_rules | `(tactic| walk_at "rd") => `(tactic| repeat (walk_at "rd1"))
local macro_rules | `(tactic| walk_at "ed") => `(tactic| repeat first
  | exact ed_int
  | exact ed_str
  | exact ed_bl
  | exact ed_non
  | exact ed_nil
  | exact ed_dct
  | exact ed_neg
  | with_reducible apply ed_cons
  | with_reducible apply ed_tup
  | with_reducible apply ed_lst
  | exact Nat.le_of_ble_eq_true rfl)
local macro_rules | `(tactic| walk_at "tx1") => `(tactic| first
  | walk_at "rd1"
  | with_reducible refine r_callS ?_
  | with_reducible refine r_zipA ?_
  | with_reducible refine r_par ?_
  | with_reducible refine r_pair ?_
  | with_reducible refine r_pow6 ?_
  | with_reducible refine r_m0 ?_
  | with_reducible refine r_bm ?_
  | with_reducible refine r_isS ?_
  | with_reducible refine r_told ?_
  | with_reducible refine r_js ?_
  | with_reducible refine r_jsNil ?_
  | with_reducible refine r_repl ?_
  | ((with_reducible refine r_gLst (xs := ?xx) ?hh ?he ?_); (case hh => assumption); (case he => rfl))
  | ((with_reducible refine r_lenL (xs := ?xx) ?hh ?_); (case hh => assumption)))
local macro_rules | `(tactic| walk_at "tx") => `(tactic| repeat (walk_at "tx1"))
section
variable {t1 t2 t3 t4 : Tok} {P : Program} {w : World} {K : PySem.W.Frag} {mg : Str → Option Value} {base : Heap}
/-- what the law's draws need of an event -/
structure EvL (d : PyData) : Prop where
  ev : eventD d = true
  flat : flatD d = true
  few : fewI d
  ok : okD d
  len : (evT d).length ≤ 42
  part : ∀ p ∈ TL.spl [32] 0 [] (evT d), p.length ≤ 16
  top : ∃ ds, d = .tuple ds
def fewB : PyData → Bool
  | .tuple es => decide (es.length ≤ 60)
  | _ => true
def okB : PyData → Bool
  | .str x => decide (x.length ≤ 100)
  | .tuple es => decide (es.length ≤ 60) && es.all fun e => match e with | .str y => decide (y.length ≤ 100) | .none => true | .int _ => true | _ => false
  | .int _ => true
  | .none => true
  | _ => false
def evlB : PyData → Bool
  | .tuple ds => eventD (.tuple ds) && flatD (.tuple ds) && ds.all fewB && decide (ds.length ≤ 4) && ds.all okB && decide ((evT (.tuple ds)).length ≤ 42) && (TL.spl [32] 0 [] (evT (.tuple ds))).all fun p => decide (p.length ≤ 16)
  | _ => false
theorem okB_of {d : PyData} (h : okB d = true) : okD d := by
  cases d with
  | str x =>
    have h : decide (x.length ≤ 100) = true := h
    rw [decide_eq_true_eq] at h
    show x.length ≤ 100000
    omega
  | tuple es =>
    have h : (decide (es.length ≤ 60) && es.all _) = true := h
    rw [Bool.and_eq_true, decide_eq_true_eq] at h
    refine ⟨by omega, okAll_iff.mpr fun e he => ?_⟩
    have := List.all_eq_true.mp h.2 e he
    cases e with
    | str y =>
      have z : decide (y.length ≤ 100) = true := this
      rw [decide_eq_true_eq] at z
      show y.length ≤ 100000
      omega
    | none => trivial
    | int _ => trivial
    | _ => cases this
  | int _ => trivial
  | none => trivial
  | _ => cases h
theorem evl_of {d : PyData} (h : evlB d = true) : EvL d := by
  cases d with
  | tuple ds =>
    have h : (eventD (.tuple ds) && flatD (.tuple ds) && ds.all fewB && decide (ds.length ≤ 4) && ds.all okB && decide ((evT (.tuple ds)).length ≤ 42) && (TL.spl [32] 0 [] (evT (.tuple ds))).all fun p => decide (p.length ≤ 16)) = true := h
    rw [Bool.and_eq_true, Bool.and_eq_true, Bool.and_eq_true, Bool.and_eq_true, Bool.and_eq_true, Bool.and_eq_true, decide_eq_true_eq, decide_eq_true_eq] at h
    obtain ⟨⟨⟨⟨⟨⟨h1, h2⟩, h3⟩, h4⟩, h5⟩, h6⟩, h7⟩ := h
    refine ⟨h1, h2, fun e he => ?_, ⟨by omega, okAll_iff.mpr fun e he => okB_of (List.all_eq_true.mp h5 e he)⟩, h6, fun p hp => of_decide_eq_true (List.all_eq_true.mp h7 p hp), ⟨_, rfl⟩⟩
    have := List.all_eq_true.mp h3 e he
    cases e with
    | tuple es =>
      have z : decide (es.length ≤ 60) = true := this
      rw [decide_eq_true_eq] at z
      exact z
    | _ => trivial
  | _ => cases h
/-- drawn out of a list of data that need no heap -/
def PickV (ds : List PyData) (v : V) : Prop := ∃ d ∈ ds, ∀ K H, Dd K H v d
def wordsD : List PyData := ([.str (Str.ofString "ann"), .str (Str.ofString "bob"), .str (Str.ofString "k"), .str (Str.ofString "abcdefgh")] : List PyData)
def numsD : List PyData := ([.int (1), .int (7), .int (1000000000000000)] : List PyData)
def keysL : List PyData := ([.none, .tuple [], .tuple [.str (Str.ofString "k")], .tuple [.str (Str.ofString "a"), .str (Str.ofString "k"), .str (Str.ofString "zz")]] : List PyData)
def textsD : List PyData := ([.str (Str.ofString "x"), .str (Str.ofString ""), .str (Str.ofString "a \"b\""), .str (Str.ofString "two  words"), .str (Str.ofString "back\\"), .str (Str.ofString "*"), .str (Str.ofString " ")] : List PyData)
def plainV : PyData → V
  | .str x => .str x
  | .int i => .int i
  | _ => .non
theorem pick_of {ds : List PyData} {xs : List V} {v : V} (e : xs = ds.map plainV) (a : ∀ d ∈ ds, (∃ x, d = .str x) ∨ (∃ i, d = .int i)) (m : v ∈ xs) : PickV ds v := by
  rw [e] at m
  obtain ⟨d, hd, rfl⟩ := List.mem_map.mp m
  refine ⟨d, hd, ?_⟩
  rcases a d hd with ⟨x, rfl⟩ | ⟨i, rfl⟩
  · exact fun _ _ => .str x
  · exact fun _ _ => .int i
theorem pick_word {v : V} (m : v ∈ [V.str "ann", V.str "bob", V.str "k", V.str "abcdefgh"]) : PickV wordsD v := pick_of rfl (by simp [wordsD]) m
theorem pick_num {v : V} (m : v ∈ [V.int 1, V.int 7, V.int 1000000000000000]) : PickV numsD v := pick_of rfl (by simp [numsD]) m
def nineW : List Str := ["delete", "keep", "restore", "discard", "forget", "mute", "shut", "open", "drop"]
def fourW : List Str := ["save", "crash", "leave", "come"]
theorem ev_write : ∀ a ∈ wordsD, ∀ b ∈ wordsD, ∀ v ∈ textsD, evlB (.tuple [.str "write", a, b, v]) = true := by decide +kernel
theorem ev_pass : ∀ a ∈ wordsD, ∀ n ∈ numsD, evlB (.tuple [.str "pass", a, n]) = true := by decide +kernel
theorem ev_send : ∀ a ∈ wordsD, ∀ b ∈ wordsD, ∀ k ∈ keysL, evlB (.tuple [.str "send", a, b, k]) = true := by decide +kernel
theorem ev_take : ∀ a ∈ wordsD, ∀ b ∈ wordsD, ∀ n ∈ ([.int (0), .int (6), .int (999999999999999)] : List PyData), evlB (.tuple [.str "take", a, b, n]) = true := by decide +kernel
theorem ev_four : ∀ x ∈ fourW, ∀ a ∈ wordsD, evlB (.tuple [.str x, a]) = true := by decide +kernel
theorem ev_nine : ∀ x ∈ nineW, ∀ a ∈ wordsD, ∀ b ∈ wordsD, evlB (.tuple [.str x, a, b]) = true := by decide +kernel
end
end K07

set_option Elab.async false
set_option linter.all false
set_option maxRecDepth 100000
set_option maxHeartbeats 4000000
namespace K07
open PySem PySem.Spec PyProof.Rows L2 Tk TkM TkP TkR CwR SX
local macro_rules | `(tactic| walk_at "rd1") => `(tactic| first
  | with_reducible refine r_seq ?_
  | ((with_reducible refine r_var (v := ?vv) ?hrv ?_); (case hrv => rfl))
  | with_reducible refine r_c ?_
  | with_reducible refine r_op ?_
  | ((with_reducible refine r_ixL (xs := ?xx) (v := ?vv) ?hh ?he ?_); (case hh => first | assumption | exact upd_same); (case he => rfl))
  | with_reducible refine r_asg ?_
  | with_reducible refine r_sub ?_
  | ((with_reducible refine r_gTup (xs := ?xx) ?hh ?he ?_); (case hh => assumption); (case he => rfl))
  | with_reducible refine r_gCons ?_
  | with_reducible refine r_gNil ?_
  | ((with_reducible refine r_setL (xs := ?xx) (j := ?vv) ?hh ?he ?_); (case hh => first | assumption | exact upd_same); (case he => rfl))
  | with_reducible refine r_pow15 ?_
  | with_reducible refine r_pow18 ?_
  | with_reducible refine r_repr ?_
  | with_reducible refine iteT ?_
  | with_reducible refine iteF ?_
  | with_reducible refine r_cons ?_
  | with_reducible refine r_nil ?_
  | with_reducible refine r_call ?_
  | with_reducible refine r_cb ?_
  | with_reducible refine r_ret ?_
  | with_reducible refine r_gName ?_
  | with_reducible refine r_next ?_
  | with_reducible refine r_ifS ?_
  | with_reducible refine r_un ?_
  | with_reducible refine r_U ?_
  | with_reducible refine r_max2 ?_
  | with_reducible refine r_min2 ?_
  | with_reducible refine r_sl ?_
  | with_reducible refine r_noPart ?_
  | with_reducible refine r_part ?_
  | with_reducible refine r_inti ?_
  | with_reducible refine r_lc ?_
  | with_reducible refine r_for ?_
  | with_reducible refine r_rng1 ?_
  | with_reducible refine r_iList ?_
  | with_reducible refine r_iTup ?_
  | with_reducible refine r_iStr ?_
  | with_reducible refine r_strx ?_
  | ((with_reducible refine r_j ?hh ?hi ?_); (case hh => omega); (case hi => omega))
  | with_reducible refine r_m1 ?_
  | with_reducible refine r_test ?_
  | with_reducible refine r_B ?_
  | with_reducible refine r_not ?_
  | with_reducible refine r_and ?_
  | with_reducible refine r_or ?_
  | with_reducible refine r_andV ?_
  | with_reducible refine r_orV ?_
  | with_reducible refine r_notV ?_
  | with_reducible refine r_if ?_
  | with_reducible refine r_chain ?_
  | with_reducible refine r_lst ?_
  | with_reducible refine r_tup ?_
  | with_reducible refine r_k ?_
  | ((with_reducible refine r_isiS (d := ?dd) ?hh ?_); (case hh => assumption))
  | ((with_reducible refine r_isiT (d := ?dd) ?hh ?_); (case hh => assumption))
  | ((with_reducible refine r_isiI (d := ?dd) ?hh ?_); (case hh => assumption))
  | ((with_reducible refine r_isiB (d := ?dd) ?hh ?_); (case hh => assumption))
  | ((with_reducible refine r_lenS ?hh ?_); (case hh => assumption))
  | ((with_reducible refine r_lenT (xs := ?dd) ?hh ?_); (case hh => assumption))
  | ((with_reducible refine r_ixT (xs := ?xx) (v := ?vv) ?hh ?he ?_); (case hh => assumption); (case he => rfl))
  | with_reducible refine r_isN ?_
  | with_reducible refine r_I0 ?_
  | with_reducible refine g_addI ?_
  | ((with_reducible refine r_mod ?hh ?_); (case hh => first | decide | omega))
  | ((with_reducible refine r_div ?hh ?hi ?_); (case hh => first | decide | omega); (case hi => first | decide | omega))
  | ((with_reducible refine g_mulB ?hh ?hi ?_); (case hh => omega); (case hi => omega))
  | with_reducible refine g_ltI ?_
  | with_reducible refine g_leI ?_
  | with_reducible refine g_gtI ?_
  | with_reducible refine g_geI ?_
  | with_reducible refine g_eqI ?_
  | with_reducible refine g_neI ?_
  | with_reducible refine g_eqS ?_
  | with_reducible refine g_neS ?_
  | with_reducible refine g_leS ?_
  | with_reducible refine g_ltS ?_)
local macro_rules | `(tactic| walk_at "rd") => `(tactic| repeat (walk_at "rd1"))
local macro_rules | `(tactic| walk_at "ed") => `(tactic| repeat first
  | exact ed_int
  | exact ed_str
  | exact ed_bl
  | exact ed_non
  | exact ed_nil
  | exact ed_dct
  | exact ed_neg
  | with_reducible apply ed_cons
  | with_reducible apply ed_tup
  | with_reducible apply ed_lst
  | exact Nat.le_of_ble_eq_true rfl)
local macro_rules | `(tactic| walk_at "tx1") => `(tactic| first
  | walk_at "rd1"
  | with_reducible refine r_callS ?_
  | with_reducible refine r_zipA ?_
  | with_reducible refine r_par ?_
  | with_reducible refine r_pair ?_
  | with_reducible refine r_pow6 ?_
  | with_reducible refine r_m0 ?_
  | with_reducible refine r_bm ?_
  | with_reducible refine r_isS ?_
  | with_reducible refine r_told ?_
  | with_reducible refine r_js ?_
  | with_reducible refine r_jsNil ?_
  | with_reducible refine r_repl ?_
  | ((with_reducible refine r_gLst (xs := ?xx) ?hh ?he ?_); (case hh => assumption); (case he => rfl))
  | ((with_reducible refine r_lenL (xs := ?xx) ?hh ?_); (case hh => assumption)))
local macro_rules | `(tactic| walk_at "tx") => `(tactic| repeat (walk_at "tx1"))
section
variable {t1 t2 t3 t4 : Tok} {P : Program} {w : World} {K : PySem.W.Frag} {mg : Str → Option Value} {base : Heap}
def spEvn (K : PySem.W.Frag) : Sp := fun vs H Q _ => ∃ (p : Addr), vs = [.ref p] ∧ PoolAt H p ∧ ∀ v H' d, Drawn p H H' → Dd K H' v d → EvL d → Q v H'
abbrev s_L_drawn : Stmt := top 31
abbrev n_L_drawn : List Str := ["_law_pool_here", "_law_words", "_law_p", "_law_q", "_law_name", "_law_turn", "_law_number_here", "_law_keys", "_law_texts", "_law_some", "_law_word"]
abbrev p_L_drawn : List Str := ["_law_pool_here"]
theorem sc_L_drawn : FnScope n_L_drawn p_L_drawn (defScope s_L_drawn) := ⟨rfl, rfl, rfl, by decide +kernel, rfl, by decide +kernel, by decide +kernel⟩
theorem ok_L_drawn (T : Txt mg t1 t2 t3 t4) {f : Addr} {fd : FuncData} (F : Fun K "_law_drawn" "_law_drawn" s_L_drawn f fd) (K_L_take : Cal P w K mg base CX0 1 "_law_take" p_L_take spTake) : FnOk P w K mg base CX0 2 f fd p_L_drawn (spEvn K) := by
  refine F.ok sc_L_drawn (fun vs H Q E h => by obtain ⟨p, rfl, _⟩ := h; rfl) (fun cdv A outer s H vs Q E hr h => ?_)
  obtain ⟨p, rfl, hp, k⟩ := h
  have hu := hr.units
  refine ⟨_, (pss_cons (ps_set (i := 1) sc_L_drawn.nd rfl (by first | exact Or.inl rfl | exact Or.inr rfl) (pe_lst (pa_cons pe_str (pa_cons pe_str (pa_cons pe_str (pa_cons pe_str pa_nil))))))
      (pss_cons (ps_asg (pe_lc (own := [("_law_turn", 5)]) rfl sc_L_drawn.nd (pi_range1 rfl T.z_range (pa_cons pe_int pa_nil)) (blkOk_by (own := [("_law_turn", 5)]) (N := n_L_drawn) (sc := defScope s_L_drawn) (by decide +kernel)) (fun _ _ _ _ _ => (pg_name (i := 5) sc_L_drawn.nd rfl (by first | exact Or.inl rfl | exact Or.inr rfl))) (fun _ _ _ _ _ => pts_nil) (fun _ _ _ _ _ => (pe_ix k_ix (pv 1) (pe_cal K_L_take (hr.mono (by decide)) pass0 (pa_cons (pv 0) (pa_cons pe_int pa_nil))) (fun _ _ => rfl)))) (k_glst (n := 3) rfl (pgs_cons (pg_name (i := 2) sc_L_drawn.nd rfl (by first | exact Or.inl rfl | exact Or.inr rfl)) (pgs_cons (pg_name (i := 3) sc_L_drawn.nd rfl (by first | exact Or.inl rfl | exact Or.inr rfl)) (pgs_cons (pg_name (i := 4) sc_L_drawn.nd rfl (by first | exact Or.inl rfl | exact Or.inr rfl)) pgs_nil)))))
      (pss_cons (ps_set (i := 6) sc_L_drawn.nd rfl (by first | exact Or.inl rfl | exact Or.inr rfl) (pe_ix k_ix (pe_lst (pa_cons pe_int (pa_cons pe_int (pa_cons (pe_op op_pow pe_int pe_int) pa_nil)))) (pe_cal K_L_take (hr.mono (by decide)) pass0 (pa_cons (pv 0) (pa_cons pe_int pa_nil))) (fun _ _ => rfl)))
      (pss_cons (ps_set (i := 7) sc_L_drawn.nd rfl (by first | exact Or.inl rfl | exact Or.inr rfl) (pe_ix k_ix (pe_lst (pa_cons pe_non (pa_cons (pe_tup pa_nil) (pa_cons (pe_tup (pa_cons pe_str pa_nil)) (pa_cons (pe_tup (pa_cons pe_str (pa_cons pe_str (pa_cons pe_str pa_nil)))) pa_nil))))) (pe_cal K_L_take (hr.mono (by decide)) pass0 (pa_cons (pv 0) (pa_cons pe_int pa_nil))) (fun _ _ => rfl)))
      (pss_cons (ps_set (i := 8) sc_L_drawn.nd rfl (by first | exact Or.inl rfl | exact Or.inr rfl) (pe_lst (pa_cons pe_str (pa_cons pe_str (pa_cons pe_str (pa_cons pe_str (pa_cons pe_str (pa_cons pe_str (pa_cons pe_str pa_nil)))))))))
      (pss_cons (ps_set (i := 9) sc_L_drawn.nd rfl (by first | exact Or.inl rfl | exact Or.inr rfl) (pe_lst (pa_cons (pe_tup (pa_cons pe_str (pa_cons (pv 2) (pa_cons (pv 4) (pa_cons (pe_ix k_ix (pv 8) (pe_cal K_L_take (hr.mono (by decide)) pass0 (pa_cons (pv 0) (pa_cons pe_int pa_nil))) (fun _ _ => rfl)) pa_nil))))) (pa_cons (pe_tup (pa_cons pe_str (pa_cons (pv 2) (pa_cons (pv 6) pa_nil)))) (pa_cons (pe_tup (pa_cons pe_str (pa_cons (pv 2) (pa_cons (pv 3) (pa_cons (pv 7) pa_nil))))) pa_nil)))))
      (pss_cons (ps_set (i := 9) sc_L_drawn.nd rfl (by first | exact Or.inl rfl | exact Or.inr rfl) (pe_op k_add (pv 9) (pe_lst (pa_cons (pe_tup (pa_cons pe_str (pa_cons (pv 3) (pa_cons (pv 2) (pa_cons (pe_op op_sub (pv 6) pe_int) pa_nil))))) (pa_cons (pe_tup (pa_cons pe_str (pa_cons (pv 2) pa_nil))) (pa_cons (pe_tup (pa_cons pe_str (pa_cons (pv 2) pa_nil))) (pa_cons (pe_tup (pa_cons pe_str (pa_cons (pv 2) pa_nil))) (pa_cons (pe_tup (pa_cons pe_str (pa_cons (pv 2) pa_nil))) pa_nil))))))))
      (pss_cons (ps_for PassesOwn.never rfl (k_list (pe_lst (pa_cons pe_str (pa_cons pe_str (pa_cons pe_str (pa_cons pe_str (pa_cons pe_str (pa_cons pe_str (pa_cons pe_str (pa_cons pe_str (pa_cons pe_str pa_nil))))))))))) (pg_name (i := 10) sc_L_drawn.nd rfl (by first | exact Or.inl rfl | exact Or.inr rfl))
      (pss_one (ps_expr (pe_bm PySem.F.plainAttrs_list PySem.F.slot_list_append PySem.F.type_list_append mt_append (pv 9) (pa_cons (pe_tup (pa_cons (pv 10) (pa_cons (pv 2) (pa_cons (pv 4) pa_nil)))) pa_nil)))))
      (pss_one (ps_ret (pe_ix k_ix (pv 9) (pe_cal K_L_take (hr.mono (by decide)) pass0 (pa_cons (pv 0) (pa_cons (pe_callB k_len (by rfl) T.z_len (by decide +kernel) (pa_cons (pv 9) pa_nil)) pa_nil))) (fun _ _ => rfl)))))))))))), ?_⟩
  walk_at "tx"
  refine a_lst (by simp) fun L1 H1 n1 s1 e1 => ?_
  have p1 := hp.same s1
  walk_at "tx"
  refine lc_drawn p1 (by decide) (PickV wordsD) (fun i H2 R hi p2 d2 q => ?_) (fun D H2 ys hD d2 yl hys e2 => ?_)
  · walk_at "tx"
    refine r_take p2 (by decide) (by decide) fun r H3 r0 r1 d3 => ?_
    obtain ⟨v, hv, mv⟩ := at_drawn (xs := [V.str "ann", V.str "bob", V.str "k", V.str "abcdefgh"]) r0 (by show r < ((4 : Nat) : Int); omega)
    refine r_ixL ((d2.trans d3).kept _ _ e1 (hp.ne' n1)) hv ?_
    exact q v H3 (pick_word mv) d3
  · obtain ⟨w1, w2, w3, rfl⟩ : ∃ a b c, ys = [a, b, c] := by
      match ys, yl with
      | [a, b, c], _ => exact ⟨a, b, c, rfl⟩
    have i1 := hys w1 (by simp)
    have i2 := hys w2 (by simp)
    have i3 := hys w3 (by simp)
    obtain ⟨dp, b1, q1⟩ := i1
    obtain ⟨dq, b2, q2⟩ := i2
    obtain ⟨dk, b3, q3⟩ := i3
    walk_at "tx"
    have p2 := d2.pool
    refine a_lst (by simp) fun L3 H3 n3 s3 e3 => ?_
    have p3 := p2.same s3
    walk_at "tx"
    refine r_take p3 (by decide) (by decide) fun r4 H4 r40 r41 d4 => ?_
    obtain ⟨v4, hv4, mv4⟩ := at_drawn (xs := [V.int 1, V.int 7, V.int 1000000000000000]) r40 (by show r4 < ((3 : Nat) : Int); omega)
    refine r_ixL (d4.kept _ _ e3 (p2.ne' n3)) hv4 ?_
    obtain ⟨dn, b4, q4⟩ := pick_num mv4
    obtain ⟨nn, rfl, rfl, e5n⟩ : ∃ n : Int, dn = .int n ∧ v4 = .int n ∧ PyData.int (n - 1) ∈ ([.int (0), .int (6), .int (999999999999999)] : List PyData) := by
      have q5 := q4 K H4
      simp only [numsD, List.mem_cons, List.not_mem_nil, or_false] at b4
      rcases b4 with rfl | rfl | rfl
      all_goals
        cases q5
        exact ⟨_, rfl, rfl, by simp⟩
    walk_at "tx1"
    walk_at "tx1"
    walk_at "tx1"
    walk_at "tx1"
    refine ev_use (K := K) (d := (.list [.none, .tuple [], .tuple [.str (Str.ofString "k")], .tuple [.str (Str.ofString "a"), .str (Str.ofString "k"), .str (Str.ofString "zz")]] : PyData)) (by walk_at "ed") fun v5 H5 s5 d5 => ?_
    have p5 := d4.pool.same s5
    walk_at "tx"
    refine r_take p5 (by decide) (by decide) fun r6 H6 r60 r61 d6 => ?_
    refine list_at d5 (by decide +kernel) d6 p5 r60 (by show r6 < ((4 : Nat) : Int); omega) fun v6 dks m6 dd6 => ?_
    have f6 : flatD dks = true := List.all_eq_true.mp (show keysL.all flatD = true by decide) dks m6
    walk_at "tx"
    refine a_lst (by simp) fun L7 H7 n7 s7 e7 => ?_
    have p7 := d6.pool.same s7
    walk_at "tx"
    refine r_take p7 (by decide) (by decide) fun r8 H8 r80 r81 d8 => ?_
    obtain ⟨v8, hv8, mv8⟩ := at_drawn (xs := [V.str "x", V.str "", V.str "a \"b\"", V.str "two  words", V.str "back\\", V.str "*", V.str " "]) r80 (by show r8 < ((7 : Nat) : Int); omega)
    refine r_ixL (d8.kept _ _ e7 (d6.pool.ne' n7)) hv8 ?_
    obtain ⟨dv, b8, q8⟩ : PickV textsD v8 := pick_of rfl (by simp [textsD]) mv8
    have dd8 : Dd K H8 v6 dks := (Dd.same s7 _ _ dd6).drawn (np_flat _ f6) d8 p7
    walk_at "tx"
    refine a_tup (by simp) fun T1 H9 n9 s9 e9 => ?_
    walk_at "tx"
    refine a_tup (by simp) fun T2 H10 n10 s10 e10 => ?_
    walk_at "tx"
    refine a_tup (by simp) fun T3 H11 n11 s11 e11 => ?_
    walk_at "tx"
    refine a_lst (by simp) fun L12 H12 n12 s12 e12 => ?_
    walk_at "tx"
    refine a_tup (by simp) fun T4 H13 n13 s13 e13 => ?_
    walk_at "tx"
    refine a_tup (by simp) fun T5 H14 n14 s14 e14 => ?_
    walk_at "tx"
    refine a_tup (by simp) fun T6 H15 n15 s15 e15 => ?_
    walk_at "tx"
    refine a_tup (by simp) fun T7 H16 n16 s16 e16 => ?_
    walk_at "tx"
    refine a_tup (by simp) fun T8 H17 n17 s17 e17 => ?_
    walk_at "tx"
    refine a_lst (by simp) fun L18 H18 n18 s18 e18 => ?_
    have t1218 := ((((s13.trans s14).trans s15).trans s16).trans s17).trans s18
    have a1 : DdAll K H18 [V.ref T1, V.ref T2, V.ref T3] [.tuple [.str "write", dp, dk, dv], .tuple [.str "pass", dp, .int nn], .tuple [.str "send", dp, dq, dks]] :=
      .cons (.tup (t1218 _ _ (s12 _ _ (s11 _ _ (s10 _ _ e9)))) (.cons (.str _) (.cons (q1 _ _) (.cons (q3 _ _) (.cons (q8 _ _) .nil)))))
      (.cons (.tup (t1218 _ _ (s12 _ _ (s11 _ _ e10))) (.cons (.str _) (.cons (q1 _ _) (.cons (.int _) .nil))))
      (.cons (.tup (t1218 _ _ (s12 _ _ e11)) (.cons (.str _) (.cons (q1 _ _) (.cons (q2 _ _) (.cons (Dd.same (((s9.trans s10).trans (s11.trans s12)).trans t1218) _ _ dd8) .nil))))) .nil))
    have a2 : DdAll K H18 [V.ref T4, V.ref T5, V.ref T6, V.ref T7, V.ref T8] [.tuple [.str "take", dq, dp, .int (nn - 1)], .tuple [.str "save", dp], .tuple [.str "crash", dp], .tuple [.str "leave", dp], .tuple [.str "come", dp]] :=
      .cons (.tup (s18 _ _ (s17 _ _ (s16 _ _ (s15 _ _ (s14 _ _ e13))))) (.cons (.str _) (.cons (q2 _ _) (.cons (q1 _ _) (.cons (.int _) .nil)))))
      (.cons (.tup (s18 _ _ (s17 _ _ (s16 _ _ (s15 _ _ e14)))) (.cons (.str _) (.cons (q1 _ _) .nil)))
      (.cons (.tup (s18 _ _ (s17 _ _ (s16 _ _ e15))) (.cons (.str _) (.cons (q1 _ _) .nil)))
      (.cons (.tup (s18 _ _ (s17 _ _ e16)) (.cons (.str _) (.cons (q1 _ _) .nil)))
      (.cons (.tup (s18 _ _ e17) (.cons (.str _) (.cons (q1 _ _) .nil))) .nil))))
    refine g_catN (.lst (t1218 _ _ e12) a1) (.lst e18 a2) (by simp) fun L xs H19 n19 s19 e19 a19 => ?_
    walk_at "tx"
    refine a_lst (by simp) fun W H20 n20 s20 e20 => ?_
    have D18 : Drawn p H H18 := ((((((((Drawn.of hp s1).trans d2).same s3).trans d4).same s5).trans d6).same s7).trans d8).same (((s9.trans s10).trans (s11.trans s12)).trans t1218)
    have D20 : Drawn p H H20 := D18.same (s19.trans s20)
    have al20 := DdAll.same s20 _ _ a19
    have eL := s20 _ _ e19
    have nLp : L ≠ p := by
      obtain ⟨x, y, z, _⟩ := D20.pool
      intro q
      subst q
      rw [eL] at z
      cases z
      have := a19.length
      simp at this
    have nLW : L ≠ W := ne_of_none e19 n20
    walk_at "tx"
    refine ⟨_, rfl, ⟨_, SqL.of e20⟩, ?_⟩
    have evs : ∀ d ∈ [PyData.tuple [.str "write", dp, dk, dv], .tuple [.str "pass", dp, .int nn], .tuple [.str "send", dp, dq, dks]] ++ [.tuple [.str "take", dq, dp, .int (nn - 1)], .tuple [.str "save", dp], .tuple [.str "crash", dp], .tuple [.str "leave", dp], .tuple [.str "come", dp]], EvL d := by
      intro d hd
      simp only [List.cons_append, List.nil_append, List.mem_cons, List.not_mem_nil, or_false] at hd
      rcases hd with rfl | rfl | rfl | rfl | rfl | rfl | rfl | rfl
      · exact evl_of (ev_write _ b1 _ b3 _ b8)
      · exact evl_of (ev_pass _ b1 _ b4)
      · exact evl_of (ev_send _ b1 _ b2 _ m6)
      · exact evl_of (ev_take _ b2 _ b1 _ e5n)
      · exact evl_of (ev_four _ (by decide) _ b1)
      · exact evl_of (ev_four _ (by decide) _ b1)
      · exact evl_of (ev_four _ (by decide) _ b1)
      · exact evl_of (ev_four _ (by decide) _ b1)
    refine for_it walk_list (fun i σ H' => ∃ o8, σ = [some (.ref p), some (.ref L1), some w1, some w2, some w3, none, some (.int nn), some v6, some (.ref L7), some (.ref L), o8] ∧ But L H20 H' ∧ PoolAt H' p ∧ ∃ xs ds, H' L = some (.lst xs) ∧ DdAll K H' xs ds ∧ (∀ d ∈ ds, EvL d) ∧ ds.length = 8 + i)
      ⟨_, rfl, fun b o h _ => h, D20.pool, _, _, eL, al20, evs, by simp⟩ (fun i σ H' _ q => SqL.of (q.choose_spec.2.1 _ _ e20 nLW.symm)) ?_ ?_
    · rintro i wv σ H21 H21' hi ⟨o8, rfl, bt, pp, xs, ds, eX, aX, hX, lX⟩ ⟨rfl, hw⟩
      have hi : i < 9 := hi
      obtain ⟨x, rfl, hx⟩ : ∃ x : Str, wv = .str x ∧ x ∈ nineW := by
        have mw := List.mem_of_getElem? hw
        have tb : ∀ v ∈ nineW.map V.str, ∃ x : Str, v = .str x ∧ x ∈ nineW := fun v hv => by
          obtain ⟨x, hx, rfl⟩ := List.mem_map.mp hv
          exact ⟨x, rfl, hx⟩
        exact tb wv mw
      walk_at "tx"
      refine r_drop (r_bm ?_)
      walk_at "tx"
      refine ⟨.inl ⟨rfl, _, SqL.of eX⟩, ?_⟩
      walk_at "tx"
      refine a_tup (by simp) fun T H22 n22 s22 e22 => ?_
      walk_at "tx"
      have eX2 := s22 _ _ eX
      have nT : T ≠ L := (ne_of_none eX n22).symm
      have lxs : xs.length = 8 + i := by rw [aX.length, lX]
      refine ⟨L, xs, .ref T, rfl, rfl, eX2, sz_lt (by omega), ?_⟩
      have bt2 : But L H21' (upd H22 L (.lst (xs ++ [V.ref T]))) := fun b o h n => by rw [upd_ne n]; exact s22 _ _ h
      have new : Dd K (upd H22 L (.lst (xs ++ [V.ref T]))) (.ref T) (.tuple [.str x, dp, dk]) := .tup (by rw [upd_ne nT]; exact e22) (.cons (.str _) (.cons (q1 _ _) (.cons (q3 _ _) .nil)))
      have olds : DdAll K (upd H22 L (.lst (xs ++ [V.ref T]))) xs ds := DdAll.chg (g := fun _ => false) bt2 ⟨_, eX⟩ (fun _ _ _ _ => rfl) ds xs (lsAll_iff.mpr fun d hd => (hX d hd).flat) aX
      refine ⟨_, rfl, fun b o h n => bt2 b o (bt b o h n) n, ?_, _, _, upd_same, olds.append (.cons new .nil), fun d hd => ?_, by rw [List.length_append, lX]; simp; omega⟩
      · obtain ⟨x1, y1, z1, z2⟩ := pp
        exact ⟨x1, y1, by rw [upd_ne nLp.symm]; exact s22 _ _ z1, z2⟩
      · rcases List.mem_append.mp hd with hd | hd
        · exact hX d hd
        · rw [List.mem_singleton.mp hd]
          exact evl_of (ev_nine _ hx _ b1 _ b3)
    · rintro σ H21 ⟨o8, rfl, bt, pp, xs, ds, eX, aX, hX, lX⟩
      have lX : ds.length = 17 := lX
      have lxs : xs.length = 17 := by rw [aX.length, lX]
      walk_at "tx"
      rw [lxs]
      refine r_take pp (by decide) (by decide) fun r H22 r0 r1 d22 => ?_
      have fl : lsAll (fun _ => false) ds = true := lsAll_iff.mpr fun d hd => (hX d hd).flat
      have np : npD (.list ds) = true := by
        show (npL ds && lsAll npL ds) = true
        rw [np_flatAll ds fl, Bool.and_true]
        match ds, lX with
        | a :: b :: c :: r, _ => cases a <;> first | rfl | (cases b <;> rfl)
      refine list_at (.lst eX aX) np d22 pp r0 (by rw [lX]; exact r1) fun v' d' m' dd' => ?_
      have D21 : Drawn p H H21 := ⟨fun b o h n => bt b o (D20.kept b o h n) (fun z => by
        subst z
        rw [D18.kept _ _ h n] at n19
        cases n19), pp⟩
      exact k v' H22 d' (D21.trans d22) dd' (hX d' m')
end
end K07

set_option Elab.async false
set_option linter.all false
set_option maxRecDepth 100000
set_option maxHeartbeats 4000000
namespace K07
open PySem PySem.Spec PyProof.Rows L2 Tk TkM TkP TkR CwR SX
local macro_rules | `(tactic| walk_at "rd1") => `(tactic| first
  | with_reducible refine r_seq ?_
  | ((with_reducible refine r_var (v := ?vv) ?hrv ?_); (case hrv => rfl))
  | with_reducible refine r_c ?_
  | with_reducible refine r_op ?_
  | ((with_reducible refine r_ixL (xs := ?xx) (v := ?vv) ?hh ?he ?_); (case hh => first | assumption | exact upd_same); (case he => rfl))
  | with_reducible refine r_asg ?_
  | with_reducible refine r_sub ?_
  | ((with_reducible refine r_gTup (xs := ?xx) ?hh ?he ?_); (case hh => assumption); (case he => rfl))
  | with_reducible refine r_gCons ?_
  | with_reducible refine r_gNil ?_
  | ((with_reducible refine r_setL (xs := ?xx) (j := ?vv) ?hh ?he ?_); (case hh => first | assumption | exact upd_same); (case he => rfl))
  | with_reducible refine r_pow15 ?_
  | with_reducible refine r_pow18 ?_
  | with_reducible refine r_repr ?_
  | with_reducible refine iteT ?_
  | with_reducible refine iteF ?_
  | with_reducible refine r_cons ?_
  | with_reducible refine r_nil ?_
  | with_reducible refine r_call ?_
  | with_reducible refine r_cb ?_
  | with_reducible refine r_ret ?_
  | with_reducible refine r_gName ?_
  | with_reducible refine r_next ?_
  | with_reducible refine r_ifS ?_
  | with_reducible refine r_un ?_
  | with_reducible refine r_U ?_
  | with_reducible refine r_max2 ?_
  | with_reducible refine r_min2 ?_
  | with_reducible refine r_sl ?_
  | with_reducible refine r_noPart ?_
  | with_reducible refine r_part ?_
  | with_reducible refine r_inti ?_
  | with_reducible refine r_lc ?_
  | with_reducible refine r_for ?_
  | with_reducible refine r_rng1 ?_
  | with_reducible refine r_iList ?_
  | with_reducible refine r_iTup ?_
  | with_reducible refine r_iStr ?_
  | with_reducible refine r_strx ?_
  | ((with_reducible refine r_j ?hh ?hi ?_); (case hh => omega); (case hi => omega))
  | with_reducible refine r_m1 ?_
  | with_reducible refine r_test ?_
  | with_reducible refine r_B ?_
  | with_reducible refine r_not ?_
  | with_reducible refine r_and ?_
  | with_reducible refine r_or ?_
  | with_reducible refine r_andV ?_
  | with_reducible refine r_orV ?_
  | with_reducible refine r_notV ?_
  | with_reducible refine r_if ?_
  | with_reducible refine r_chain ?_
  | with_reducible refine r_lst ?_
  | with_reducible refine r_tup ?_
  | with_reducible refine r_k ?_
  | ((with_reducible refine r_isiS (d := ?dd) ?hh ?_); (case hh => assumption))
  | ((with_reducible refine r_isiT (d := ?dd) ?hh ?_); (case hh => assumption))
  | ((with_reducible refine r_isiI (d := ?dd) ?hh ?_); (case hh => assumption))
  | ((with_reducible refine r_isiB (d := ?dd) ?hh ?_); (case hh => assumption))
  | ((with_reducible refine r_lenS ?hh ?_); (case hh => assumption))
  | ((with_reducible refine r_lenT (xs := ?dd) ?hh ?_); (case hh => assumption))
  | ((with_reducible refine r_ixT (xs := ?xx) (v := ?vv) ?hh ?he ?_); (case hh => assumption); (case he => rfl))
  | with_reducible refine r_isN ?_
  | with_reducible refine r_I0 ?_
  | with_reducible refine g_addI ?_
  | ((with_reducible refine r_mod ?hh ?_); (case hh => first | decide | omega))
  | ((with_reducible refine r_div ?hh ?hi ?_); (case hh => first | decide | omega); (case hi => first | decide | omega))
  | ((with_reducible refine g_mulB ?hh ?hi ?_); (case hh => omega); (case hi => omega))
  | with_reducible refine g_ltI ?_
  | with_reducible refine g_leI ?_
  | with_reducible refine g_gtI ?_
  | with_reducible refine g_geI ?_
  | with_reducible refine g_eqI ?_
  | with_reducible refine g_neI ?_
  | with_reducible refine g_eqS ?_
  | with_reducible refine g_neS ?_
  | with_reducible refine g_leS ?_
  | with_reducible refine g_ltS ?_)
local macro_rules | `(tactic| walk_at "rd") => `(tactic| repeat (walk_at "rd1"))
local macro_rules | `(tactic| walk_at "ed") => `(tactic| repeat first
  | exact ed_int
  | exact ed_str
  | exact ed_bl
  | exact ed_non
  | exact ed_nil
  | exact ed_dct
  | exact ed_neg
  | with_reducible apply ed_cons
  | with_reducible apply ed_tup
  | with_reducible apply ed_lst
  | exact Nat.le_of_ble_eq_true rfl)
local macro_rules | `(tactic| walk_at "tx1") => `(tactic| first
  | walk_at "rd1"
  | with_reducible refine r_callS ?_
  | with_reducible refine r_zipA ?_
  | with_reducible refine r_par ?_
  | with_reducible refine r_pair ?_
  | with_reducible refine r_pow6 ?_
  | with_reducible refine r_m0 ?_
  | with_reducible refine r_bm ?_
  | with_reducible refine r_isS ?_
  | with_reducible refine r_told ?_
  | with_reducible refine r_js ?_
  | with_reducible refine r_jsNil ?_
  | with_reducible refine r_repl ?_
  | ((with_reducible refine r_gLst (xs := ?xx) ?hh ?he ?_); (case hh => assumption); (case he => rfl))
  | ((with_reducible refine r_lenL (xs := ?xx) ?hh ?_); (case hh => assumption)))
local macro_rules | `(tactic| walk_at "tx") => `(tactic| repeat (walk_at "tx1"))
section
variable {t1 t2 t3 t4 : Tok} {P : Program} {w : World} {K : PySem.W.Frag} {mg : Str → Option Value} {base : Heap}
def esc1c (c : Nat) : List Nat := if c = 92 ∨ c = 34 then [92, c] else [c]
theorem join_flat : ∀ ys : List (List Nat), TL.joinL [] ys = ys.flatten
  | [] => rfl
  | [p] => by simp [TL.joinL]
  | p :: q :: r => by
    show p ++ ([] ++ TL.joinL [] (q :: r)) = _
    rw [join_flat (q :: r), List.nil_append, ← List.flatten_cons]
theorem esc_flat (v : List Nat) : (v.map esc1c).flatten = esc v := by
  unfold esc
  rw [List.flatMap_def]
  rfl
def strV : V → V
  | .int i => .str (Str.ofString (toString i))
  | v => v
def TellV (v : V) : Prop := (∃ x, v = .str x) ∨ ∃ i : Int, v = .int i ∧ 0 ≤ i ∧ i ≤ 1000000000000000
def three : List Str := ["word", "number", "index"]
theorem tells {K : PySem.W.Frag} {H : Hp} : ∀ {f : List Str} {vs : List V} {ds : List PyData}, (∀ k ∈ f, k ∈ three) → partsD f ds = true → DdAll K H vs ds → vs.map strV = (partsT f ds).map (fun t => V.str (S t)) ∧ ∀ v ∈ vs, TellV v
  | [], [], [], _, _, _ => ⟨rfl, fun v hv => by cases hv⟩
  | k :: f, v :: vs, d :: ds, h3, hp, hd => by
    rw [partsD, Bool.and_eq_true] at hp
    cases hd with
    | cons h0 hr =>
      obtain ⟨r1, r2⟩ := tells (fun k hk => h3 k (List.mem_cons_of_mem _ hk)) hp.2 hr
      have hk := h3 k List.mem_cons_self
      have one : strV v = V.str (S (partT k d)) ∧ TellV v := by
        have hp1 := hp.1
        unfold three at hk
        simp only [List.mem_cons, List.not_mem_nil, or_false] at hk
        rcases hk with rfl | rfl | rfl
        · rw [kd_word] at hp1
          obtain ⟨a, rfl, _⟩ := word_txt hp1
          cases h0
          exact ⟨rfl, .inl ⟨_, rfl⟩⟩
        · rw [kd_number] at hp1
          cases d with
          | int i =>
            cases h0
            unfold numD at hp1
            rw [Bool.and_eq_true, decide_eq_true_eq, decide_eq_true_eq] at hp1
            refine ⟨?_, .inr ⟨i, rfl, by omega, by omega⟩⟩
            show V.str (Str.ofString (toString i)) = _
            rw [num_txt (by omega)]
            rfl
          | _ => cases hp1
        · rw [kd_index] at hp1
          cases d with
          | int i =>
            cases h0
            unfold indexD at hp1
            rw [Bool.and_eq_true, decide_eq_true_eq, decide_eq_true_eq] at hp1
            refine ⟨?_, .inr ⟨i, rfl, by omega, by omega⟩⟩
            show V.str (Str.ofString (toString i)) = _
            rw [num_txt (by omega)]
            rfl
          | _ => cases hp1
      refine ⟨?_, fun u hu => ?_⟩
      · show strV v :: vs.map strV = V.str (S (partT k d)) :: _
        rw [one.1, r1]
      · rcases List.mem_cons.mp hu with rfl | hu
        · exact one.2
        · exact r2 u hu
  | [], _ :: _, [], _, _, hd => by cases hd
  | [], _, _ :: _, _, hp, _ => by cases hp
  | _ :: _, _, [], _, hp, _ => by cases hp
  | _ :: _, [], _ :: _, _, _, hd => by cases hd
theorem write_is (a b u : List Nat) : Str.ofString "write " ++ S a ++ Str.ofString " " ++ S b ++ Str.ofString " \"" ++ S u ++ Str.ofString "\"" = S (TL.joinL [32] (cWrite :: a :: b :: [34 :: (u ++ [34])])) := by
  refine TL.ext_tl ?_
  rw [TL.tl_append, TL.tl_append, TL.tl_append, TL.tl_append, TL.tl_append, TL.tl_append]
  show [119, 114, 105, 116, 101, 32] ++ a ++ [32] ++ b ++ [32, 34] ++ u ++ [34] = cWrite ++ ([32] ++ (a ++ ([32] ++ (b ++ ([32] ++ (34 :: (u ++ [34])))))))
  unfold cWrite
  simp
theorem send_is (a b u : List Nat) : Str.ofString "send " ++ S a ++ Str.ofString " " ++ S b ++ Str.ofString " " ++ S u = S (TL.joinL [32] (cSend :: a :: b :: [u])) := by
  refine TL.ext_tl ?_
  rw [TL.tl_append, TL.tl_append, TL.tl_append, TL.tl_append, TL.tl_append]
  show [115, 101, 110, 100, 32] ++ a ++ [32] ++ b ++ [32] ++ u = cSend ++ ([32] ++ (a ++ ([32] ++ (b ++ ([32] ++ u)))))
  unfold cSend
  simp
theorem word_write {w0 : List Nat} (h : S w0 = Str.ofString "write") : w0 = cWrite := S_inj (h.trans (by decide))
theorem word_send {w0 : List Nat} (h : S w0 = Str.ofString "send") : w0 = cSend := S_inj (h.trans (by decide))
theorem form_write {w0 : List Nat} {f : List Str} (h : formsT.lookup (S w0) = some f) (e : w0 = cWrite) : f = [Str.ofString "word", Str.ofString "word", Str.ofString "value"] := by
  have fw := form_word h
  unfold formW isWr at fw
  rw [Bool.and_eq_true, Bool.and_eq_true, beq_iff_eq] at fw
  have q1 : (w0 == cWrite) = decide (f = FV) := fw.1.1
  rw [e, beq_self_eq_true] at q1
  exact of_decide_eq_true q1.symm
theorem form_send {w0 : List Nat} {f : List Str} (h : formsT.lookup (S w0) = some f) (e : w0 = cSend) : f = [Str.ofString "word", Str.ofString "word", Str.ofString "keys"] := by
  have fw := form_word h
  unfold formW isSe at fw
  rw [Bool.and_eq_true, Bool.and_eq_true, beq_iff_eq, beq_iff_eq] at fw
  have q1 : (w0 == cSend) = decide (f = FK) := fw.1.2
  rw [e, beq_self_eq_true] at q1
  exact of_decide_eq_true q1.symm
theorem form_else {w0 : List Nat} {f : List Str} (h : formsT.lookup (S w0) = some f) (n1 : w0 ≠ cWrite) (n2 : w0 ≠ cSend) : ∀ k ∈ f, k ∈ three := by
  have fw := form_word h
  unfold formW isSe isWr at fw
  rw [Bool.and_eq_true, Bool.and_eq_true, beq_iff_eq, beq_iff_eq] at fw
  have q1 : (w0 == cWrite) = decide (f = FV) := fw.1.1
  have q2 : (w0 == cSend) = decide (f = FK) := fw.1.2
  rw [beq_eq_false_iff_ne.mpr n1] at q1
  rw [beq_eq_false_iff_ne.mpr n2] at q2
  have m := shape_of h
  have all : ∀ f ∈ shapes, f ≠ FV → f ≠ FK → ∀ k ∈ f, k ∈ three := by decide
  exact all f m (of_decide_eq_false q1.symm) (of_decide_eq_false q2.symm)
/-- an event's text, as the law writes it -/
def spWritten (K : PySem.W.Frag) : Sp := fun vs H Q _ => ∃ (v : V) (d : PyData), vs = [v] ∧ Dd K H v d ∧ eventD d = true ∧ fewI d ∧ ∀ H', Same H H' → Q (.str (S (evT d))) H'
abbrev s_L_written : Stmt := top 32
abbrev n_L_written : List Str := ["_law_event", "_law_inner", "_law_sign", "_law_part"]
abbrev p_L_written : List Str := ["_law_event"]
theorem sc_L_written : FnScope n_L_written p_L_written (defScope s_L_written) := ⟨rfl, rfl, rfl, by decide +kernel, rfl, by decide +kernel, by decide +kernel⟩
theorem ok_L_written (T : Txt mg t1 t2 t3 t4) {f : Addr} {fd : FuncData} (F : Fun K "_law_written" "_law_written" s_L_written f fd) : FnOk P w K mg base CX0 1 f fd p_L_written (spWritten K) := by
  refine F.ok sc_L_written (fun vs H Q E h => by obtain ⟨v, d, rfl, _⟩ := h; rfl) (fun cdv A outer s H vs Q E hr h => ?_)
  obtain ⟨v, d, rfl, hd, ev, hf, k⟩ := h
  have hu := hr.units
  refine ⟨_, (pss_cons (ps_if (pt_cmpR (k_eq hu) (pe_ix k_ix (pv 0) pe_int (fun _ _ => rfl)) pe_str (nomark _)) (pss_cons (ps_set (i := 1) sc_L_written.nd rfl (by first | exact Or.inl rfl | exact Or.inr rfl) (k_joinK pe_str (pe_lc (own := [("_law_sign", 2)]) rfl sc_L_written.nd (pi_str (pe_ix k_ix (pv 0) pe_int (fun _ _ => rfl))) (blkOk_by (own := [("_law_sign", 2)]) (N := n_L_written) (sc := defScope s_L_written) (by decide +kernel)) (fun _ _ _ _ _ => (pg_name (i := 2) sc_L_written.nd rfl (by first | exact Or.inl rfl | exact Or.inr rfl))) (fun _ _ _ _ _ => pts_nil) (fun _ _ _ _ _ => (pe_op k_add (pe_ix k_ix (pe_lst (pa_cons pe_str (pa_cons pe_str pa_nil))) (pe_callTy k_int1 (by rfl) T.z_int (by decide +kernel) (pa_cons (pe_cmpR k_in (pv 2) (pe_lst (pa_cons pe_str (pa_cons pe_str pa_nil))) rfl) pa_nil)) (fun _ _ => rfl)) (pv 2))))))
      (pss_one (ps_ret (pe_op k_add (pe_op k_add (pe_op k_add (pe_op k_add (pe_op k_add (pe_op k_add pe_str (pe_ix k_ix (pv 0) pe_int (fun _ _ => rfl))) pe_str) (pe_ix k_ix (pv 0) pe_int (fun _ _ => rfl))) pe_str) (pv 1)) pe_str)))) pss_nil)
      (pss_cons (ps_if (pt_cmpR (k_eq hu) (pe_ix k_ix (pv 0) pe_int (fun _ _ => rfl)) pe_str (nomark _)) (pss_one (ps_ret (pe_op k_add (pe_op k_add (pe_op k_add (pe_op k_add (pe_op k_add pe_str (pe_ix k_ix (pv 0) pe_int (fun _ _ => rfl))) pe_str) (pe_ix k_ix (pv 0) pe_int (fun _ _ => rfl))) pe_str) (pe_ifExp (pt_cmpR o_isN (pe_ix k_ix (pv 0) pe_int (fun _ _ => rfl)) pe_non (nomark _)) pe_str (k_joinK pe_str (pe_ix k_ix (pv 0) pe_int (fun _ _ => rfl))))))) pss_nil)
      (pss_one (ps_ret (k_joinK pe_str (pe_lc (own := [("_law_part", 3)]) rfl sc_L_written.nd (k_tup (pv 0)) (blkOk_by (own := [("_law_part", 3)]) (N := n_L_written) (sc := defScope s_L_written) (by decide +kernel)) (fun _ _ _ _ _ => (pg_name (i := 3) sc_L_written.nd rfl (by first | exact Or.inl rfl | exact Or.inr rfl))) (fun _ _ _ _ _ => pts_nil) (fun _ _ _ _ _ => (pe_callTy k_strX (by rfl) T.z_str (by decide +kernel) (pa_cons (pv 3) pa_nil))))))))), ?_⟩
  obtain ⟨w0, fm, dr, rfl, hw, hx, hs, hp, et⟩ := event_is ev
  have fw := form_word hx
  have small : ∀ t ∈ w0 :: partsT fm dr, t.length ≤ 1000 := by
    intro t ht
    rcases List.mem_cons.mp ht with rfl | ht
    · have := (word_len hw).2
      omega
    · exact partsT_le (shape_five hs) hp (fun d hd => hf d (List.mem_cons_of_mem _ hd)) t ht
  cases hd with
  | tup ha al =>
    cases al with
    | cons h0 hr' =>
      cases h0
      rename_i a vs
      walk_at "tx"
      refine r_ixT ha (v := .str (S w0)) (atI_nat (j := 0) rfl) ?_
      walk_at "tx"
      refine r_dec (fun c1 => ?_) (fun c1 => ?_)
      · obtain rfl := word_write c1
        obtain rfl := form_write hx rfl
        obtain ⟨x, y, z, rfl, hx1, hy1, hz1⟩ := parts3 hp
        obtain ⟨wa, rfl, wwa, _⟩ := part_word hx1
        obtain ⟨wb, rfl, wwb, _⟩ := part_word hy1
        rw [kd_value] at hz1
        cases z with
        | str xz =>
          obtain ⟨u, rfl⟩ : ∃ u, xz = S u := ⟨xz.cps.toList, (S_tl xz).symm⟩
          have lu : u.length ≤ 40 := value_len hz1
          cases hr' with
          | cons d1 hr' => cases hr' with
            | cons d2 hr' => cases hr' with
              | cons d3 hr' =>
                cases hr'
                cases d1
                cases d2
                cases d3
                have la := (word_len wwa).2
                have lb := (word_len wwb).2
                have c0 : (Str.ofString "write ").length = 6 := by decide
                have c1' : (Str.ofString " ").length = 1 := by decide
                have c2' : (Str.ofString " \"").length = 2 := by decide
                have c3' : (Str.ofString "\"").length = 1 := by decide
                walk_at "tx"
                refine r_lcStr (by rw [S_len]; omega) (fun _ => true) (fun v => .str (S (esc1c (codeV v)))) (fun c _ H2 R s2 q => q H2 (Same.refl H2)) (fun c _ _ H2 R s2 q => ?_) (fun Dl H2 hD s2 e => ?_)
                · walk_at "tx"
                  refine a_lst (by simp) fun L1 H3 n3 s3 e3 => ?_
                  walk_at "tx"
                  refine a_lst (by simp) fun L2 H4 n4 s4 e4 => ?_
                  walk_at "tx"
                  refine r_inL e4 rfl rfl ?_
                  have z := in_two c 92 34
                  have z' : inV (V.str ⟨#[c]⟩) [V.str "\\", V.str "\""] = decide (c = 92 ∨ c = 34) := z
                  rw [z']
                  walk_at "tx"
                  refine r_int1 ?_
                  walk_at "tx"
                  have q2 := q H4 (s3.trans s4)
                  have e3' := s4 _ _ e3
                  unfold esc1c at q2
                  by_cases cc : c = 92 ∨ c = 34
                  · rw [codeV_sign, if_pos cc] at q2
                    rw [decide_eq_true cc]
                    refine r_ixL (v := .str "\\") e3' (by rfl) ?_
                    walk_at "tx"
                    refine g_addS (sz_of (n := 2) (by omega)) ?_
                    exact q2
                  · rw [codeV_sign, if_neg cc] at q2
                    rw [decide_eq_false cc]
                    refine r_ixL (v := .str "") e3' (by rfl) ?_
                    walk_at "tx"
                    refine g_addS (sz_of (n := 1) (by omega)) ?_
                    exact q2
                · have e' : H2 Dl = some (.lst ((((u.map esc1c).map S)).map V.str)) := by
                    rw [e, filt_true, List.map_map, List.map_map]
                    rfl
                  have short : ∀ z ∈ (u.map esc1c).map S, z.length ≤ 2 := fun z hz => by
                    obtain ⟨y, hy, rfl⟩ := List.mem_map.mp hz
                    obtain ⟨c, _, rfl⟩ := List.mem_map.mp hy
                    rw [S_len]
                    unfold esc1c
                    split <;> simp
                  have sm := sum_le short
                  have ln : ((u.map esc1c).map S).length = u.length := by simp
                  have zl : ("" : Str).length = 0 := rfl
                  refine r_join e' (by rw [zl, Nat.mul_zero]; rw [ln] at sm; omega) ?_
                  have ej : Txt.join "" ((u.map esc1c).map S) = S (esc u) := by
                    have := join_S [] (u.map esc1c)
                    rw [join_flat, esc_flat] at this
                    exact this
                  rw [ej]
                  have el : (S (esc u)).length ≤ 80 := by
                    have := esc_len u
                    rw [S_len]
                    omega
                  have ha2 := s2 _ _ ha
                  walk_at "tx"
                  refine g_addS (sz_of (by simp only [cat_len, S_len, c0, c1', c2', c3']; omega)) ?_
                  walk_at "tx"
                  refine g_addS (sz_of (by simp only [cat_len, S_len, c0, c1', c2', c3']; omega)) ?_
                  walk_at "tx"
                  refine g_addS (sz_of (by simp only [cat_len, S_len, c0, c1', c2', c3']; omega)) ?_
                  walk_at "tx"
                  refine g_addS (sz_of (by simp only [cat_len, S_len, c0, c1', c2', c3']; omega)) ?_
                  walk_at "tx"
                  refine g_addS (sz_of (by simp only [cat_len, c0, c1', c2', c3']; rw [S_len, S_len]; omega)) ?_
                  walk_at "tx"
                  refine g_addS (sz_of (by simp only [cat_len, c0, c1', c2', c3']; rw [S_len, S_len]; omega)) ?_
                  have q := k H2 s2
                  rw [et] at q
                  rw [write_is]
                  exact q
        | _ => cases hz1
      · walk_at "tx"
        refine r_ixT ha (v := .str (S w0)) (atI_nat (j := 0) rfl) ?_
        walk_at "tx"
        refine r_dec (fun c2 => ?_) (fun c2 => ?_)
        · obtain rfl := word_send c2
          obtain rfl := form_send hx rfl
          obtain ⟨x, y, z, rfl, hx1, hy1, hz1⟩ := parts3 hp
          obtain ⟨wa, rfl, wwa, _⟩ := part_word hx1
          obtain ⟨wb, rfl, wwb, _⟩ := part_word hy1
          have hz0 := hz1
          rw [kd_keys] at hz1
          cases hr' with
          | cons d1 hr' => cases hr' with
            | cons d2 hr' => cases hr' with
              | cons d3 hr' =>
                cases hr'
                cases d1
                cases d2
                rename_i vz
                have la := (word_len wwa).2
                have lb := (word_len wwb).2
                have c0 : (Str.ofString "send ").length = 5 := by decide
                have c1' : (Str.ofString " ").length = 1 := by decide
                have c4' : (Str.ofString "*").length = 1 := by decide
                have fin : ∀ u, u = partT (Str.ofString "keys") z → GAdd K (V.str (Str.ofString "send " ++ S wa ++ Str.ofString " " ++ S wb ++ Str.ofString " ")) (V.str (S u)) H Q := fun u eu => by
                  have lz := partT_le (k := Str.ofString "keys") (by decide) hz0 (hf z (by simp))
                  refine g_addS (sz_of (by simp only [cat_len, S_len, c0, c1']; rw [eu]; omega)) ?_
                  have q := k H (Same.refl H)
                  rw [et] at q
                  rw [send_is, eu]
                  exact q
                walk_at "tx"
                refine g_addS (sz_of (by simp only [cat_len, S_len, c0, c1']; omega)) ?_
                walk_at "tx"
                refine g_addS (sz_of (by simp only [cat_len, S_len, c0, c1']; omega)) ?_
                walk_at "tx"
                refine g_addS (sz_of (by simp only [cat_len, S_len, c0, c1']; omega)) ?_
                walk_at "tx"
                refine g_addS (sz_of (by simp only [cat_len, S_len, c0, c1']; omega)) ?_
                walk_at "tx"
                rw [Bool.or_eq_true] at hz1
                cases z with
                | none =>
                  cases d3
                  refine r_dec (fun cc => ?_) (fun cc => absurd rfl cc)
                  walk_at "tx"
                  exact fin [42] rfl
                | tuple ds =>
                  have hk : ascD (.tuple ds) = true := hz1.resolve_left (by intro z; cases z)
                  unfold ascD at hk
                  rw [Bool.and_eq_true] at hk
                  cases d3 with
                  | tup hb hds =>
                    refine r_dec (fun cc => nomatch cc) (fun cc => ?_)
                    walk_at "tx"
                    obtain ⟨ys, rfl, rfl⟩ := words_strs hds hk.1
                    have hf2 : (ys.map PyData.str).length ≤ 60 := hf (.tuple (ys.map PyData.str)) (by simp)
                    rw [List.length_map] at hf2
                    refine ⟨_, _, ys, rfl, rfl, .inr (SqT.of hb), ?_, ?_⟩
                    · have sm := sum_le (zs := ys) (n := 8) fun y hy => by
                        have := List.all_eq_true.mp hk.1 (.str y) (List.mem_map_of_mem hy)
                        have l := (word_len (x := y.cps.toList) (by rw [S_tl]; exact this)).2
                        have : y.cps.toList.length = y.length := by rw [Array.length_toList]; rfl
                        omega
                      rw [c1']
                      omega
                    · rw [join_keys ys]
                      exact fin _ rfl
                | _ => exact absurd hz1 (by intro z; rcases z with z | z <;> cases z)
        · have n1 : w0 ≠ cWrite := fun e => c1 (by rw [e]; decide)
          have n2 : w0 ≠ cSend := fun e => c2 (by rw [e]; decide)
          obtain ⟨tm, tv⟩ := tells (form_else hx n1 n2) hp hr'
          have lm := lookup_mem hx
          have lp := partsD_len hp
          have ll := hr'.length
          walk_at "tx"
          refine ⟨_, rfl, ⟨_, SqT.of ha⟩, ?_⟩
          refine lc_tupP ha (by rw [List.length_cons]; omega) strV (fun x hx2 H2 R s2 q => ?_) (fun D H1 hD s1 e1 => ?_)
          · have tx : TellV x := by
              rcases List.mem_cons.mp hx2 with rfl | hx2
              · exact .inl ⟨_, rfl⟩
              · exact tv x hx2
            rcases tx with ⟨y, rfl⟩ | ⟨i, rfl, i0, i1⟩
            · walk_at "tx"
              exact .inr ⟨_, rfl, q H2 (Same.refl H2)⟩
            · walk_at "tx"
              exact .inl ⟨_, rfl, log_few i0 i1, q H2 (Same.refl H2)⟩
          · have e1 : H1 D = some (.lst (((w0 :: partsT fm dr).map S).map V.str)) := by
              rw [e1, List.map_cons, tm, List.map_cons, List.map_cons, List.map_map]
              rfl
            walk_at "tx"
            refine r_join e1 ?_ ?_
            · have sm := sum_le (zs := (w0 :: partsT fm dr).map S) (n := 1000) fun y hy => by
                obtain ⟨t, ht, rfl⟩ := List.mem_map.mp hy
                rw [S_len]
                exact small t ht
              have e1 : (Str.ofString " ").length = 1 := by decide
              rw [e1]
              rw [List.length_map, List.length_cons, partsT_len lp] at *
              omega
            · have q := k H1 s1
              rw [et, ← join_S] at q
              exact q
end
end K07

set_option Elab.async false
set_option linter.all false
set_option maxRecDepth 100000
set_option maxHeartbeats 4000000
namespace K07
open PySem PySem.Spec PyProof.Rows L2 Tk TkM TkP TkR CwR SX
local macro_rules | `(tactic| walk_at "rd1") => `(tactic| first
  | with_reducible refine r_seq ?_
  | ((with_reducible refine r_var (v := ?vv) ?hrv ?_); (case hrv => rfl))
  | with_reducible refine r_c ?_
  | with_reducible refine r_op ?_
  | ((with_reducible refine r_ixL (xs := ?xx) (v := ?vv) ?hh ?he ?_); (case hh => first | assumption | exact upd_same); (case he => rfl))
  | with_reducible refine r_asg ?_
  | with_reducible refine r_sub ?_
  | ((with_reducible refine r_gTup (xs := ?xx) ?hh ?he ?_); (case hh => assumption); (case he => rfl))
  | with_reducible refine r_gCons ?_
  | with_reducible refine r_gNil ?_
  | ((with_reducible refine r_setL (xs := ?xx) (j := ?vv) ?hh ?he ?_); (case hh => first | assumption | exact upd_same); (case he => rfl))
  | with_reducible refine r_pow15 ?_
  | with_reducible refine r_pow18 ?_
  | with_reducible refine r_repr ?_
  | with_reducible refine iteT ?_
  | with_reducible refine iteF ?_
  | with_reducible refine r_cons ?_
  | with_reducible refine r_nil ?_
  | with_reducible refine r_call ?_
  | with_reducible refine r_cb ?_
  | with_reducible refine r_ret ?_
  | with_reducible refine r_gName ?_
  | with_reducible refine r_next ?_
  | with_reducible refine r_ifS ?_
  | with_reducible refine r_un ?_
  | with_reducible refine r_U ?_
  | with_reducible refine r_max2 ?_
  | with_reducible refine r_min2 ?_
  | with_reducible refine r_sl ?_
  | with_reducible refine r_noPart ?_
  | with_reducible refine r_part ?_
  | with_reducible refine r_inti ?_
  | with_reducible refine r_lc ?_
  | with_reducible refine r_for ?_
  | with_reducible refine r_rng1 ?_
  | with_reducible refine r_iList ?_
  | with_reducible refine r_iTup ?_
  | with_reducible refine r_iStr ?_
  | with_reducible refine r_strx ?_
  | ((with_reducible refine r_j ?hh ?hi ?_); (case hh => omega); (case hi => omega))
  | with_reducible refine r_m1 ?_
  | with_reducible refine r_test ?_
  | with_reducible refine r_B ?_
  | with_reducible refine r_not ?_
  | with_reducible refine r_and ?_
  | with_reducible refine r_or ?_
  | with_reducible refine r_andV ?_
  | with_reducible refine r_orV ?_
  | with_reducible refine r_notV ?_
  | with_reducible refine r_if ?_
  | with_reducible refine r_chain ?_
  | with_reducible refine r_lst ?_
  | with_reducible refine r_tup ?_
  | with_reducible refine r_k ?_
  | ((with_reducible refine r_isiS (d := ?dd) ?hh ?_); (case hh => assumption))
  | ((with_reducible refine r_isiT (d := ?dd) ?hh ?_); (case hh => assumption))
  | ((with_reducible refine r_isiI (d := ?dd) ?hh ?_); (case hh => assumption))
  | ((with_reducible refine r_isiB (d := ?dd) ?hh ?_); (case hh => assumption))
  | ((with_reducible refine r_lenS ?hh ?_); (case hh => assumption))
  | ((with_reducible refine r_lenT (xs := ?dd) ?hh ?_); (case hh => assumption))
  | ((with_reducible refine r_ixT (xs := ?xx) (v := ?vv) ?hh ?he ?_); (case hh => assumption); (case he => rfl))
  | with_reducible refine r_isN ?_
  | with_reducible refine r_I0 ?_
  | with_reducible refine g_addI ?_
  | ((with_reducible refine r_mod ?hh ?_); (case hh => first | decide | omega))
  | ((with_reducible refine r_div ?hh ?hi ?_); (case hh => first | decide | omega); (case hi => first | decide | omega))
  | ((with_reducible refine g_mulB ?hh ?hi ?_); (case hh => omega); (case hi => omega))
  | with_reducible refine g_ltI ?_
  | with_reducible refine g_leI ?_
  | with_reducible refine g_gtI ?_
  | with_reducible refine g_geI ?_
  | with_reducible refine g_eqI ?_
  | with_reducible refine g_neI ?_
  | with_reducible refine g_eqS ?_
  | with_reducible refine g_neS ?_
  | with_reducible refine g_leS ?_
  | with_reducible refine g_ltS ?_)
local macro_rules | `(tactic| walk_at "rd") => `(tactic| repeat (walk_at "rd1"))
local macro_rules | `(tactic| walk_at "ed") => `(tactic| repeat first
  | exact ed_int
  | exact ed_str
  | exact ed_bl
  | exact ed_non
  | exact ed_nil
  | exact ed_dct
  | exact ed_neg
  | with_reducible apply ed_cons
  | with_reducible apply ed_tup
  | with_reducible apply ed_lst
  | exact Nat.le_of_ble_eq_true rfl)
local macro_rules | `(tactic| walk_at "tx1") => `(tactic| first
  | walk_at "rd1"
  | with_reducible refine r_callS ?_
  | with_reducible refine r_zipA ?_
  | with_reducible refine r_par ?_
  | with_reducible refine r_pair ?_
  | with_reducible refine r_pow6 ?_
  | with_reducible refine r_m0 ?_
  | with_reducible refine r_bm ?_
  | with_reducible refine r_isS ?_
  | with_reducible refine r_told ?_
  | with_reducible refine r_js ?_
  | with_reducible refine r_jsNil ?_
  | with_reducible refine r_repl ?_
  | ((with_reducible refine r_gLst (xs := ?xx) ?hh ?he ?_); (case hh => assumption); (case he => rfl))
  | ((with_reducible refine r_lenL (xs := ?xx) ?hh ?_); (case hh => assumption)))
local macro_rules | `(tactic| walk_at "tx") => `(tactic| repeat (walk_at "tx1"))
section
variable {t1 t2 t3 t4 : Tok} {P : Program} {w : World} {K : PySem.W.Frag} {mg : Str → Option Value} {base : Heap}
theorem dig_in (c : Nat) : decide (c ∈ ("0123456789" : Str).cps.toList) = digB c := by
  have e : ("0123456789" : Str).cps.toList = [48, 49, 50, 51, 52, 53, 54, 55, 56, 57] := by decide +kernel
  rw [e]
  unfold digB
  rw [Bool.eq_iff_iff]
  simp
  omega
def spNumR (K : PySem.W.Frag) : Sp := fun vs H Q _ => ∃ L : List Nat, vs = [.str (S L)] ∧ L.length ≤ 20000 ∧ ∀ v H', Same H H' → Dd K H' v (numR L) → Q v H'
abbrev s_L_number : Stmt := top 33
abbrev n_L_number : List Str := ["_law_text", "_law_sign"]
abbrev p_L_number : List Str := ["_law_text"]
theorem sc_L_number : FnScope n_L_number p_L_number (defScope s_L_number) := ⟨rfl, rfl, rfl, by decide +kernel, rfl, by decide +kernel, by decide +kernel⟩
theorem ok_L_number (T : Txt mg t1 t2 t3 t4) {f : Addr} {fd : FuncData} (F : Fun K "_law_number" "_law_number" s_L_number f fd) : FnOk P w K mg base CX0 1 f fd p_L_number (spNumR K) := by
  refine F.ok sc_L_number (fun vs H Q E h => by obtain ⟨x, rfl, _⟩ := h; rfl) (fun cdv A outer s H vs Q E hr h => ?_)
  obtain ⟨a, rfl, hl, k⟩ := h
  have hu := hr.units
  have fail : (a = [] ∨ 16 < a.length ∨ a.all digB = false) → ∀ H1, Same H H1 → Q .non H1 := fun e H1 s1 => k _ _ s1 (by unfold numR; rw [if_pos e]; exact .non)
  refine ⟨_, (pss_cons (ps_if (PW.pt (pw_or (pt_cmpR (k_eq hu) (pv 0) pe_str (nomark _)) (pw_or (pt_cmpR o_gt (pe_callB k_len (by rfl) T.z_len (by decide +kernel) (pa_cons (pv 0) pa_nil)) pe_int (nomark _)) (pw_or1 (pt_cmpR (k_neP hu) (pe_lc (own := [("_law_sign", 1)]) rfl sc_L_number.nd (pi_str (pv 0)) (blkOk_by (own := [("_law_sign", 1)]) (N := n_L_number) (sc := defScope s_L_number) (by decide +kernel)) (fun _ _ _ _ _ => (pg_name (i := 1) sc_L_number.nd rfl (by first | exact Or.inl rfl | exact Or.inr rfl))) (fun _ _ _ _ _ => (pts_one (pt_cmpR k_notSign (pv 1) pe_str rfl))) (fun _ _ _ _ _ => (pv 1))) (pe_lst pa_nil) (nomark _)))))) (pss_one (ps_ret pe_non)) pss_nil)
      (pss_one (ps_ret (pe_callTy call_int_str (by rfl) T.z_int (by decide +kernel) (pa_cons (pv 0) pa_nil))))), ?_⟩
  walk_at "tx"
  refine r_dec (fun c3 => ?_) (fun c3 => ?_)
  · walk_at "tx"
    exact fail (.inl (S_inj (b := []) c3)) H (Same.refl H)
  have c3 : a ≠ [] := fun z => c3 (by rw [z]; rfl)
  walk_at "tx"
  refine r_lenS (by rw [S_len]; omega) ?_
  walk_at "tx"
  rw [S_len]
  refine r_dec (fun c5 => ?_) (fun c5 => ?_)
  · walk_at "tx"
    exact fail (.inr (.inl (by omega))) H (Same.refl H)
  have c5 : a.length ≤ 16 := by omega
  walk_at "tx"
  refine r_lcStr (by rw [S_len]; omega) (fun c => !digB c) (fun v => v) (fun c _ H6 R s6 q => ?_) (fun c _ _ H6 R s6 q => ?_) (fun Dl H6 n6 s6 e6 => ?_)
  · walk_at "tx"
    refine r_notSign ?_
    have z : decide (c ∈ ("0123456789" : Str).cps.toList) = digB c := dig_in c
    rw [z]
    walk_at "tx"
    exact q H6 (Same.refl H6)
  · walk_at "tx"
    exact q H6 (Same.refl H6)
  have e6 : H6 Dl = some (.lst ((a.filter fun c => !digB c).map signV)) := e6
  walk_at "tx"
  refine a_lst (by simp) fun L7 H7 n7 s7 e7 => ?_
  walk_at "tx"
  refine ⟨_, .list [], signs_data (s7 _ _ e6), .lst e7 .nil, signs_plain _, rfl, signs_deep _, ?_⟩
  rw [signs_eqv]
  walk_at "tx"
  refine r_boolN (fun c6 => ?_) (fun c6 => ?_)
  · walk_at "tx"
    refine fail (.inr (.inr ?_)) H7 (s6.trans s7)
    cases z : a.all digB with
    | false => rfl
    | true =>
      rw [List.isEmpty_iff.mpr] at c6
      · cases c6
      · refine List.filter_eq_nil_iff.mpr fun x hx => ?_
        rw [List.all_eq_true.mp z x hx]
        simp
  have c6 : a.all digB = true := List.all_eq_true.mpr fun x hx => by
    have z := List.filter_eq_nil_iff.mp (List.isEmpty_iff.mp c6) x hx
    simpa using z
  walk_at "tx"
  refine ⟨S a, _, rfl, int_S c6 c3 (by omega), by rw [S_len]; omega, ?_⟩
  refine k _ H7 (s6.trans s7) ?_
  unfold numR
  rw [if_neg (by rintro (z | z | z); exact c3 z; omega; rw [c6] at z; cases z)]
  exact .int _
end
end K07

set_option Elab.async false
set_option linter.all false
set_option maxRecDepth 100000
set_option maxHeartbeats 4000000
namespace K07
open PySem PySem.Spec PyProof.Rows L2 Tk TkM TkP TkR CwR SX
local macro_rules | `(tactic| walk_at "rd1") => `(tactic| first
  | with_reducible refine r_seq ?_
  | ((with_reducible refine r_var (v := ?vv) ?hrv ?_); (case hrv => rfl))
  | with_reducible refine r_c ?_
  | with_reducible refine r_op ?_
  | ((with_reducible refine r_ixL (xs := ?xx) (v := ?vv) ?hh ?he ?_); (case hh => first | assumption | exact upd_same); (case he => rfl))
  | with_reducible refine r_asg ?_
  | with_reducible refine r_sub ?_
  | ((with_reducible refine r_gTup (xs := ?xx) ?hh ?he ?_); (case hh => assumption); (case he => rfl))
  | with_reducible refine r_gCons ?_
  | with_reducible refine r_gNil ?_
  | ((with_reducible refine r_setL (xs := ?xx) (j := ?vv) ?hh ?he ?_); (case hh => first | assumption | exact upd_same); (case he => rfl))
  | with_reducible refine r_pow15 ?_
  | with_reducible refine r_pow18 ?_
  | with_reducible refine r_repr ?_
  | with_reducible refine iteT ?_
  | with_reducible refine iteF ?_
  | with_reducible refine r_cons ?_
  | with_reducible refine r_nil ?_
  | with_reducible refine r_call ?_
  | with_reducible refine r_cb ?_
  | with_reducible refine r_ret ?_
  | with_reducible refine r_gName ?_
  | with_reducible refine r_next ?_
  | with_reducible refine r_ifS ?_
  | with_reducible refine r_un ?_
  | with_reducible refine r_U ?_
  | with_reducible refine r_max2 ?_
  | with_reducible refine r_min2 ?_
  | with_reducible refine r_sl ?_
  | with_reducible refine r_noPart ?_
  | with_reducible refine r_part ?_
  | with_reducible refine r_inti ?_
  | with_reducible refine r_lc ?_
  | with_reducible refine r_for ?_
  | with_reducible refine r_rng1 ?_
  | with_reducible refine r_iList ?_
  | with_reducible refine r_iTup ?_
  | with_reducible refine r_iStr ?_
  | with_reducible refine r_strx ?_
  | ((with_reducible refine r_j ?hh ?hi ?_); (case hh => omega); (case hi => omega))
  | with_reducible refine r_m1 ?_
  | with_reducible refine r_test ?_
  | with_reducible refine r_B ?_
  | with_reducible refine r_not ?_
  | with_reducible refine r_and ?_
  | with_reducible refine r_or ?_
  | with_reducible refine r_andV ?_
  | with_reducible refine r_orV ?_
  | with_reducible refine r_notV ?_
  | with_reducible refine r_if ?_
  | with_reducible refine r_chain ?_
  | with_reducible refine r_lst ?_
  | with_reducible refine r_tup ?_
  | with_reducible refine r_k ?_
  | ((with_reducible refine r_isiS (d := ?dd) ?hh ?_); (case hh => assumption))
  | ((with_reducible refine r_isiT (d := ?dd) ?hh ?_); (case hh => assumption))
  | ((with_reducible refine r_isiI (d := ?dd) ?hh ?_); (case hh => assumption))
  | ((with_reducible refine r_isiB (d := ?dd) ?hh ?_); (case hh => assumption))
  | ((with_reducible refine r_lenS ?hh ?_); (case hh => assumption))
  | ((with_reducible refine r_lenT (xs := ?dd) ?hh ?_); (case hh => assumption))
  | ((with_reducible refine r_ixT (xs := ?xx) (v := ?vv) ?hh ?he ?_); (case hh => assumption); (case he => rfl))
  | with_reducible refine r_isN ?_
  | with_reducible refine r_I0 ?_
  | with_reducible refine g_addI ?_
  | ((with_reducible refine r_mod ?hh ?_); (case hh => first | decide | omega))
  | ((with_reducible refine r_div ?hh ?hi ?_); (case hh => first | decide | omega); (case hi => first | decide | omega))
  | ((with_reducible refine g_mulB ?hh ?hi ?_); (case hh => omega); (case hi => omega))
  | with_reducible refine g_ltI ?_
  | with_reducible refine g_leI ?_
  | with_reducible refine g_gtI ?_
  | with_reducible refine g_geI ?_
  | with_reducible refine g_eqI ?_
  | with_reducible refine g_neI ?_
  | with_reducible refine g_eqS ?_
  | with_reducible refine g_neS ?_
  | with_reducible refine g_leS ?_
  | with_reducible refine g_ltS ?_)
local macro_rules | `(tactic| walk_at "rd") => `(tactic| repeat (walk_at "rd1"))
local macro_rules | `(tactic| walk_at "ed") => `(tactic| repeat first
  | exact ed_int
  | exact ed_str
  | exact ed_bl
  | exact ed_non
  | exact ed_nil
  | exact ed_dct
  | exact ed_neg
  | with_reducible apply ed_cons
  | with_reducible apply ed_tup
  | with_reducible apply ed_lst
  | exact Nat.le_of_ble_eq_true rfl)
local macro_rules | `(tactic| walk_at "tx1") => `(tactic| first
  | walk_at "rd1"
  | with_reducible refine r_callS ?_
  | with_reducible refine r_zipA ?_
  | with_reducible refine r_par ?_
  | with_reducible refine r_pair ?_
  | with_reducible refine r_pow6 ?_
  | with_reducible refine r_m0 ?_
  | with_reducible refine r_bm ?_
  | with_reducible refine r_isS ?_
  | with_reducible refine r_told ?_
  | with_reducible refine r_js ?_
  | with_reducible refine r_jsNil ?_
  | with_reducible refine r_repl ?_
  | ((with_reducible refine r_gLst (xs := ?xx) ?hh ?he ?_); (case hh => assumption); (case he => rfl))
  | ((with_reducible refine r_lenL (xs := ?xx) ?hh ?_); (case hh => assumption)))
local macro_rules | `(tactic| walk_at "tx") => `(tactic| repeat (walk_at "tx1"))
section
variable {t1 t2 t3 t4 : Tok} {P : Program} {w : World} {K : PySem.W.Frag} {mg : Str → Option Value} {base : Heap}
theorem cutV3 (a b c : V) (xs : List V) : cutV (a :: b :: c :: xs) (some 3) none = xs := by
  unfold cutV
  have i1 : HT.sIx (a :: b :: c :: xs).length 0 (some 3) = 3 := by
    unfold HT.sIx
    simp
  rw [i1, HT.sIx_none]
  show xs.take ((a :: b :: c :: xs).length - 3) = xs
  rw [List.take_of_length_le (by simp)]
theorem cutV_last (a : V) (xs : List V) : cutV (a :: xs) none (some (-1)) = (a :: xs).dropLast := by
  unfold cutV
  have i1 : HT.sIx (a :: xs).length 0 none = 0 := by
    unfold HT.sIx
    simp
  have i2 : HT.sIx (a :: xs).length (a :: xs).length (some (-1)) = (a :: xs).length - 1 := by
    unfold HT.sIx
    simp
    omega
  rw [i1, i2, List.dropLast_eq_take]
  rfl
theorem in_pt (h : List Nat) : inV (.str (S h)) [.str (Str.ofString "pass"), .str (Str.ofString "take")] = decide (h = cPass ∨ h = cTake) := by
  show (S cPass == S h || (S cTake == S h || false)) = _
  rw [Bool.or_false, Bool.eq_iff_iff, Bool.or_eq_true, beq_iff_eq, beq_iff_eq, decide_eq_true_eq]
  exact ⟨fun z => z.elim (fun a => .inl (S_inj a).symm) (fun a => .inr (S_inj a).symm), fun z => z.elim (fun a => .inl (by rw [a])) (fun a => .inr (by rw [a]))⟩
theorem drop_strs (h : List Nat) (r : List (List Nat)) : (V.str (S h) :: (r.map S).map V.str).dropLast = ((h :: r).dropLast.map S).map V.str := by
  have e : V.str (S h) :: (r.map S).map V.str = ((h :: r).map S).map V.str := rfl
  rw [e, List.dropLast_eq_take, List.dropLast_eq_take, ← List.map_take, ← List.map_take, List.length_map, List.length_map]
theorem last_mem (h : List Nat) (r : List (List Nat)) : (h :: r).getLastD [] ∈ h :: r := by
  rw [List.getLastD_eq_getLast?, List.getLast?_eq_some_getLast (by simp)]
  exact List.getLast_mem (by simp)
theorem atI_last (h : List Nat) (r : List (List Nat)) : atI (V.str (S h) :: (r.map S).map V.str) (-1) = some (.str (S ((h :: r).getLastD []))) := by
  have e : V.str (S h) :: (r.map S).map V.str = ((h :: r).map S).map V.str := rfl
  rw [e]
  unfold atI ixN
  have l : ((((h :: r).map S).map V.str).length : Int) = (r.length : Int) + 1 := by
    rw [List.length_map, List.length_map, List.length_cons]
    rfl
  rw [if_neg (by omega), if_pos (by omega)]
  show (((h :: r).map S).map V.str)[_]? = _
  rw [List.getElem?_map, List.getElem?_map]
  have i : ((((h :: r).map S).map V.str).length + (-1 : Int)).toNat = r.length := by rw [l]; omega
  rw [List.getLastD_eq_getLast?, List.getLast?_eq_getElem?]
  simp
  have z : (-1 + ((r.length : Int) + 1)).toNat = r.length := by omega
  rw [z]
  exact List.getElem?_eq_getElem _
theorem one_star (tt : List (List Nat)) : tt.map S = [Str.ofString "*"] ↔ tt = [[42]] := by
  constructor
  · intro z
    match tt, z with
    | [a], z =>
      injection z with z1 _
      rw [S_inj (b := [42]) z1]
  · rintro rfl
    rfl
def fullV : V → Bool
  | .str x => !(x == Str.ofString "")
  | _ => true
theorem filt_strs : ∀ (tt : List (List Nat)), ((tt.map S).map V.str).filter fullV = ((tt.filter fun p => !p.isEmpty).map S).map V.str
  | [] => rfl
  | [] :: tt => by
    show ((tt.map S).map V.str).filter fullV = _
    rw [filt_strs tt]
    rfl
  | (c :: p) :: tt => by
    have e : fullV (V.str (S (c :: p))) = true := by
      show (!(S (c :: p) == S [])) = true
      rw [S_beq]
      rfl
    rw [List.map_cons, List.map_cons, List.filter_cons_of_pos e, filt_strs tt]
    rfl
def spReadV (K : PySem.W.Frag) : Sp := fun vs H Q _ => ∃ L : List Nat, vs = [.str (S L)] ∧ L.length ≤ 20000 ∧ ∀ v H', Same H H' → Dd K H' v (readV (S L)) → Q v H'
abbrev s_L_read : Stmt := top 34
abbrev n_L_read : List Str := ["_law_text", "_law_parts", "_law_inner", "_law_one"]
abbrev p_L_read : List Str := ["_law_text"]
theorem sc_L_read : FnScope n_L_read p_L_read (defScope s_L_read) := ⟨rfl, rfl, rfl, by decide +kernel, rfl, by decide +kernel, by decide +kernel⟩
theorem ok_L_read (T : Txt mg t1 t2 t3 t4) {f : Addr} {fd : FuncData} (F : Fun K "_law_read" "_law_read" s_L_read f fd) (K_L_number : Cal P w K mg base CX0 1 "_law_number" p_L_number (spNumR K)) : FnOk P w K mg base CX0 2 f fd p_L_read (spReadV K) := by
  refine Fun_okT F sc_L_read (by decide +kernel) (by decide) (fun vs H Q E h => by obtain ⟨x, rfl, _⟩ := h; rfl) (fun cdv A outer s H vs Q E hr h => ?_)
  obtain ⟨L, rfl, hl, k⟩ := h
  have hu := hr.units
  refine ⟨_, (psst_cons (pst_set (i := 1) sc_L_read.nd rfl (by first | exact Or.inl rfl | exact Or.inr rfl) (PET.of (pe_m1 PySem.F.slot_str_split PySem.F.type_str_split k_split1 (pv 0) pe_str)))
      (psst_cons (pst_if (PW.pt (pw_and (pt_cmpR (k_eq hu) (pe_ix k_ix (pv 1) pe_int (fun _ _ => rfl)) pe_str (nomark _)) (pw_and1 (pt_cmpR o_gt (pe_callB k_len (by rfl) T.z_len (by decide +kernel) (pa_cons (pv 1) pa_nil)) pe_int (nomark _))))) (psst_cons (pst_set (i := 2) sc_L_read.nd rfl (by first | exact Or.inl rfl | exact Or.inr rfl) (pet_replB (pet_replC (pe_slice k_slice (k_joinK pe_str (pe_slice k_slice (pv 1) (po_some pe_int) po_none)) (po_some pe_int) (po_some (pe_un un_neg pe_int))))))
      (psst_one (pst_ret (pet_tupT (pat_cons (PET.of pe_str) (pat_cons (PET.of (pe_ix k_ix (pv 1) pe_int (fun _ _ => rfl))) (pat_cons (PET.of (pe_ix k_ix (pv 1) pe_int (fun _ _ => rfl))) (pat_cons (pet_replT (pet_replC (pv 2))) pat_nil)))))))) psst_nil)
      (psst_cons (PST.of (ps_if (PW.pt (pw_and (pt_cmpR (k_eq hu) (pe_ix k_ix (pv 1) pe_int (fun _ _ => rfl)) pe_str (nomark _)) (pw_and1 (pt_cmpR o_gt (pe_callB k_len (by rfl) T.z_len (by decide +kernel) (pa_cons (pv 1) pa_nil)) pe_int (nomark _))))) (pss_one (ps_ret (pe_tup (pa_cons pe_str (pa_cons (pe_ix k_ix (pv 1) pe_int (fun _ _ => rfl)) (pa_cons (pe_ix k_ix (pv 1) pe_int (fun _ _ => rfl)) (pa_cons (pe_ifExp (pt_cmpR (k_eqP hu) (pe_slice k_slice (pv 1) (po_some pe_int) po_none) (pe_lst (pa_cons pe_str pa_nil)) (nomark _)) pe_non (pe_callTy k_tupOf (by rfl) T.z_tuple (by decide +kernel) (pa_cons (pe_lc (own := [("_law_one", 3)]) rfl sc_L_read.nd (k_list (pe_slice k_slice (pv 1) (po_some pe_int) po_none)) (blkOk_by (own := [("_law_one", 3)]) (N := n_L_read) (sc := defScope s_L_read) (by decide +kernel)) (fun _ _ _ _ _ => (pg_name (i := 3) sc_L_read.nd rfl (by first | exact Or.inl rfl | exact Or.inr rfl))) (fun _ _ _ _ _ => (pts_one (pt_cmpR (k_ne hu) (pv 3) pe_str (nomark _)))) (fun _ _ _ _ _ => (pv 3))) pa_nil))) pa_nil))))))) pss_nil))
      (psst_cons (PST.of (ps_if (pt_cmpR k_in (pe_ix k_ix (pv 1) pe_int (fun _ _ => rfl)) (pe_lst (pa_cons pe_str (pa_cons pe_str pa_nil))) rfl) (pss_one (ps_ret (pe_op k_add (pe_callTy k_tupOf (by rfl) T.z_tuple (by decide +kernel) (pa_cons (pe_slice k_slice (pv 1) po_none (po_some (pe_un un_neg pe_int))) pa_nil)) (pe_tup (pa_cons (pe_cal K_L_number (hr.mono (by decide)) pass0 (pa_cons (pe_ix k_ix (pv 1) (pe_un un_neg pe_int) (fun _ _ => rfl)) pa_nil)) pa_nil))))) pss_nil))
      (psst_one (pst_ret (PET.of (pe_callTy k_tupOf (by rfl) T.z_tuple (by decide +kernel) (pa_cons (pv 1) pa_nil))))))))), ?_⟩
  walk_at "tx"
  refine r_split1 (by decide) (by rw [S_len]; omega) fun L1 H1 n1 s1 e1 => ?_
  have ew : Txt.split (S L) " " = (TL.spl [32] 0 [] L).map S := split_S (b := [32]) (by simp) (by decide)
  rw [ew] at e1
  have short : ∀ p ∈ TL.spl [32] 0 [] L, p.length ≤ L.length := fun p hp => by
    have := split_le (S L) " " (S p) (by rw [ew]; exact List.mem_map_of_mem hp)
    rw [S_len, S_len] at this
    exact this
  have rd : readV (S L) = readP (TL.spl [32] 0 [] L) := rfl
  have few := split_few L
  have jl := spl_joined 32 L []
  have ne := spl_ne [32] L []
  have sums : ((TL.spl [32] 0 [] L).map (·.length)).sum + ((TL.spl [32] 0 [] L).length - 1) = L.length := by
    have z := join_S [32] (TL.spl [32] 0 [] L)
    rw [jl, List.nil_append] at z
    have z2 := join_len (S [32]) ((TL.spl [32] 0 [] L).map S)
    rw [z, S_len, lens, List.length_map] at z2
    rw [show (S [32]).length = 1 from rfl, Nat.mul_one] at z2
    exact z2.symm
  clear ew jl
  generalize TL.spl [32] 0 [] L = ws at *
  cases ws with
  | nil => exact absurd rfl ne
  | cons h r =>
    have rd : readV (S L) = readH h r := rd
    rw [rd] at k
    have e1 : H1 L1 = some (.lst (V.str (S h) :: (r.map S).map V.str)) := e1
    have lh := short h (by simp)
    rw [List.length_cons] at few
    walk_at "tx"
    refine r_ixL (v := .str (S h)) e1 (atI_nat (j := 0) rfl) ?_
    walk_at "tx"
    have el : ((V.str (S h) :: (r.map S).map V.str).length : Int) = (r.length : Int) + 1 := by
      rw [List.length_cons, List.length_map, List.length_map]
      rfl
    have three : 3 ≤ r.length → ∃ a b t ts, r = a :: b :: t :: ts := fun q => by
      match r, q with
      | a :: b :: t :: ts, _ => exact ⟨a, b, t, ts, rfl⟩
    have jlen : ∀ a b ts, r = a :: b :: ts → ((ts.map S).map (·.length)).sum + (ts.map S).length ≤ 20001 := fun a b ts e => by
      rw [e] at sums
      rw [List.map_cons, List.map_cons, List.map_cons, List.sum_cons, List.sum_cons, List.sum_cons, List.length_cons, List.length_cons, List.length_cons] at sums
      rw [lens, List.length_map]
      omega
    have c1' : (Str.ofString " ").length = 1 := by decide
    refine r_dec (fun c1 => ?yes) (fun c1 => ?no)
    case' yes =>
      walk_at "tx"
      rw [el]
      refine r_dec (fun c2 => ?wr) (fun c2 => ?few)
    case wr =>
      have hh := word_write c1
      have h3 : 3 ≤ r.length := by omega
      have rh : readH h r = .tuple [strS h, strS (r.getD 0 []), strS (r.getD 1 []), .str (unqL (S (TL.joinL [32] (r.drop 2))))] := if_pos ⟨hh, h3⟩
      rw [rh] at k
      obtain ⟨a, b, t, ts, rfl⟩ := three h3
      have e1 : H1 L1 = some (.lst (V.str (S h) :: V.str (S a) :: V.str (S b) :: ((t :: ts).map S).map V.str)) := e1
      have k : ∀ v H', Same H H' → Dd K H' v (.tuple [strS h, strS a, strS b, .str (unqL (S (TL.joinL [32] (t :: ts))))]) → Q v H' := k
      have jl := jlen a b (t :: ts) rfl
      generalize hts : t :: ts = tt at *
      walk_at "tx"
      refine g_slL e1 fun L3 H3 n3 s3 e3 => ?_
      rw [cutV3] at e3
      walk_at "tx"
      refine r_join e3 (by rw [c1']; omega) ?_
      have ej : Txt.join (Str.ofString " ") (tt.map S) = S (TL.joinL [32] tt) := join_S [32] tt
      have jlen2 : (TL.joinL [32] tt).length ≤ 20001 := by
        have z2 := join_len (Str.ofString " ") (tt.map S)
        rw [ej, S_len, c1'] at z2
        omega
      rw [ej]
      generalize TL.joinL [32] tt = jt at *
      have cl : (cutS (S jt) (some 1) (some (-1))).length ≤ 20001 := Nat.le_trans (cutS_len (S jt) (some 1) (some (-1))) (by rw [S_len]; omega)
      walk_at "tx"
      refine g_slS (by rw [S_len]; omega) ?_
      have b1 : (Txt.replace (cutS (S jt) (some 1) (some (-1))) (S [92, 92]) (S [10])).length ≤ 20001 + (20001 + 1) * 1 := repl_le cl (by decide)
      have b2 : (Txt.replace (Txt.replace (cutS (S jt) (some 1) (some (-1))) (S [92, 92]) (S [10])) (S [92, 34]) (S [9])).length ≤ (20001 + (20001 + 1) * 1) + ((20001 + (20001 + 1) * 1) + 1) * 1 := repl_le b1 (by decide)
      refine ⟨_, rfl, ?_⟩
      refine r_replU (x := cutS (S jt) (some 1) (some (-1))) (z := Str.ofString "\n") (by omega) (by decide) ?_
      refine ⟨_, rfl, ?_⟩
      refine r_replU (z := Str.ofString "\t") (show (Txt.replace (cutS (S jt) (some 1) (some (-1))) (S [92, 92]) (S [10])).length ≤ 100000 by omega) (by decide) ?_
      have b3 : (Txt.replace (Txt.replace (Txt.replace (cutS (S jt) (some 1) (some (-1))) (S [92, 92]) (S [10])) (S [92, 34]) (S [9])) (S [10]) (S [92])).length ≤ 80008 + (80008 + 1) * 1 := repl_le (by omega) (by decide)
      have ei : Txt.replace (Txt.replace (Txt.replace (Txt.replace (cutS (S jt) (some 1) (some (-1))) (Str.ofString "\\\\") (Str.ofString "\n")) (Str.ofString "\\" ++ Str.ofString "\"") (Str.ofString "\t")) (Str.ofString "\n") (Str.ofString "\\")) (Str.ofString "\t") (Str.ofString "\"") = unqL (S jt) := rfl
      walk_at "tx"
      refine r_ixL (v := .str (S a)) (s3 _ _ e1) (atI_nat (j := 1) rfl) ?_
      walk_at "tx"
      refine r_ixL (v := .str (S b)) (s3 _ _ e1) (atI_nat (j := 2) rfl) ?_
      walk_at "tx"
      refine r_replU (z := Str.ofString "\\") (show (Txt.replace (Txt.replace (cutS (S jt) (some 1) (some (-1))) (S [92, 92]) (S [10])) (S [92, 34]) (S [9])).length ≤ 100000 by omega) (by decide) ?_
      refine ⟨_, rfl, ?_⟩
      refine ⟨?_, ?_⟩
      · have z := b3
        have c9 : (Str.ofString "\"").length = 1 := by decide
        rw [c9]
        show (Txt.replace (Txt.replace (Txt.replace (cutS (S jt) (some 1) (some (-1))) (S [92, 92]) (S [10])) (S [92, 34]) (S [9])) (S [10]) (S [92])).length + ((Txt.replace (Txt.replace (Txt.replace (cutS (S jt) (some 1) (some (-1))) (S [92, 92]) (S [10])) (S [92, 34]) (S [9])) (S [10]) (S [92])).length + 1) * 1 ≤ 16777216
        omega
      walk_at "tx"
      refine a_tup (by simp) fun T8 H8 n8 s8 e8 => ?_
      refine k _ H8 (s1.trans (s3.trans s8)) (.tup e8 (.cons (show Dd K H8 (V.str (Str.ofString "write")) (.str (S h)) by rw [c1]; exact .str _) (.cons (.str _) (.cons (.str _) (.cons (.str _) .nil)))))
    all_goals
      have nW : ¬ (h = cWrite ∧ 3 ≤ r.length) := by
        rintro ⟨z1, z2⟩
        first | omega | exact c1 (by rw [z1]; decide)
      have rh : readH h r = if h = cSend ∧ 3 ≤ r.length then .tuple [strS h, strS (r.getD 0 []), strS (r.getD 1 []), if r.drop 2 = [[42]] then .none else .tuple (((r.drop 2).filter fun p => !p.isEmpty).map strS)]
        else if h = cPass ∨ h = cTake then .tuple ((h :: r).dropLast.map strS ++ [numR ((h :: r).getLastD [])])
        else .tuple ((h :: r).map strS) := if_neg nW
      rw [rh] at k
      walk_at "tx"
      refine r_ixL (v := .str (S h)) e1 (atI_nat (j := 0) rfl) ?_
      walk_at "tx"
      refine r_dec (fun c3 => ?_) (fun c3 => ?_)
      · walk_at "tx"
        rw [el]
        refine r_dec (fun c4 => ?_) (fun c4 => ?_)
        · have hh := word_send c3
          have h3 : 3 ≤ r.length := by omega
          rw [if_pos ⟨hh, h3⟩] at k
          obtain ⟨a, b, t, ts, rfl⟩ := three h3
          have e1 : H1 L1 = some (.lst (V.str (S h) :: V.str (S a) :: V.str (S b) :: ((t :: ts).map S).map V.str)) := e1
          have k : ∀ v H', Same H H' → Dd K H' v (.tuple [strS h, strS a, strS b, if (t :: ts) = [[42]] then .none else .tuple (((t :: ts).filter fun p => !p.isEmpty).map strS)]) → Q v H' := k
          have jl := jlen a b (t :: ts) rfl
          generalize hts : t :: ts = tt at *
          walk_at "tx"
          refine r_ixL (v := .str (S a)) e1 (atI_nat (j := 1) rfl) ?_
          walk_at "tx"
          refine r_ixL (v := .str (S b)) e1 (atI_nat (j := 2) rfl) ?_
          walk_at "tx"
          refine g_slL e1 fun L3 H3 n3 s3 e3 => ?_
          rw [cutV3] at e3
          walk_at "tx"
          refine a_lst (by simp) fun L4 H4 n4 s4 e4 => ?_
          walk_at "tx"
          refine ⟨_, _, .lst (s4 _ _ e3) (strs_data (tt.map S)), .lst e4 (strs_data [Str.ofString "*"]), strs_plain _, rfl, ?_, ?_⟩
          · show PyData.depthAll _ + 1 ≤ 60
            rw [strs_depth]
            decide
          have eq : PyData.eqv (.list ((tt.map S).map PyData.str)) (.list ([Str.ofString "*"].map PyData.str)) = decide (tt = [[42]]) := by
            show PyData.eqvAll _ _ = _
            rw [strs_eqv, Bool.eq_iff_iff, decide_eq_true_eq, decide_eq_true_eq]
            exact one_star tt
          rw [eq]
          walk_at "tx"
          refine r_dec (fun c5 => ?_) (fun c5 => ?_)
          · rw [if_pos c5] at k
            walk_at "tx"
            refine a_tup (by simp) fun T8 H8 n8 s8 e8 => ?_
            exact k _ H8 (s1.trans (s3.trans (s4.trans s8))) (.tup e8 (.cons (show Dd K H8 (V.str (Str.ofString "send")) (.str (S h)) by rw [c3]; exact .str _) (.cons (.str _) (.cons (.str _) (.cons .non .nil)))))
          · rw [if_neg c5] at k
            walk_at "tx"
            refine g_slL (s4 _ _ (s3 _ _ e1)) fun L5 H5 n5 s5 e5 => ?_
            rw [cutV3] at e5
            refine ⟨_, rfl, ⟨_, SqL.of e5⟩, ?_⟩
            refine lc_pure walk_list (fun H' s' => SqL.of (s' _ _ e5)) (by rw [List.length_map, List.length_map]; rw [List.length_map] at jl; omega) fullV (fun v => v) (fun x hx H6 R s6 q => ?_) (fun x hx _ H6 R s6 q => ?_) (fun D H6 hD s6 e6 => ?_)
            · obtain ⟨y, hy, rfl⟩ := List.mem_map.mp hx
              walk_at "tx"
              have z : fullV (.str y) = !decide (y = Str.ofString "") := by
                show (!(y == Str.ofString "")) = _
                congr 1
              rw [← z]
              exact q H6 (Same.refl H6)
            · walk_at "tx"
              exact q H6 (Same.refl H6)
            · rw [List.map_id', filt_strs] at e6
              walk_at "tx"
              refine r_tupOf e6 fun t7 H7 n7 s7 e7 => ?_
              walk_at "tx"
              refine a_tup (by simp) fun T8 H8 n8 s8 e8 => ?_
              refine k _ H8 (s1.trans (s3.trans (s4.trans (s5.trans (s6.trans (s7.trans s8)))))) (.tup e8 (.cons (show Dd K H8 (V.str (Str.ofString "send")) (.str (S h)) by rw [c3]; exact .str _) (.cons (.str _) (.cons (.str _) (.cons (.tup (s8 _ _ e7) ?_) .nil)))))
              have := strs_data (K := K) (H := H8) ((tt.filter fun p => !p.isEmpty).map S)
              rw [List.map_map (g := PyData.str)] at this
              exact this
        · (
        have nS : ¬ (h = cSend ∧ 3 ≤ r.length) := by
          rintro ⟨z1, z2⟩
          first | omega | exact c3 (by rw [z1]; decide)
        rw [if_neg nS] at k
        walk_at "tx"
        refine r_ixL (v := .str (S h)) e1 (atI_nat (j := 0) rfl) ?_
        walk_at "tx"
        refine a_lst (by simp) fun L4 H4 n4 s4 e4 => ?_
        walk_at "tx"
        refine r_inL e4 rfl rfl ?_
        rw [in_pt]
        walk_at "tx"
        refine r_dec (fun c5 => ?_) (fun c5 => ?_)
        · rw [if_pos c5] at k
          walk_at "tx"
          refine g_slL (s4 _ _ e1) fun L5 H5 n5 s5 e5 => ?_
          rw [cutV_last, drop_strs] at e5
          walk_at "tx"
          refine r_tupOf e5 fun t6 H6 n6 s6 e6 => ?_
          walk_at "tx"
          refine r_ixL (v := .str (S ((h :: r).getLastD []))) (s6 _ _ (s5 _ _ (s4 _ _ e1))) (atI_last h r) ?_
          have ll := short ((h :: r).getLastD []) (last_mem h r)
          refine ⟨_, rfl, by omega, fun v7 H7 s7 d7 => ?_⟩
          walk_at "tx"
          refine a_tup (by simp) fun T8 H8 n8 s8 e8 => ?_
          walk_at "tx"
          refine g_catD (ds := ((h :: r).dropLast.map S).map .str) (es := [numR ((h :: r).getLastD [])]) (.tup ((s7.trans s8) _ _ e6) (strs_data _)) (.tup e8 (.cons (Dd.same s8 _ _ d7) .nil)) (by simp; omega) fun v' H9 s9 d9 => ?_
          refine k _ H9 (s1.trans (s4.trans (s5.trans (s6.trans (s7.trans (s8.trans s9)))))) ?_
          rw [List.map_map] at d9
          exact d9
        · rw [if_neg c5] at k
          walk_at "tx"
          refine r_tupOf (s4 _ _ e1) fun t5 H5 n5 s5 e5 => ?_
          refine k _ H5 (s1.trans (s4.trans s5)) (.tup e5 ?_)
          have := strs_data (K := K) (H := H5) ((h :: r).map S)
          rw [List.map_map (g := PyData.str)] at this
          exact this)
      · (
        have nS : ¬ (h = cSend ∧ 3 ≤ r.length) := by
          rintro ⟨z1, z2⟩
          first | omega | exact c3 (by rw [z1]; decide)
        rw [if_neg nS] at k
        walk_at "tx"
        refine r_ixL (v := .str (S h)) e1 (atI_nat (j := 0) rfl) ?_
        walk_at "tx"
        refine a_lst (by simp) fun L4 H4 n4 s4 e4 => ?_
        walk_at "tx"
        refine r_inL e4 rfl rfl ?_
        rw [in_pt]
        walk_at "tx"
        refine r_dec (fun c5 => ?_) (fun c5 => ?_)
        · rw [if_pos c5] at k
          walk_at "tx"
          refine g_slL (s4 _ _ e1) fun L5 H5 n5 s5 e5 => ?_
          rw [cutV_last, drop_strs] at e5
          walk_at "tx"
          refine r_tupOf e5 fun t6 H6 n6 s6 e6 => ?_
          walk_at "tx"
          refine r_ixL (v := .str (S ((h :: r).getLastD []))) (s6 _ _ (s5 _ _ (s4 _ _ e1))) (atI_last h r) ?_
          have ll := short ((h :: r).getLastD []) (last_mem h r)
          refine ⟨_, rfl, by omega, fun v7 H7 s7 d7 => ?_⟩
          walk_at "tx"
          refine a_tup (by simp) fun T8 H8 n8 s8 e8 => ?_
          walk_at "tx"
          refine g_catD (ds := ((h :: r).dropLast.map S).map .str) (es := [numR ((h :: r).getLastD [])]) (.tup ((s7.trans s8) _ _ e6) (strs_data _)) (.tup e8 (.cons (Dd.same s8 _ _ d7) .nil)) (by simp; omega) fun v' H9 s9 d9 => ?_
          refine k _ H9 (s1.trans (s4.trans (s5.trans (s6.trans (s7.trans (s8.trans s9)))))) ?_
          rw [List.map_map] at d9
          exact d9
        · rw [if_neg c5] at k
          walk_at "tx"
          refine r_tupOf (s4 _ _ e1) fun t5 H5 n5 s5 e5 => ?_
          refine k _ H5 (s1.trans (s4.trans s5)) (.tup e5 ?_)
          have := strs_data (K := K) (H := H5) ((h :: r).map S)
          rw [List.map_map (g := PyData.str)] at this
          exact this)
end
end K07

set_option Elab.async false
set_option linter.all false
set_option maxRecDepth 100000
set_option maxHeartbeats 4000000
namespace K07
open PySem PySem.Spec PyProof.Rows L2 Tk TkM TkP TkR CwR SX
local macro_rules | `(tactic| walk_at "rd1") => `(tactic| first
  | with_reducible refine r_seq ?_
  | ((with_reducible refine r_var (v := ?vv) ?hrv ?_); (case hrv => rfl))
  | with_reducible refine r_c ?_
  | with_reducible refine r_op ?_
  | ((with_reducible refine r_ixL (xs := ?xx) (v := ?vv) ?hh ?he ?_); (case hh => first | assumption | exact upd_same); (case he => rfl))
  | with_reducible refine r_asg ?_
  | with_reducible refine r_sub ?_
  | ((with_reducible refine r_gTup (xs := ?xx) ?hh ?he ?_); (case hh => assumption); (case he => rfl))
  | with_reducible refine r_gCons ?_
  | with_reducible refine r_gNil ?_
  | ((with_reducible refine r_setL (xs := ?xx) (j := ?vv) ?hh ?he ?_); (case hh => first | assumption | exact upd_same); (case he => rfl))
  | with_reducible refine r_pow15 ?_
  | with_reducible refine r_pow18 ?_
  | with_reducible refine r_repr ?_
  | with_reducible refine iteT ?_
  | with_reducible refine iteF ?_
  | with_reducible refine r_cons ?_
  | with_reducible refine r_nil ?_
  | with_reducible refine r_call ?_
  | with_reducible refine r_cb ?_
  | with_reducible refine r_ret ?_
  | with_reducible refine r_gName ?_
  | with_reducible refine r_next ?_
  | with_reducible refine r_ifS ?_
  | with_reducible refine r_un ?_
  | with_reducible refine r_U ?_
  | with_reducible refine r_max2 ?_
  | with_reducible refine r_min2 ?_
  | with_reducible refine r_sl ?_
  | with_reducible refine r_noPart ?_
  | with_reducible refine r_part ?_
  | with_reducible refine r_inti ?_
  | with_reducible refine r_lc ?_
  | with_reducible refine r_for ?_
  | with_reducible refine r_rng1 ?_
  | with_reducible refine r_iList ?_
  | with_reducible refine r_iTup ?_
  | with_reducible refine r_iStr ?_
  | with_reducible refine r_strx ?_
  | ((with_reducible refine r_j ?hh ?hi ?_); (case hh => omega); (case hi => omega))
  | with_reducible refine r_m1 ?_
  | with_reducible refine r_test ?_
  | with_reducible refine r_B ?_
  | with_reducible refine r_not ?_
  | with_reducible refine r_and ?_
  | with_reducible refine r_or ?_
  | with_reducible refine r_andV ?_
  | with_reducible refine r_orV ?_
  | with_reducible refine r_notV ?_
  | with_reducible refine r_if ?_
  | with_reducible refine r_chain ?_
  | with_reducible refine r_lst ?_
  | with_reducible refine r_tup ?_
  | with_reducible refine r_k ?_
  | ((with_reducible refine r_isiS (d := ?dd) ?hh ?_); (case hh => assumption))
  | ((with_reducible refine r_isiT (d := ?dd) ?hh ?_); (case hh => assumption))
  | ((with_reducible refine r_isiI (d := ?dd) ?hh ?_); (case hh => assumption))
  | ((with_reducible refine r_isiB (d := ?dd) ?hh ?_); (case hh => assumption))
  | ((with_reducible refine r_lenS ?hh ?_); (case hh => assumption))
  | ((with_reducible refine r_lenT (xs := ?dd) ?hh ?_); (case hh => assumption))
  | ((with_reducible refine r_ixT (xs := ?xx) (v := ?vv) ?hh ?he ?_); (case hh => assumption); (case he => rfl))
  | with_reducible refine r_isN ?_
  | with_reducible refine r_I0 ?_
  | with_reducible refine g_addI ?_
  | ((with_reducible refine r_mod ?hh ?_); (case hh => first | decide | omega))
  | ((with_reducible refine r_div ?hh ?hi ?_); (case hh => first | decide | omega); (case hi => first | decide | omega))
  | ((with_reducible refine g_mulB ?hh ?hi ?_); (case hh => omega); (case hi => omega))
  | with_reducible refine g_ltI ?_
  | with_reducible refine g_leI ?_
  | with_reducible refine g_gtI ?_
  | with_reducible refine g_geI ?_
  | with_reducible refine g_eqI ?_
  | with_reducible refine g_neI ?_
  | with_reducible refine g_eqS ?_
  | with_reducible refine g_neS ?_
  | with_reducible refine g_leS ?_
  | with_reducible refine g_ltS ?_)
local macro_rules | `(tactic| walk_at "rd") => `(tactic| repeat (walk_at "rd1"))
local macro_rules | `(tactic| walk_at "ed") => `(tactic| repeat first
  | exact ed_int
  | exact ed_str
  | exact ed_bl
  | exact ed_non
  | exact ed_nil
  | exact ed_dct
  | exact ed_neg
  | with_reducible apply ed_cons
  | with_reducible apply ed_tup
  | with_reducible apply ed_lst
  | exact Nat.le_of_ble_eq_true rfl)
local macro_rules | `(tactic| walk_at "tx1") => `(tactic| first
  | walk_at "rd1"
  | with_reducible refine r_callS ?_
  | with_reducible refine r_zipA ?_
  | with_reducible refine r_par ?_
  | with_reducible refine r_pair ?_
  | with_reducible refine r_pow6 ?_
  | with_reducible refine r_m0 ?_
  | with_reducible refine r_bm ?_
  | with_reducible refine r_isS ?_
  | with_reducible refine r_told ?_
  | with_reducible refine r_js ?_
  | with_reducible refine r_jsNil ?_
  | with_reducible refine r_repl ?_
  | ((with_reducible refine r_gLst (xs := ?xx) ?hh ?he ?_); (case hh => assumption); (case he => rfl))
  | ((with_reducible refine r_lenL (xs := ?xx) ?hh ?_); (case hh => assumption)))
local macro_rules | `(tactic| walk_at "tx") => `(tactic| repeat (walk_at "tx1"))
section
variable {t1 t2 t3 t4 : Tok} {P : Program} {w : World} {K : PySem.W.Frag} {mg : Str → Option Value} {base : Heap}
def rInSgn : R2 := fun x y H Q => ∃ (c : Nat) (z : Str), x = .str ⟨#[c]⟩ ∧ y = .str z ∧ Q (.bl (decide (c ∈ z.cps.toList))) H
theorem k_inSign {X : Cx} : OpR X (compareOp .In) rInSgn := op_in_sign
theorem joinL_all {P : Nat → Prop} (h32 : P 32) : ∀ (ts : List (List Nat)), (∀ t ∈ ts, ∀ c ∈ t, P c) → ∀ c ∈ TL.joinL [32] ts, P c
  | [], _, c, hc => by cases hc
  | [t], h, c, hc => h t List.mem_cons_self c hc
  | t :: u :: r, h, c, hc => by
    rcases List.mem_append.mp (show c ∈ t ++ ([32] ++ TL.joinL [32] (u :: r)) from hc) with hc | hc
    · exact h t List.mem_cons_self c hc
    · rcases List.mem_append.mp hc with hc | hc
      · rw [List.mem_singleton.mp hc]; exact h32
      · exact joinL_all h32 (u :: r) (fun v hv => h v (List.mem_cons_of_mem _ hv)) c hc
theorem word_lo {x : List Nat} (h : wordS (S x) = true) : ∀ c ∈ x, 32 ≤ c ∧ c < 128 := by
  intro c hc
  unfold wordS at h
  rw [Bool.and_eq_true] at h
  have := List.all_eq_true.mp h.2 c hc
  unfold lowB at this
  rw [Bool.and_eq_true, decide_eq_true_eq, decide_eq_true_eq] at this
  omega
theorem num_lo (n : Nat) : ∀ c ∈ TL.numL n, 32 ≤ c ∧ c < 128 := fun c hc => by
  have := TL.numL_digits n c hc
  omega
theorem esc_lo {v : List Nat} (h : ∀ c ∈ v, 32 ≤ c ∧ c < 128) : ∀ c ∈ esc v, 32 ≤ c ∧ c < 128 := by
  intro c hc
  unfold esc at hc
  obtain ⟨d, hd, hc⟩ := List.mem_flatMap.mp hc
  have := h d hd
  split at hc
  · rcases List.mem_cons.mp hc with rfl | hc
    · omega
    · rw [List.mem_singleton.mp hc]; omega
  · rw [List.mem_singleton.mp hc]; omega
theorem partT_lo {k : Str} {d : PyData} (h5 : k ∈ five) (hk : kindD k d = true) : ∀ c ∈ partT k d, 32 ≤ c ∧ c < 128 := by
  unfold five at h5
  simp only [List.mem_cons, List.not_mem_nil, or_false] at h5
  rcases h5 with rfl | rfl | rfl | rfl | rfl
  · rw [kd_word] at hk
    obtain ⟨a, rfl, w⟩ := word_txt hk
    exact word_lo w
  · rw [kd_value] at hk
    cases d with
    | str x =>
      have l := shown_lo (v := x.cps.toList) (by rw [S_tl]; exact hk)
      intro c hc
      rcases List.mem_cons.mp (show c ∈ 34 :: (esc x.cps.toList ++ [34]) from hc) with rfl | hc
      · omega
      · rcases List.mem_append.mp hc with hc | hc
        · exact esc_lo (fun c hc => by have := l c hc; omega) c hc
        · rw [List.mem_singleton.mp hc]; omega
    | _ => cases hk
  · rw [kd_number] at hk
    cases d with
    | int i => exact num_lo _
    | _ => cases hk
  · rw [kd_index] at hk
    cases d with
    | int i => exact num_lo _
    | _ => cases hk
  · rw [kd_keys, Bool.or_eq_true] at hk
    rcases hk with hk | hk
    · cases d <;> first | (intro c hc; rw [List.mem_singleton.mp (show c ∈ [42] from hc)]; omega) | cases hk
    · cases d with
      | tuple ds =>
        unfold ascD at hk
        rw [Bool.and_eq_true] at hk
        refine joinL_all (P := fun c => 32 ≤ c ∧ c < 128) (by omega) (keysT ds) fun t ht => ?_
        unfold keysT at ht
        obtain ⟨d, hd, rfl⟩ := List.mem_map.mp ht
        obtain ⟨a, rfl, w⟩ := word_txt (List.all_eq_true.mp hk.1 d hd)
        exact word_lo w
      | _ => cases hk
theorem partsT_lo : ∀ {f : List Str} {ds : List PyData}, (∀ k ∈ f, k ∈ five) → partsD f ds = true → ∀ t ∈ partsT f ds, ∀ c ∈ t, 32 ≤ c ∧ c < 128
  | k :: f, d :: ds, h5, hp, t, ht => by
    rw [partsD, Bool.and_eq_true] at hp
    rcases List.mem_cons.mp (show t ∈ partT k d :: partsT f ds from ht) with rfl | ht
    · exact partT_lo (h5 _ List.mem_cons_self) hp.1
    · exact partsT_lo (fun k hk => h5 k (List.mem_cons_of_mem _ hk)) hp.2 t ht
  | [], _, _, _, _, ht => by cases ht
  | _ :: _, [], _, _, _, ht => by cases ht
theorem evT_lo {d : PyData} (h : eventD d = true) : ∀ c ∈ evT d, 32 ≤ c ∧ c < 128 := by
  obtain ⟨w, f, rest, rfl, hw, hf, hs, hp, et⟩ := event_is h
  rw [et]
  refine joinL_all (P := fun c => 32 ≤ c ∧ c < 128) (by omega) _ fun t ht => ?_
  rcases List.mem_cons.mp ht with rfl | ht
  · exact word_lo hw
  · exact partsT_lo (shape_five hs) hp t ht
/-- the two readers agree -/
theorem due_is {x : Str} : evOf (.str x) = if eventD (readV x) = true ∧ evT (readV x) = TL.tl x then some (readV x) else none := by
  show (if eventD (likV x) = true ∧ evT (likV x) = TL.tl x then some (likV x) else none) = _
  by_cases a : eventD (likV x) = true ∧ evT (likV x) = TL.tl x
  · have e : readV x = likV x := by
      have z := read_ev a.1
      rw [a.2] at z
      rw [show S (TL.tl x) = x from S_tl x] at z
      exact z
    rw [if_pos a, e, if_pos a]
  · rw [if_neg a]
    by_cases b : eventD (readV x) = true ∧ evT (readV x) = TL.tl x
    · have e : likV x = readV x := by
        have z := lik_ev b.1
        rw [b.2] at z
        rw [show S (TL.tl x) = x from S_tl x] at z
        exact z
      rw [e] at a
      exact absurd b a
    · rw [if_neg b]
theorem ev_back {d : PyData} (h : eventD d = true) : evOf (.str (S (evT d))) = some d := by
  show (if eventD (likV (S (evT d))) = true ∧ evT (likV (S (evT d))) = TL.tl (S (evT d)) then some (likV (S (evT d))) else none) = _
  rw [lik_ev h, if_pos ⟨h, rfl⟩]
theorem due_odd {x : Str} {c : Nat} (hc : c < 32) (m : c ∈ x.cps.toList) : evOf (.str x) = none := by
  show (if eventD (likV x) = true ∧ evT (likV x) = TL.tl x then some (likV x) else none) = _
  rw [if_neg]
  rintro ⟨a, b⟩
  have := evT_lo a c (by rw [b]; exact m)
  omega
def optE : Option PyData → PyData
  | none => .none
  | some e => e
theorem unqL_len {x : Str} (h : x.length ≤ 6001) : (unqL x).length ≤ 100000 := by
  have b0 := cutS_len x (some 1) (some (-1))
  have b1 : (Txt.replace (cutS x (some 1) (some (-1))) (S [92, 92]) (S [10])).length ≤ 6001 + (6001 + 1) * 1 := repl_le (Nat.le_trans b0 h) (by decide)
  have b2 : (Txt.replace (Txt.replace (cutS x (some 1) (some (-1))) (S [92, 92]) (S [10])) (S [92, 34]) (S [9])).length ≤ 12003 + (12003 + 1) * 1 := repl_le b1 (by decide)
  have b3 : (Txt.replace (Txt.replace (Txt.replace (cutS x (some 1) (some (-1))) (S [92, 92]) (S [10])) (S [92, 34]) (S [9])) (S [10]) (S [92])).length ≤ 24007 + (24007 + 1) * 1 := repl_le b2 (by decide)
  have b4 : (unqL x).length ≤ 48015 + (48015 + 1) * 1 := repl_le b3 (by decide)
  omega
theorem read_parts {x : Str} (hx : x.length ≤ 6000) : ∀ p ∈ TL.spl [32] 0 [] (TL.tl x), p.length ≤ 6000 := by
  intro p hp
  have e := split_S (a := x.cps.toList) (b := [32]) (by simp) (by decide)
  rw [S_tl] at e
  have := split_le x (S [32]) (S p) (by rw [e]; exact List.mem_map_of_mem hp)
  rw [S_len] at this
  omega
theorem strs_ok {ps : List (List Nat)} (h : ∀ p ∈ ps, p.length ≤ 6000) : ∀ d ∈ ps.map strS, okD d := fun d hd => by
  obtain ⟨p, hp, rfl⟩ := List.mem_map.mp hd
  have := h p hp
  show (S p).length ≤ 100000
  rw [S_len]
  omega
theorem okD_readV {x : Str} (hx : x.length ≤ 6000) : okD (readV x) := by
  have short := read_parts hx
  have few := split_few (TL.tl x)
  have hl : (TL.tl x).length = x.length := by
    show x.cps.toList.length = x.length
    rw [Array.length_toList]
    rfl
  have jn := spl_joined 32 (TL.tl x) []
  unfold readV
  have jl : ∀ a b c r, TL.spl [32] 0 [] (TL.tl x) = a :: b :: c :: r → (TL.joinL [32] r).length ≤ 6001 := fun a b c r e => by
    rw [e] at jn
    have : (TL.joinL [32] (a :: b :: c :: r)).length = (TL.tl x).length := by rw [jn]; rfl
    cases r with
    | nil => simp [TL.joinL]
    | cons d r =>
      have z : (TL.joinL [32] (a :: b :: c :: d :: r)).length = a.length + (1 + (b.length + (1 + (c.length + (1 + (TL.joinL [32] (d :: r)).length))))) := by
        show (a ++ ([32] ++ (b ++ ([32] ++ (c ++ ([32] ++ TL.joinL [32] (d :: r))))))).length = _
        simp only [List.length_append, List.length_singleton]
      omega
  generalize TL.spl [32] 0 [] (TL.tl x) = ws at *
  cases ws with
  | nil => trivial
  | cons h r =>
    have lh := short h (by simp)
    have sh : okD (strS h) := by
      show (S h).length ≤ 100000
      rw [S_len]
      omega
    have gd : ∀ n, okD (strS (r.getD n [])) := fun n => by
      show (S _).length ≤ 100000
      rw [S_len, List.getD_eq_getElem?_getD]
      cases e : r[n]? with
      | none => simp
      | some p =>
        have := short p (List.mem_cons_of_mem _ (List.mem_of_getElem? e))
        show p.length ≤ _
        omega
    show okD (readH h r)
    unfold readH
    split
    · rename_i c
      obtain ⟨c1, c2⟩ := c
      match r, c2 with
      | a :: b :: t :: ts, _ =>
        have z := jl h a b (t :: ts) rfl
        refine ⟨by simp, sh, gd 0, gd 1, ?_, trivial⟩
        exact unqL_len (by rw [S_len]; exact z)
    · split
      · refine ⟨by simp, sh, gd 0, gd 1, ?_, trivial⟩
        split
        · trivial
        · refine ⟨?_, okAll_iff.mpr (strs_ok fun p hp => short p (List.mem_cons_of_mem _ (List.mem_of_mem_drop ((List.mem_filter.mp hp).1))))⟩
          rw [List.length_map]
          have a1 := List.length_filter_le (fun p : List Nat => !p.isEmpty) (r.drop 2)
          rw [List.length_drop] at a1
          rw [List.length_cons] at few
          omega
      · split
        · refine ⟨?_, okAll_iff.mpr fun d hd => ?_⟩
          · rw [List.length_append, List.length_map, List.length_dropLast]
            simp at *
            omega
          · rcases List.mem_append.mp hd with hd | hd
            · exact strs_ok (fun p hp => short p ((List.dropLast_subset _) hp)) d hd
            · rw [List.mem_singleton.mp hd]
              unfold numR
              split <;> trivial
        · refine ⟨?_, okAll_iff.mpr (strs_ok short)⟩
          rw [List.length_map]
          omega
theorem few_strs {ps : List (List Nat)} : ∀ d ∈ ps.map strS, fewD d := fun d hd => by
  obtain ⟨p, _, rfl⟩ := List.mem_map.mp hd
  trivial
/-- keys come of few parts -/
theorem few_readH {h : List Nat} {r : List (List Nat)} (hr : h = cSend → r.length ≤ 62) : fewI (readH h r) := by
  unfold readH
  split
  · intro d hd
    simp only [List.mem_cons, List.not_mem_nil, or_false] at hd
    rcases hd with rfl | rfl | rfl | rfl <;> trivial
  · split
    · rename_i c
      have l := hr c.1
      intro d hd
      simp only [List.mem_cons, List.not_mem_nil, or_false] at hd
      rcases hd with rfl | rfl | rfl | rfl
      · trivial
      · trivial
      · trivial
      · split
        · trivial
        · show (((r.drop 2).filter fun p => !p.isEmpty).map strS).length ≤ 60
          rw [List.length_map]
          have a1 := List.length_filter_le (fun p : List Nat => !p.isEmpty) (r.drop 2)
          rw [List.length_drop] at a1
          omega
    · split
      · intro d hd
        rcases List.mem_append.mp hd with hd | hd
        · exact few_strs d hd
        · rw [List.mem_singleton.mp hd]
          unfold numR
          split <;> trivial
      · exact few_strs
theorem few_readV {x : Str} (hx : x.length ≤ 59) : fewI (readV x) := by
  have few := split_few (TL.tl x)
  have hl : (TL.tl x).length = x.length := by
    show x.cps.toList.length = x.length
    rw [Array.length_toList]
    rfl
  unfold readV
  generalize TL.spl [32] 0 [] (TL.tl x) = ws at *
  cases ws with
  | nil => trivial
  | cons h r =>
    rw [List.length_cons] at few
    exact few_readH fun _ => by omega
end
end K07

set_option Elab.async false
set_option linter.all false
set_option maxRecDepth 100000
set_option maxHeartbeats 4000000
namespace K07
open PySem PySem.Spec PyProof.Rows L2 Tk TkM TkP TkR CwR SX
local macro_rules | `(tactic| walk_at "rd1") => `(tactic| first
  | with_reducible refine r_seq ?_
  | ((with_reducible refine r_var (v := ?vv) ?hrv ?_); (case hrv => rfl))
  | with_reducible refine r_c ?_
  | with_reducible refine r_op ?_
  | ((with_reducible refine r_ixL (xs := ?xx) (v := ?vv) ?hh ?he ?_); (case hh => first | assumption | exact upd_same); (case he => rfl))
  | with_reducible refine r_asg ?_
  | with_reducible refine r_sub ?_
  | ((with_reducible refine r_gTup (xs := ?xx) ?hh ?he ?_); (case hh => assumption); (case he => rfl))
  | with_reducible refine r_gCons ?_
  | with_reducible refine r_gNil ?_
  | ((with_reducible refine r_setL (xs := ?xx) (j := ?vv) ?hh ?he ?_); (case hh => first | assumption | exact upd_same); (case he => rfl))
  | with_reducible refine r_pow15 ?_
  | with_reducible refine r_pow18 ?_
  | with_reducible refine r_repr ?_
  | with_reducible refine iteT ?_
  | with_reducible refine iteF ?_
  | with_reducible refine r_cons ?_
  | with_reducible refine r_nil ?_
  | with_reducible refine r_call ?_
  | with_reducible refine r_cb ?_
  | with_reducible refine r_ret ?_
  | with_reducible refine r_gName ?_
  | with_reducible refine r_next ?_
  | with_reducible refine r_ifS ?_
  | with_reducible refine r_un ?_
  | with_reducible refine r_U ?_
  | with_reducible refine r_max2 ?_
  | with_reducible refine r_min2 ?_
  | with_reducible refine r_sl ?_
  | with_reducible refine r_noPart ?_
  | with_reducible refine r_part ?_
  | with_reducible refine r_inti ?_
  | with_reducible refine r_lc ?_
  | with_reducible refine r_for ?_
  | with_reducible refine r_rng1 ?_
  | with_reducible refine r_iList ?_
  | with_reducible refine r_iTup ?_
  | with_reducible refine r_iStr ?_
  | with_reducible refine r_strx ?_
  | ((with_reducible refine r_j ?hh ?hi ?_); (case hh => omega); (case hi => omega))
  | with_reducible refine r_m1 ?_
  | with_reducible refine r_test ?_
  | with_reducible refine r_B ?_
  | with_reducible refine r_not ?_
  | with_reducible refine r_and ?_
  | with_reducible refine r_or ?_
  | with_reducible refine r_andV ?_
  | with_reducible refine r_orV ?_
  | with_reducible refine r_notV ?_
  | with_reducible refine r_if ?_
  | with_reducible refine r_chain ?_
  | with_reducible refine r_lst ?_
  | with_reducible refine r_tup ?_
  | with_reducible refine r_k ?_
  | ((with_reducible refine r_isiS (d := ?dd) ?hh ?_); (case hh => assumption))
  | ((with_reducible refine r_isiT (d := ?dd) ?hh ?_); (case hh => assumption))
  | ((with_reducible refine r_isiI (d := ?dd) ?hh ?_); (case hh => assumption))
  | ((with_reducible refine r_isiB (d := ?dd) ?hh ?_); (case hh => assumption))
  | ((with_reducible refine r_lenS ?hh ?_); (case hh => assumption))
  | ((with_reducible refine r_lenT (xs := ?dd) ?hh ?_); (case hh => assumption))
  | ((with_reducible refine r_ixT (xs := ?xx) (v := ?vv) ?hh ?he ?_); (case hh => assumption); (case he => rfl))
  | with_reducible refine r_isN ?_
  | with_reducible refine r_I0 ?_
  | with_reducible refine g_addI ?_
  | ((with_reducible refine r_mod ?hh ?_); (case hh => first | decide | omega))
  | ((with_reducible refine r_div ?hh ?hi ?_); (case hh => first | decide | omega); (case hi => first | decide | omega))
  | ((with_reducible refine g_mulB ?hh ?hi ?_); (case hh => omega); (case hi => omega))
  | with_reducible refine g_ltI ?_
  | with_reducible refine g_leI ?_
  | with_reducible refine g_gtI ?_
  | with_reducible refine g_geI ?_
  | with_reducible refine g_eqI ?_
  | with_reducible refine g_neI ?_
  | with_reducible refine g_eqS ?_
  | with_reducible refine g_neS ?_
  | with_reducible refine g_leS ?_
  | with_reducible refine g_ltS ?_)
local macro_rules | `(tactic| walk_at "rd") => `(tactic| repeat (walk_at "rd1"))
local macro_rules | `(tactic| walk_at "ed") => `(tactic| repeat first
  | exact ed_int
  | exact ed_str
  | exact ed_bl
  | exact ed_non
  | exact ed_nil
  | exact ed_dct
  | exact ed_neg
  | with_reducible apply ed_cons
  | with_reducible apply ed_tup
  | with_reducible apply ed_lst
  | exact Nat.le_of_ble_eq_true rfl)
local macro_rules | `(tactic| walk_at "tx1") => `(tactic| first
  | walk_at "rd1"
  | with_reducible refine r_callS ?_
  | with_reducible refine r_zipA ?_
  | with_reducible refine r_par ?_
  | with_reducible refine r_pair ?_
  | with_reducible refine r_pow6 ?_
  | with_reducible refine r_m0 ?_
  | with_reducible refine r_bm ?_
  | with_reducible refine r_isS ?_
  | with_reducible refine r_told ?_
  | with_reducible refine r_js ?_
  | with_reducible refine r_jsNil ?_
  | with_reducible refine r_repl ?_
  | ((with_reducible refine r_gLst (xs := ?xx) ?hh ?he ?_); (case hh => assumption); (case he => rfl))
  | ((with_reducible refine r_lenL (xs := ?xx) ?hh ?_); (case hh => assumption)))
local macro_rules | `(tactic| walk_at "tx") => `(tactic| repeat (walk_at "tx1"))
section
variable {t1 t2 t3 t4 : Tok} {P : Program} {w : World} {K : PySem.W.Frag} {mg : Str → Option Value} {base : Heap}
/-- things that the law's readers are asked of -/
structure AskT (d : PyData) : Prop where
  txt : ∀ x, d = .str x → x.length ≤ 6000 ∧ fewI (likV x) ∧ fewI (readV x)
def spDue (K : PySem.W.Frag) : Sp := fun vs H Q _ => ∃ (v : V) (d : PyData), vs = [v] ∧ Dd K H v d ∧ AskT d ∧ ∀ v' H', Same H H' → Dd K H' v' (optE (evOf d)) → Q v' H'
abbrev s_L_due : Stmt := top 35
abbrev n_L_due : List Str := ["_law_text", "_law_event"]
abbrev p_L_due : List Str := ["_law_text"]
theorem sc_L_due : FnScope n_L_due p_L_due (defScope s_L_due) := ⟨rfl, rfl, rfl, by decide +kernel, rfl, by decide +kernel, by decide +kernel⟩
theorem ok_L_due (T : Txt mg t1 t2 t3 t4) {f : Addr} {fd : FuncData} (F : Fun K "_law_due" "_law_due" s_L_due f fd) (K_L_read : Cal P w K mg base CX0 4 "_law_read" p_L_read (spReadV K)) (K_is_event : Cal P w K mg base CX0 4 "is_event" p_is_event (spEvt K)) (K_L_written : Cal P w K mg base CX0 4 "_law_written" p_L_written (spWritten K)) :
    FnOk P w K mg base CX0 5 f fd p_L_due (spDue K) := by
  refine F.ok sc_L_due (fun vs H Q E h => by obtain ⟨v, d, rfl, _⟩ := h; rfl) (fun cdv A outer s H vs Q E hr h => ?_)
  obtain ⟨v, d, rfl, hd, ask, k⟩ := h
  have hu := hr.units
  refine ⟨_, (pss_cons (ps_if (PW.pt (pw_or (pt_not (pt_val (pe_callB k_isi (by rfl) T.z_isinstance (by decide +kernel) (pa_cons (pv 0) (pa_cons (pe_bltn (v := .ty "str") rfl T.z_str (by decide +kernel) rfl) pa_nil))))) (pw_or (pt_cmpR k_inSign pe_str (pv 0) rfl) (pw_or1 (pt_cmpR k_inSign pe_str (pv 0) rfl))))) (pss_one (ps_ret pe_non)) pss_nil)
      (pss_cons (ps_set (i := 1) sc_L_due.nd rfl (by first | exact Or.inl rfl | exact Or.inr rfl) (pe_cal K_L_read (hr.mono (by decide)) pass0 (pa_cons (pv 0) pa_nil)))
      (pss_one (ps_ret (pe_ifExp (PW.pt (pw_and (pt_val (pe_cal K_is_event (hr.mono (by decide)) pass0 (pa_cons (pv 1) pa_nil))) (pw_and1 (pt_cmpR (k_eq hu) (pe_cal K_L_written (hr.mono (by decide)) pass0 (pa_cons (pv 1) pa_nil)) (pv 0) (nomark _))))) (pv 1) pe_non))))), ?_⟩
  walk_at "tx"
  have none_ : evOf d = none → ∀ H', Same H H' → Q .non H' := fun e H' s' => k _ H' s' (by rw [e]; exact .non)
  rcases str_or d with ⟨x, rfl⟩ | hn
  · rw [isStr]
    obtain ⟨hx, hf1, hf2⟩ := ask.txt x rfl
    cases hd
    refine iteF ?_
    walk_at "tx"
    refine ⟨10, x, rfl, rfl, ?_⟩
    walk_at "tx"
    refine r_dec (fun c1 => ?_) (fun c1 => ?_)
    · walk_at "tx"
      exact none_ (due_odd (c := 10) (by decide) c1) H (Same.refl H)
    walk_at "tx"
    refine ⟨9, x, rfl, rfl, ?_⟩
    walk_at "tx"
    refine r_dec (fun c2 => ?_) (fun c2 => ?_)
    · walk_at "tx"
      exact none_ (due_odd (c := 9) (by decide) c2) H (Same.refl H)
    walk_at "tx"
    refine ⟨x.cps.toList, by rw [S_tl]; rfl, by have : x.cps.toList.length = x.length := (by rw [Array.length_toList]; rfl); omega, fun v1 H1 s1 d1 => ?_⟩
    rw [S_tl] at d1
    walk_at "tx"
    refine ⟨v1, readV x, rfl, d1, okD_readV hx, hf2, fun H2 s2 => ?_⟩
    walk_at "tx"
    refine r_bool (fun c3 => ?_) (fun c3 => ?_)
    · walk_at "tx"
      refine ⟨v1, readV x, rfl, Dd.same s2 _ _ d1, c3, hf2, fun H3 s3 => ?_⟩
      walk_at "tx"
      refine r_dec (fun c4 => ?_) (fun c4 => ?_)
      · walk_at "tx"
        refine k _ H3 (s1.trans (s2.trans s3)) ?_
        rw [due_is, if_pos ⟨c3, congrArg TL.tl c4⟩]
        exact Dd.same (s2.trans s3) _ _ d1
      · walk_at "tx"
        refine none_ ?_ H3 (s1.trans (s2.trans s3))
        rw [due_is, if_neg]
        rintro ⟨_, z⟩
        exact c4 (by rw [z])
    · walk_at "tx"
      refine none_ ?_ H2 (s1.trans s2)
      rw [due_is, if_neg]
      rintro ⟨z, _⟩
      rw [c3] at z
      cases z
  · rw [isNotStr hn]
    refine iteT ?_
    walk_at "tx"
    refine none_ ?_ H (Same.refl H)
    cases d <;> first | rfl | exact absurd rfl (hn _)
def spForm (K : PySem.W.Frag) : Sp := fun vs H Q _ => ∃ (v : V) (d : PyData), vs = [v] ∧ Dd K H v d ∧ okD d ∧ fewI d ∧ Shows d ∧ eventD d = false ∧ ∀ v' H', Same H H' → Dd K H' v' (.list [.str "event", .str d.shown, .bool true]) → Q v' H'
abbrev s_L_formatted : Stmt := top 37
abbrev n_L_formatted : List Str := ["_law_thing", "_law_kept", "e"]
abbrev p_L_formatted : List Str := ["_law_thing"]
theorem sc_L_formatted : FnScope n_L_formatted p_L_formatted (defScope s_L_formatted) := ⟨rfl, rfl, rfl, by decide +kernel, rfl, by decide +kernel, by decide +kernel⟩
theorem ok_L_formatted {CB : Addr} (T : Txt mg t1 t2 t3 t4) (R_BadEvent : ExcR P w K mg base "BadEvent" CB) (hV : PySem.W.subIn K (.ref CB) (.type "ValueError") = some true) {f : Addr} {fd : FuncData} (F : Fun K "_law_formatted" "_law_formatted" s_L_formatted f fd)
    (K_format_event : Cal P w K mg base (L2.CX P w) 5 "format_event" p_format_event (spFmtE K CB)) : FnG P w K mg base CX0 6 f fd p_L_formatted (spForm K) := by
  refine funG0 F sc_L_formatted (fun vs H Q E h => by obtain ⟨v, d, rfl, _⟩ := h; rfl) (fun cdv A outer s H vs Q E gd hr h => ?_)
  obtain ⟨v, d, rfl, hd, ho, hf, hs, hn, k⟩ := h
  obtain ⟨fI, fdI, XC_BadEvent, bI, FI⟩ := R_BadEvent.cls
  have hu := hr.units
  refine ⟨_, (pss_cons (ps_set (i := 1) sc_L_formatted.nd rfl (by first | exact Or.inl rfl | exact Or.inr rfl) pe_non)
      (pss_cons (ps_try_as (i := 2) (Wout := fun _ _ _ _ => False) rfl rfl sc_L_formatted.nd rfl rfl ⟨rfl, by decide, Or.inl XC_BadEvent.gC⟩ takes0
      (fun W pn xe tk _ => (pss_one (ps_set (i := 1) sc_L_formatted.nd rfl (by first | exact Or.inl rfl | exact Or.inr rfl) (pe_calS K_format_event (hr.mono (by decide)) (fun σ => passAt tk σ) (pa_cons (pv 0) pa_nil)))))
      (fun a oe cls d pn hz hf => (pss_one (ps_set (i := 1) sc_L_formatted.nd rfl (by first | exact Or.inl rfl | exact Or.inr rfl) (pe_lst (pa_cons pe_str (pa_cons (pe_callB (call_reprD gd hu) (by rfl) T.z_repr (by decide +kernel) (pa_cons (pe_xf XC_BadEvent.xf XC_BadEvent.nv hz hf (pv 2)) pa_nil)) (pa_cons (pe_callB (call_isE2 hz hf) (by rfl) T.z_isinstance (by decide +kernel) (pa_cons (pv 2) (pa_cons (pe_bltn (v := .ty "ValueError") rfl T.z_ValueError (by decide +kernel) rfl) pa_nil))) pa_nil))))))))
      (pss_one (ps_ret (pv 1))))), ?_⟩
  walk_at "tx"
  refine ⟨v, d, rfl, hd, ho, hf, fun e => (by rw [hn] at e; cases e), fun _ dx H1 n1 s1 e1 => ?_⟩
  refine ⟨true, XC_BadEvent.te, fun _ a0 n0 => ?_, fun q => nomatch q⟩
  walk_at "tx"
  refine r_xfVar rfl e1 ?_
  walk_at "tx"
  refine r_reprD (Dd.same s1 _ _ hd) hs ?_
  walk_at "tx"
  refine r_isE2 (cv := .type "ValueError") e1 (fun u r => r) (.inr (by kernel_rfl)) (.inl ⟨_, rfl⟩) hV ?_
  walk_at "tx"
  refine a_lst (by simp) fun L2 H2 n2 s2 e2 => ?_
  walk_at "tx"
  exact k _ _ (s1.trans s2) (.lst e2 (.cons (.str _) (.cons (.str _) (.cons (.bl _) .nil))))
/-- what parse_event tells, as data -/
def parsedD (d : PyData) : PyData := match evOf d with
  | some e => e
  | none => .list [.str "text", .str d.shown, .bool true]
def spPars (K : PySem.W.Frag) : Sp := fun vs H Q _ => ∃ (v : V) (d : PyData), vs = [v] ∧ Dd K H v d ∧ AskT d ∧ Shows d ∧ ∀ v' H', Same H H' → Dd K H' v' (parsedD d) → Q v' H'
abbrev s_L_parsed : Stmt := top 36
abbrev n_L_parsed : List Str := ["_law_text", "_law_kept", "e"]
abbrev p_L_parsed : List Str := ["_law_text"]
theorem sc_L_parsed : FnScope n_L_parsed p_L_parsed (defScope s_L_parsed) := ⟨rfl, rfl, rfl, by decide +kernel, rfl, by decide +kernel, by decide +kernel⟩
theorem ok_L_parsed {CT CT0 : Addr} (T : Txt mg t1 t2 t3 t4) (R_BadText : ExcR P w K mg base "BadText" CT) (hTE : mg "TombError" = some (.ref CT0)) (hT1 : PySem.W.typeIn K (.ref CT0) = some (.type "type")) (hT2 : PySem.W.hasDictIn K CT0 = true) (hT3 : PySem.W.subIn K (.ref CT) (.ref CT0) = some true)
    {f : Addr} {fd : FuncData} (F : Fun K "_law_parsed" "_law_parsed" s_L_parsed f fd) (K_parse_event : Cal P w K mg base (L2.CX P w) 7 "parse_event" p_parse_event (spParseE K CT)) : FnG P w K mg base CX0 8 f fd p_L_parsed (spPars K) := by
  refine funG0 F sc_L_parsed (fun vs H Q E h => by obtain ⟨v, d, rfl, _⟩ := h; rfl) (fun cdv A outer s H vs Q E gd hr h => ?_)
  obtain ⟨v, d, rfl, hd, ask, hs, k⟩ := h
  obtain ⟨fI, fdI, XC_BadText, bI, FI⟩ := R_BadText.cls
  have hu := hr.units
  refine ⟨_, (pss_cons (ps_set (i := 1) sc_L_parsed.nd rfl (by first | exact Or.inl rfl | exact Or.inr rfl) pe_non)
      (pss_cons (ps_try_as (i := 2) (Wout := fun _ _ _ _ => False) rfl rfl sc_L_parsed.nd rfl rfl ⟨rfl, by decide, Or.inl XC_BadText.gC⟩ takes0
      (fun W pn xe tk _ => (pss_one (ps_set (i := 1) sc_L_parsed.nd rfl (by first | exact Or.inl rfl | exact Or.inr rfl) (pe_calS K_parse_event (hr.mono (by decide)) (fun σ => passAt tk σ) (pa_cons (pv 0) pa_nil)))))
      (fun a oe cls d pn hz hf => (pss_one (ps_set (i := 1) sc_L_parsed.nd rfl (by first | exact Or.inl rfl | exact Or.inr rfl) (pe_lst (pa_cons pe_str (pa_cons (pe_callB (call_reprD gd hu) (by rfl) T.z_repr (by decide +kernel) (pa_cons (pe_xf XC_BadText.xf XC_BadText.nv hz hf (pv 2)) pa_nil)) (pa_cons (pe_callB (call_isE2 hz hf) (by rfl) T.z_isinstance (by decide +kernel) (pa_cons (pv 2) (pa_cons (pe_glob (v := .ref CT0) rfl hTE rfl) pa_nil))) pa_nil))))))))
      (pss_one (ps_ret (pv 1))))), ?_⟩
  walk_at "tx"
  refine ⟨v, d, rfl, hd, fun x e => ⟨by have := (ask.txt x e).1; omega, (ask.txt x e).2.1⟩, fun e he v1 H1 s1 d1 => ?_, fun he dx H1 n1 s1 e1 => ?_⟩
  · walk_at "tx"
    refine k _ H1 s1 ?_
    unfold parsedD
    rw [he]
    exact d1
  refine ⟨true, XC_BadText.te, fun _ a0 n0 => ?_, fun q => nomatch q⟩
  walk_at "tx"
  refine r_xfVar rfl e1 ?_
  walk_at "tx"
  refine r_reprD (Dd.same s1 _ _ hd) hs ?_
  walk_at "tx"
  refine r_isE2 (cv := .ref CT0) e1 (fun u r => r) (.inl hT1) (.inr ⟨_, rfl, hT2⟩) hT3 ?_
  walk_at "tx"
  refine a_lst (by simp) fun L2 H2 n2 s2 e2 => ?_
  walk_at "tx"
  refine k _ _ (s1.trans s2) ?_
  unfold parsedD
  rw [he]
  exact .lst e2 (.cons (.str _) (.cons (.str _) (.cons (.bl _) .nil)))
theorem part_plain {k : Str} {d : PyData} (h5 : k ∈ five) (hk : kindD k d = true) : d.plain = true ∧ d.depth ≤ 1 := by
  have str : ∀ x, (PyData.str x).plain = true ∧ (PyData.str x).depth ≤ 1 := fun x => ⟨rfl, by show 0 ≤ 1; decide⟩
  unfold five at h5
  simp only [List.mem_cons, List.not_mem_nil, or_false] at h5
  rcases h5 with rfl | rfl | rfl | rfl | rfl
  · rw [kd_word] at hk
    obtain ⟨a, rfl, _⟩ := word_txt hk
    exact str _
  · rw [kd_value] at hk
    cases d with
    | str x => exact str _
    | _ => cases hk
  · rw [kd_number] at hk
    cases d with
    | int i => exact ⟨rfl, by show 0 ≤ 1; decide⟩
    | _ => cases hk
  · rw [kd_index] at hk
    cases d with
    | int i => exact ⟨rfl, by show 0 ≤ 1; decide⟩
    | _ => cases hk
  · rw [kd_keys, Bool.or_eq_true] at hk
    rcases hk with hk | hk
    · cases d <;> first | exact ⟨rfl, by show 0 ≤ 1; decide⟩ | cases hk
    · cases d with
      | tuple ds =>
        unfold ascD at hk
        rw [Bool.and_eq_true] at hk
        have ex : ds = (ds.map txtD).map PyData.str := by
          rw [List.map_map]
          refine ((List.map_congr_left fun d hd => ?_).trans (List.map_id _)).symm
          obtain ⟨a, rfl, _⟩ := word_txt (List.all_eq_true.mp hk.1 d hd)
          rfl
        rw [ex]
        refine ⟨strs_plain _, ?_⟩
        show PyData.depthAll _ + 1 ≤ 1
        rw [strs_depth]
        decide
      | _ => cases hk
theorem parts_plain : ∀ {f : List Str} {ds : List PyData}, (∀ k ∈ f, k ∈ five) → partsD f ds = true → PyData.plainAll ds = true ∧ PyData.depthAll ds ≤ 1
  | k :: f, d :: ds, h5, hp => by
    rw [partsD, Bool.and_eq_true] at hp
    have a := part_plain (h5 _ List.mem_cons_self) hp.1
    have b := parts_plain (fun k hk => h5 k (List.mem_cons_of_mem _ hk)) hp.2
    refine ⟨?_, ?_⟩
    · show (d.plain && PyData.plainAll ds) = true
      rw [a.1, b.1]
      rfl
    · show max d.depth (PyData.depthAll ds) ≤ 1
      omega
  | [], [], _, _ => ⟨rfl, by show 0 ≤ 1; decide⟩
  | [], _ :: _, _, hp => by cases hp
  | _ :: _, [], _, hp => by cases hp
theorem ev_plain {d : PyData} (h : eventD d = true) : d.plain = true ∧ d.depth ≤ 60 := by
  obtain ⟨w, f, rest, rfl, hw, hf, hs, hp, et⟩ := event_is h
  have b := parts_plain (shape_five hs) hp
  refine ⟨?_, ?_⟩
  · show (true && PyData.plainAll rest) = true
    rw [b.1]
    rfl
  · show max 0 (PyData.depthAll rest) + 1 ≤ 60
    omega
theorem evOf_event {d e : PyData} (h : evOf d = some e) : eventD e = true := by
  cases d with
  | str x =>
    have h : (if eventD (likV x) = true ∧ evT (likV x) = TL.tl x then some (likV x) else none) = some e := h
    by_cases a : eventD (likV x) = true ∧ evT (likV x) = TL.tl x
    · rw [if_pos a] at h
      cases h
      exact a.1
    · rw [if_neg a] at h
      cases h
  | _ => cases h
theorem pars_plain (d : PyData) : (parsedD d).plain = true ∧ (parsedD d).depth ≤ 60 := by
  unfold parsedD
  split
  · rename_i e he
    exact ev_plain (evOf_event he)
  · exact ⟨rfl, by show max 0 (max 0 (max 0 0)) + 1 ≤ 60; decide⟩
theorem r_eqSame {K : PySem.W.Frag} {H : Hp} {v w : V} {d : PyData} {Q : VK} (h1 : Dd K H v d) (h2 : Dd K H w d) (pl : d.plain = true) (dp : d.depth ≤ 60) (q : Q (.bl true) H) : rEqP K v w H Q := ⟨d, d, h1, h2, pl, pl, dp, by rw [PySem.SeqAt.eqv_refl_plain d pl]; exact q⟩
def spRight (K : PySem.W.Frag) : Sp := fun vs H Q _ => ∃ (v : V) (d : PyData), vs = [v] ∧ Dd K H v d ∧ AskT d ∧ Shows d ∧ ∀ H', Same H H' → Q (.bl true) H'
abbrev s_L_right : Stmt := top 38
abbrev n_L_right : List Str := ["_law_text", "_law_due_here"]
abbrev p_L_right : List Str := ["_law_text"]
theorem sc_L_right : FnScope n_L_right p_L_right (defScope s_L_right) := ⟨rfl, rfl, rfl, by decide +kernel, rfl, by decide +kernel, by decide +kernel⟩
theorem ok_L_right (T : Txt mg t1 t2 t3 t4) {f : Addr} {fd : FuncData} (F : Fun K "_law_right" "_law_right" s_L_right f fd) (K_L_due : Cal P w K mg base CX0 7 "_law_due" p_L_due (spDue K)) (K_L_parsed : CalG P w K mg base CX0 8 "_law_parsed" p_L_parsed (spPars K)) :
    FnG P w K mg base CX0 9 f fd p_L_right (spRight K) := by
  refine funG0 F sc_L_right (fun vs H Q E h => by obtain ⟨v, d, rfl, _⟩ := h; rfl) (fun cdv A outer s H vs Q E gd hr h => ?_)
  obtain ⟨v, d, rfl, hd, ask, hs, k⟩ := h
  have hu := hr.units
  refine ⟨_, (pss_cons (ps_set (i := 1) sc_L_right.nd rfl (by first | exact Or.inl rfl | exact Or.inr rfl) (pe_cal K_L_due (hr.mono (by decide)) pass0 (pa_cons (pv 0) pa_nil)))
      (pss_one (ps_ret (pe_cmpR (k_eqP hu) (pe_calg K_L_parsed gd (hr.mono (by decide)) pass0 (pa_cons (pv 0) pa_nil)) (pe_ifExp (pt_cmpR op_notN (pv 1) pe_non (nomark _)) (pv 1) (pe_lst (pa_cons pe_str (pa_cons (pe_callB (call_reprD gd hu) (by rfl) T.z_repr (by decide +kernel) (pa_cons (pv 0) pa_nil)) (pa_cons pe_bl pa_nil))))) (nomark _))))), ?_⟩
  walk_at "tx"
  refine ⟨v, d, rfl, hd, ask, fun v1 H1 s1 d1 => ?_⟩
  walk_at "tx"
  refine ⟨v, d, rfl, Dd.same s1 _ _ hd, ask, hs, fun v2 H2 s2 d2 => ?_⟩
  walk_at "tx"
  refine ⟨rfl, ?_⟩
  walk_at "tx"
  have pp := pars_plain d
  cases er : evOf d with
  | none =>
    rw [er] at d1
    cases d1
    refine r_decN (fun c => absurd rfl c) (fun _ => ?_)
    walk_at "tx"
    refine r_reprD (Dd.same (s1.trans s2) _ _ hd) hs ?_
    walk_at "tx"
    refine a_lst (by simp) fun L3 H3 n3 s3 e3 => ?_
    have pd : parsedD d = .list [.str "text", .str d.shown, .bool true] := by
      unfold parsedD
      rw [er]
    rw [pd] at d2 pp
    refine r_eqSame (Dd.same s3 _ _ d2) (.lst e3 (.cons (.str _) (.cons (.str _) (.cons (.bl _) .nil)))) pp.1 pp.2 ?_
    exact k _ (s1.trans (s2.trans s3))
  | some e =>
    rw [er] at d1
    have pd : parsedD d = e := by
      unfold parsedD
      rw [er]
    rw [pd] at d2 pp
    have ee := evOf_event er
    obtain ⟨x, r, rfl⟩ := event_head ee
    have hv1 : v1 ≠ .non := by
      rintro rfl
      cases d1
    refine r_decN (fun c => ?_) (fun c => absurd c hv1)
    walk_at "tx"
    refine r_eqSame d2 (Dd.same s2 _ _ d1) pp.1 pp.2 ?_
    exact k _ (s1.trans s2)
end
end K07

set_option Elab.async false
set_option linter.all false
set_option maxRecDepth 100000
set_option maxHeartbeats 4000000
namespace K07
open PySem PySem.Spec PyProof.Rows L2 Tk TkM TkP TkR CwR SX
local macro_rules | `(tactic| walk_at "rd1") => `(tactic| first
  | with_reducible refine r_seq ?_
  | ((with_reducible refine r_var (v := ?vv) ?hrv ?_); (case hrv => rfl))
  | with_reducible refine r_c ?_
  | with_reducible refine r_op ?_
  | ((with_reducible refine r_ixL (xs := ?xx) (v := ?vv) ?hh ?he ?_); (case hh => first | assumption | exact upd_same); (case he => rfl))
  | with_reducible refine r_asg ?_
  | with_reducible refine r_sub ?_
  | ((with_reducible refine r_gTup (xs := ?xx) ?hh ?he ?_); (case hh => assumption); (case he => rfl))
  | with_reducible refine r_gCons ?_
  | with_reducible refine r_gNil ?_
  | ((with_reducible refine r_setL (xs := ?xx) (j := ?vv) ?hh ?he ?_); (case hh => first | assumption | exact upd_same); (case he => rfl))
  | with_reducible refine r_pow15 ?_
  | with_reducible refine r_pow18 ?_
  | with_reducible refine r_repr ?_
  | with_reducible refine iteT ?_
  | with_reducible refine iteF ?_
  | with_reducible refine r_cons ?_
  | with_reducible refine r_nil ?_
  | with_reducible refine r_call ?_
  | with_reducible refine r_cb ?_
  | with_reducible refine r_ret ?_
  | with_reducible refine r_gName ?_
  | with_reducible refine r_next ?_
  | with_reducible refine r_ifS ?_
  | with_reducible refine r_un ?_
  | with_reducible refine r_U ?_
  | with_reducible refine r_max2 ?_
  | with_reducible refine r_min2 ?_
  | with_reducible refine r_sl ?_
  | with_reducible refine r_noPart ?_
  | with_reducible refine r_part ?_
  | with_reducible refine r_inti ?_
  | with_reducible refine r_lc ?_
  | with_reducible refine r_for ?_
  | with_reducible refine r_rng1 ?_
  | with_reducible refine r_iList ?_
  | with_reducible refine r_iTup ?_
  | with_reducible refine r_iStr ?_
  | with_reducible refine r_strx ?_
  | ((with_reducible refine r_j ?hh ?hi ?_); (case hh => omega); (case hi => omega))
  | with_reducible refine r_m1 ?_
  | with_reducible refine r_test ?_
  | with_reducible refine r_B ?_
  | with_reducible refine r_not ?_
  | with_reducible refine r_and ?_
  | with_reducible refine r_or ?_
  | with_reducible refine r_andV ?_
  | with_reducible refine r_orV ?_
  | with_reducible refine r_notV ?_
  | with_reducible refine r_if ?_
  | with_reducible refine r_chain ?_
  | with_reducible refine r_lst ?_
  | with_reducible refine r_tup ?_
  | with_reducible refine r_k ?_
  | ((with_reducible refine r_isiS (d := ?dd) ?hh ?_); (case hh => assumption))
  | ((with_reducible refine r_isiT (d := ?dd) ?hh ?_); (case hh => assumption))
  | ((with_reducible refine r_isiI (d := ?dd) ?hh ?_); (case hh => assumption))
  | ((with_reducible refine r_isiB (d := ?dd) ?hh ?_); (case hh => assumption))
  | ((with_reducible refine r_lenS ?hh ?_); (case hh => assumption))
  | ((with_reducible refine r_lenT (xs := ?dd) ?hh ?_); (case hh => assumption))
  | ((with_reducible refine r_ixT (xs := ?xx) (v := ?vv) ?hh ?he ?_); (case hh => assumption); (case he => rfl))
  | with_reducible refine r_isN ?_
  | with_reducible refine r_I0 ?_
  | with_reducible refine g_addI ?_
  | ((with_reducible refine r_mod ?hh ?_); (case hh => first | decide | omega))
  | ((with_reducible refine r_div ?hh ?hi ?_); (case hh => first | decide | omega); (case hi => first | decide | omega))
  | ((with_reducible refine g_mulB ?hh ?hi ?_); (case hh => omega); (case hi => omega))
  | with_reducible refine g_ltI ?_
  | with_reducible refine g_leI ?_
  | with_reducible refine g_gtI ?_
  | with_reducible refine g_geI ?_
  | with_reducible refine g_eqI ?_
  | with_reducible refine g_neI ?_
  | with_reducible refine g_eqS ?_
  | with_reducible refine g_neS ?_
  | with_reducible refine g_leS ?_
  | with_reducible refine g_ltS ?_)
local macro_rules | `(tactic| walk_at "rd") => `(tactic| repeat (walk_at "rd1"))
local macro_rules | `(tactic| walk_at "ed") => `(tactic| repeat first
  | exact ed_int
  | exact ed_str
  | exact ed_bl
  | exact ed_non
  | exact ed_nil
  | exact ed_dct
  | exact ed_neg
  | with_reducible apply ed_cons
  | with_reducible apply ed_tup
  | with_reducible apply ed_lst
  | exact Nat.le_of_ble_eq_true rfl)
local macro_rules | `(tactic| walk_at "tx1") => `(tactic| first
  | walk_at "rd1"
  | with_reducible refine r_callS ?_
  | with_reducible refine r_zipA ?_
  | with_reducible refine r_par ?_
  | with_reducible refine r_pair ?_
  | with_reducible refine r_pow6 ?_
  | with_reducible refine r_m0 ?_
  | with_reducible refine r_bm ?_
  | with_reducible refine r_isS ?_
  | with_reducible refine r_told ?_
  | with_reducible refine r_js ?_
  | with_reducible refine r_jsNil ?_
  | with_reducible refine r_repl ?_
  | ((with_reducible refine r_gLst (xs := ?xx) ?hh ?he ?_); (case hh => assumption); (case he => rfl))
  | ((with_reducible refine r_lenL (xs := ?xx) ?hh ?_); (case hh => assumption)))
local macro_rules | `(tactic| walk_at "tx") => `(tactic| repeat (walk_at "tx1"))
section
variable {t1 t2 t3 t4 : Tok} {P : Program} {w : World} {K : PySem.W.Frag} {mg : Str → Option Value} {base : Heap}
theorem cutV_to (xs : List V) (n : Nat) (h : n ≤ xs.length) : cutV xs none (some (n : Int)) = xs.take n := by
  unfold cutV
  have i1 : HT.sIx xs.length 0 none = 0 := by
    unfold HT.sIx
    simp
  have i2 : HT.sIx xs.length xs.length (some (n : Int)) = n := by
    unfold HT.sIx
    simp
    split <;> omega
  rw [i1, i2]
  rfl
theorem cutV_from (xs : List V) (n : Nat) (h : n ≤ xs.length) : cutV xs (some (n : Int)) none = xs.drop n := by
  unfold cutV
  have i1 : HT.sIx xs.length 0 (some (n : Int)) = n := by
    unfold HT.sIx
    simp
    split <;> omega
  rw [i1, HT.sIx_none]
  rw [List.take_of_length_le (by rw [List.length_drop]; omega)]
theorem cutV_one (xs : List V) (n : Nat) (h : n + 1 ≤ xs.length) : cutV xs (some (n : Int)) (some ((n : Int) + 1)) = (xs.drop n).take 1 := by
  unfold cutV
  have i1 : HT.sIx xs.length 0 (some (n : Int)) = n := by
    unfold HT.sIx
    simp
    split <;> omega
  have i2 : HT.sIx xs.length xs.length (some ((n : Int) + 1)) = n + 1 := by
    unfold HT.sIx
    simp
    split <;> omega
  rw [i1, i2, Nat.add_sub_cancel_left]
/-- the length of the texts put together -/
def lenW (zs : List (List Nat)) : Nat := (zs.map (·.length)).sum + (zs.length - 1)
theorem join_lenW (zs : List (List Nat)) : (Txt.join (Str.ofString " ") (zs.map S)).length = lenW zs := by
  rw [join_len, lens, List.length_map, show (Str.ofString " ").length = 1 by decide, Nat.mul_one]
  rfl
theorem spl_lenW (t : List Nat) : lenW (TL.spl [32] 0 [] t) = t.length := by
  have z := join_lenW (TL.spl [32] 0 [] t)
  have e : Txt.join (Str.ofString " ") ((TL.spl [32] 0 [] t).map S) = S (TL.joinL [32] (TL.spl [32] 0 [] t)) := join_S [32] _
  have jl := spl_joined 32 t []
  rw [e, jl, S_len] at z
  exact z.symm
def outW (ws : List (List Nat)) (n : Nat) : List (List Nat) := ws.take n ++ ws.drop (n + 1)
def dblW (ws : List (List Nat)) (n : Nat) : List (List Nat) := ws.take n ++ (ws.drop n).take 1 ++ ws.drop n
theorem sum_cut (ws : List (List Nat)) (n : Nat) : (ws.map (·.length)).sum = ((ws.take n).map (·.length)).sum + ((ws.drop n).map (·.length)).sum := by
  conv => lhs; rw [← List.take_append_drop n ws]
  rw [List.map_append, List.sum_append]
theorem outW_len (ws : List (List Nat)) (n : Nat) (h : n < ws.length) : lenW (outW ws n) ≤ lenW ws := by
  unfold lenW outW
  rw [List.map_append, List.sum_append, List.length_append, List.length_take, List.length_drop]
  have a := sum_cut ws n
  have b := sum_cut (ws.drop n) 1
  rw [List.drop_drop] at b
  omega
theorem dblW_len (ws : List (List Nat)) (n : Nat) (h : n < ws.length) (hp : ∀ p ∈ ws, p.length ≤ 16) : lenW (dblW ws n) ≤ lenW ws + 17 := by
  unfold lenW dblW
  rw [List.map_append, List.map_append, List.sum_append, List.sum_append, List.length_append, List.length_append, List.length_take, List.length_take, List.length_drop]
  have a := sum_cut ws n
  have e : (ws.drop n).take 1 = [ws[n]] := by
    rw [List.drop_eq_getElem_cons h]
    rfl
  rw [e]
  have := hp ws[n] (List.getElem_mem h)
  simp only [List.map_cons, List.map_nil, List.sum_cons, List.sum_nil]
  omega
def Asc (x : Str) : Prop := ∀ c ∈ x.cps.toList, c < 128
theorem Asc.cat {x y : Str} (a : Asc x) (b : Asc y) : Asc (x ++ y) := fun c h => by
  rw [show (x ++ y).cps.toList = x.cps.toList ++ y.cps.toList from TL.tl_append x y] at h
  rcases List.mem_append.mp h with h | h
  · exact a c h
  · exact b c h
theorem Asc.cut {x : Str} (a : Asc x) (lo hi : Option Int) : Asc (cutS x lo hi) := fun c h => a c (List.mem_of_mem_drop (List.mem_of_mem_take h))
theorem asc_lit {x : Str} (h : x.cps.toList.all (fun c => decide (c < 128)) = true) : Asc x := fun c hc => of_decide_eq_true (List.all_eq_true.mp h c hc)
theorem shows_str {x : Str} (a : Asc x) (hx : x.length ≤ 20000) : Shows (.str x) := by
  refine ⟨.inl rfl, rfl, ?_, by show 0 ≤ 60; decide⟩
  rw [PyData.shown_str]
  have := StrLaws.reprText_len x (fun c hc => Nat.lt_trans (a c hc) (by decide))
  omega
theorem asc_join {zs : List (List Nat)} (h : ∀ p ∈ zs, ∀ c ∈ p, c < 128) : Asc (Txt.join (Str.ofString " ") (zs.map S)) := by
  have e : Txt.join (Str.ofString " ") (zs.map S) = S (TL.joinL [32] zs) := join_S [32] zs
  rw [e]
  exact joinL_all (P := fun c => c < 128) (by decide) zs h
theorem ask_short {x : Str} (h : x.length ≤ 59) : AskT (.str x) := ⟨fun y e => by cases e; exact ⟨by omega, few_likV h, few_readV h⟩⟩
theorem ask_other {d : PyData} (h : ∀ x, d ≠ .str x) : AskT d := ⟨fun x e => absurd e (h x)⟩
theorem DdAll.pick {K : PySem.W.Frag} {H : Hp} {P : PyData → Prop} : ∀ {vs : List V} {ds : List PyData} {v : V}, DdAll K H vs ds → (∀ d ∈ ds, P d) → v ∈ vs → ∃ d, Dd K H v d ∧ P d
  | _, _, _, .nil, _, h => by cases h
  | _, _, v, .cons h t, o, m => by
    rcases List.mem_cons.mp m with e | m
    · subst e
      exact ⟨_, h, o _ (List.mem_cons_self ..)⟩
    · exact DdAll.pick t (fun d hd => o d (List.mem_cons_of_mem _ hd)) m
theorem ev_pos {d : PyData} (h : eventD d = true) : 1 ≤ (evT d).length := by
  obtain ⟨w, f, rest, rfl, hw, hf, hs, hp, et⟩ := event_is h
  rw [et]
  have l := (word_len hw).1
  cases partsT f rest with
  | nil => exact l
  | cons t r =>
    show 1 ≤ (w ++ ([32] ++ TL.joinL [32] (t :: r))).length
    rw [List.length_append]
    omega
theorem lc_noneP {K : PySem.W.Frag} {T : Addr} {xs : List V} {ds : List PyData} {s : Nat} {tt : TT} {te : TE} {σ : L2.St} {H : Hp} {Q : VK} (P : PyData → Prop) (e : H T = some (.lst xs)) (al : DdAll K H xs ds) (hp : ∀ d ∈ ds, P d) (hl : ds.length ≤ 100000)
    (ht : ∀ v d, Dd K H v d → P d → ∀ (H2 : Hp) (R : Bool → Hp → Prop), Same H H2 → (∀ H3, Same H2 H3 → R false H3) → tt (σ.set s (some v)) H2 R)
    (hd : ∀ (D : Addr) (H' : Hp), H D = none → Same H H' → H' D = some (.lst []) → Q (.ref D) H') : LcG (Itl K T) (gName s) tt te [s] σ H Q := by
  refine lc_pure walk_list (fun H' s' => SqL.of (s' _ _ e)) (by rw [al.length]; exact hl) (fun _ => false) (fun v => v) ?_ (fun _ _ h => nomatch h) ?_
  · intro v hv H2 R s2 q
    obtain ⟨d, hd, od⟩ := DdAll.pick al hp hv
    exact ht v d hd od H2 R s2 q
  · intro D H' hD s' e'
    refine hd D H' hD s' ?_
    rw [e']
    have z : xs.filter (fun _ => false) = [] := List.filter_eq_nil_iff.mpr fun _ _ h => nomatch h
    rw [z]
    rfl
def Rt (d : PyData) : Prop := AskT d ∧ Shows d
theorem rt_short {x : Str} (a : Asc x) (h : x.length ≤ 59) : Rt (.str x) := ⟨ask_short h, shows_str a (by omega)⟩
structure Odd (d : PyData) : Prop where
  shows : Shows d
  ok : okD d
  few : fewI d
  no : eventD d = false
def things : List PyData := ([.none, .int (5), .str (Str.ofString "save ann"), .tuple [], .tuple [.str (Str.ofString "save")], .list [.str (Str.ofString "save"), .str (Str.ofString "ann")], .tuple [.str (Str.ofString "take"), .str (Str.ofString "bob"), .str (Str.ofString "ann"), .int (-1)], .tuple [.str (Str.ofString "pass"), .str (Str.ofString "ann"), .bool true]] : List PyData)
def oddB (d : PyData) : Bool := (!d.hasDict && d.showable && decide (d.shown.length ≤ 1000000) && decide (d.depth ≤ 60)) && !eventD d && (match d with | .tuple es => es.all fewB | _ => true)
theorem things_ok : ∀ d ∈ things, okD d := by
  intro d hd
  simp only [things, List.mem_cons, List.not_mem_nil, or_false] at hd
  rcases hd with rfl | rfl | rfl | rfl | rfl | rfl | rfl | rfl
  all_goals
    simp only [okD, okAll, and_true, true_and]
    try decide +kernel
theorem things_odd : ∀ d ∈ things, Odd d := by
  have ch : things.all oddB = true := by decide +kernel
  intro d hd
  have c := List.all_eq_true.mp ch d hd
  unfold oddB at c
  simp only [Bool.and_eq_true, decide_eq_true_eq, Bool.not_eq_true'] at c
  obtain ⟨⟨⟨⟨⟨c1, c2⟩, c3⟩, c4⟩, c5⟩, c6⟩ := c
  refine ⟨⟨.inl c1, c2, c3, c4⟩, things_ok d hd, ?_, c5⟩
  cases d with
  | tuple es =>
    intro e he
    have := List.all_eq_true.mp c6 e he
    cases e with
    | tuple fs =>
      have z : decide (fs.length ≤ 60) = true := this
      rw [decide_eq_true_eq] at z
      exact z
    | _ => trivial
  | _ => trivial
def bad1 : List PyData := ([.none, .int (5), .bool true, .tuple [], .list [], .str (Str.ofString ""), .str (Str.ofString " "), .str (Str.ofString "save"), .str (Str.ofString "save ann "), .str (Str.ofString "save  ann"), .str (Str.ofString "Save ann"), .str (Str.ofString "send ann bob"), .str (Str.ofString "send ann bob k k")] : List PyData)
def bad2 : List PyData := ([.str (Str.ofString "send ann bob l k"), .str (Str.ofString "send ann bob * k"), .str (Str.ofString "send ann bob  "), .str (Str.ofString "take bob ann 01"), .str (Str.ofString "take bob ann -1"), .str (Str.ofString "pass ann 0")] : List PyData)
@[irreducible] def nines : Str := Txt.mul "9" 5000
def bad3 : List PyData := [.str ("pass ann " ++ nines), .str "write ann k \"", .str "write ann k x", .str "write ann k \"a\"b\"", .str "open ann", .str "drop ann k k"]
theorem nines_len : nines.length = 5000 := by decide +kernel
theorem nines_asc : Asc nines := fun c h => of_decide_eq_true (List.all_eq_true.mp (show nines.cps.toList.all (fun c => decide (c < 128)) = true by decide +kernel) c h)
theorem ed_cat {K : PySem.W.Frag} {σ : L2.St} {te tf : TE} {x y : Str} (h1 : EvD K te σ (.str x)) (h2 : EvD K tf σ (.str y)) (hl : x.length + y.length ≤ 100000) : EvD K (tOp (GAdd K) te tf) σ (.str (x ++ y)) := fun H Q q =>
  h1 H _ fun v1 H1 s1 d1 => h2 H1 _ fun v2 H2 s2 d2 => by
    cases d1
    cases d2
    exact g_addS (sz_of hl) (q _ H2 (s1.trans s2) (.str _))
theorem ed_mul {K : PySem.W.Frag} {σ : L2.St} {x : Str} {n : Int} (h : ∀ (H : Hp) (Q : VK), Q (.str (Txt.mul x n)) H → GMul (.str x) (.int n) H Q) : EvD K (tOp GMul (tC (.str x)) (tC (.int n))) σ (.str (Txt.mul x n)) := fun H Q q => h H Q (q _ H (Same.refl H) (.str _))
theorem ed_nines {K : PySem.W.Frag} {σ : L2.St} : EvD K (tOp GMul (tC (.str "9")) (tC (.int 5000))) σ (.str nines) := by
  have e : nines = Txt.mul "9" 5000 := by unfold nines; exact rfl
  rw [e]
  exact ed_mul fun _ _ q => g_mulS ⟨by decide, fun _ _ => by decide, fun _ _ => by decide⟩ q
theorem b3_a : ("pass ann " : Str).length + nines.length ≤ 100000 := by rw [nines_len]; decide
def rtB (d : PyData) : Bool := (!d.hasDict && d.showable && decide (d.shown.length ≤ 1000000) && decide (d.depth ≤ 60)) && (match d with | .str x => decide (x.length ≤ 59) | _ => true)
theorem rt_of {d : PyData} (h : rtB d = true) : Rt d := by
  unfold rtB at h
  simp only [Bool.and_eq_true, decide_eq_true_eq, Bool.not_eq_true'] at h
  obtain ⟨⟨⟨⟨c1, c2⟩, c3⟩, c4⟩, c5⟩ := h
  refine ⟨?_, ⟨.inl c1, c2, c3, c4⟩⟩
  cases d with
  | str x => exact ask_short (of_decide_eq_true c5)
  | _ => exact ask_other fun x e => by cases e
theorem pass_first (t : List Nat) : Txt.partition (S (cPass ++ ([32] ++ t))) (S [32]) = (S cPass, S [32], S t) := partition_some (by simp) (TL.par_part1 (S := []) (acc := []) (by decide))
theorem few_pass (t : List Nat) : fewI (likV (S (cPass ++ ([32] ++ t)))) ∧ fewI (readV (S (cPass ++ ([32] ++ t)))) := by
  constructor
  · unfold likV
    rw [pass_first]
    have hf : formsT.lookup (S cPass) = some [Str.ofString "word", Str.ofString "number"] := by decide +kernel
    show fewI (match formsT.lookup (S cPass) with
      | none => PyData.none
      | some f => .tuple (.str (S cPass) :: likPs f (Txt.splitMax (S t) (S [32]) ((f.length : Int) - 1))))
    rw [hf]
    show fewI (.tuple (.str (S cPass) :: likPs [Str.ofString "word", Str.ofString "number"] (Txt.splitMax (S t) (S [32]) _)))
    generalize Txt.splitMax (S t) (S [32]) _ = ys
    intro d hd
    rcases List.mem_cons.mp hd with rfl | hd
    · trivial
    · match ys, hd with
      | [], hd => cases hd
      | [x], hd =>
        rw [List.mem_singleton.mp (show d ∈ [likP (Str.ofString "word") x] from hd)]
        unfold likP
        rw [if_neg (by decide), if_neg (by decide), if_neg (by decide)]
        trivial
      | x :: y :: r, hd =>
        have hd : d ∈ [likP (Str.ofString "word") x, likP (Str.ofString "number") y] := hd
        simp only [List.mem_cons, List.not_mem_nil, or_false] at hd
        rcases hd with rfl | rfl
        · unfold likP
          rw [if_neg (by decide), if_neg (by decide), if_neg (by decide)]
          trivial
        · unfold likP
          rw [if_neg (by decide), if_pos (.inl rfl)]
          unfold likN
          split <;> trivial
  · have e : TL.spl [32] 0 [] (cPass ++ ([32] ++ t)) = cPass :: TL.spl [32] 0 [] t := TL.spl_part1 (by decide)
    show fewI (readP (TL.spl [32] 0 [] (cPass ++ ([32] ++ t))))
    rw [e]
    exact few_readH fun z => by cases z
theorem bads : ∀ d ∈ (bad1 ++ bad2) ++ bad3, Rt d := by
  have sm : ∀ d ∈ bad1 ++ bad2, Rt d := fun d h => rt_of (List.all_eq_true.mp (show (bad1 ++ bad2).all rtB = true by decide +kernel) d h)
  have s3 : ∀ d ∈ ([.str "write ann k \"", .str "write ann k x", .str "write ann k \"a\"b\"", .str "open ann", .str "drop ann k k"] : List PyData), Rt d := fun d h => rt_of (List.all_eq_true.mp (show ([.str "write ann k \"", .str "write ann k x", .str "write ann k \"a\"b\"", .str "open ann", .str "drop ann k k"] : List PyData).all rtB = true by decide +kernel) d h)
  intro d hd
  rcases List.mem_append.mp hd with hd | hd
  · exact sm d hd
  · rcases List.mem_cons.mp (show d ∈ PyData.str ("pass ann " ++ nines) :: _ from hd) with rfl | hd
    · have hl : (("pass ann " : Str) ++ nines).length = 5009 := by rw [cat_len, nines_len]; decide
      have e : ("pass ann " : Str) ++ nines = S (cPass ++ ([32] ++ ([97, 110, 110, 32] ++ nines.cps.toList))) := by
        refine TL.ext_tl ?_
        rw [TL.tl_append]
        rfl
      refine ⟨⟨fun x z => ?_⟩, shows_str ((asc_lit (by decide +kernel)).cat nines_asc) (by rw [hl]; decide)⟩
      cases z
      refine ⟨by rw [hl]; decide, ?_⟩
      rw [e]
      exact few_pass _
    · exact s3 d hd
end
end K07

set_option Elab.async false
set_option linter.all false
set_option maxRecDepth 100000
set_option maxHeartbeats 4000000
namespace K07
open PySem PySem.Spec PyProof.Rows L2 Tk TkM TkP TkR CwR SX
local macro_rules | `(tactic| walk_at "rd1") => `(tactic| first
  | with_reducible refine r_seq ?_
  | ((with_reducible refine r_var (v := ?vv) ?hrv ?_); (case hrv => rfl))
  | with_reducible refine r_c ?_
  | with_reducible refine r_op ?_
  | ((with_reducible refine r_ixL (xs := ?xx) (v := ?vv) ?hh ?he ?_); (case hh => first | assumption | exact upd_same); (case he => rfl))
  | with_reducible refine r_asg ?_
  | with_reducible refine r_sub ?_
  | ((with_reducible refine r_gTup (xs := ?xx) ?hh ?he ?_); (case hh => assumption); (case he => rfl))
  | with_reducible refine r_gCons ?_
  | with_reducible refine r_gNil ?_
  | ((with_reducible refine r_setL (xs := ?xx) (j := ?vv) ?hh ?he ?_); (case hh => first | assumption | exact upd_same); (case he => rfl))
  | with_reducible refine r_pow15 ?_
  | with_reducible refine r_pow18 ?_
  | with_reducible refine r_repr ?_
  | with_reducible refine iteT ?_
  | with_reducible refine iteF ?_
  | with_reducible refine r_cons ?_
  | with_reducible refine r_nil ?_
  | with_reducible refine r_call ?_
  | with_reducible refine r_cb ?_
  | with_reducible refine r_ret ?_
  | with_reducible refine r_gName ?_
  | with_reducible refine r_next ?_
  | with_reducible refine r_ifS ?_
  | with_reducible refine r_un ?_
  | with_reducible refine r_U ?_
  | with_reducible refine r_max2 ?_
  | with_reducible refine r_min2 ?_
  | with_reducible refine r_sl ?_
  | with_reducible refine r_noPart ?_
  | with_reducible refine r_part ?_
  | with_reducible refine r_inti ?_
  | with_reducible refine r_lc ?_
  | with_reducible refine r_for ?_
  | with_reducible refine r_rng1 ?_
  | with_reducible refine r_iList ?_
  | with_reducible refine r_iTup ?_
  | with_reducible refine r_iStr ?_
  | with_reducible refine r_strx ?_
  | ((with_reducible refine r_j ?hh ?hi ?_); (case hh => omega); (case hi => omega))
  | with_reducible refine r_m1 ?_
  | with_reducible refine r_test ?_
  | with_reducible refine r_B ?_
  | with_reducible refine r_not ?_
  | with_reducible refine r_and ?_
  | with_reducible refine r_or ?_
  | with_reducible refine r_andV ?_
  | with_reducible refine r_orV ?_
  | with_reducible refine r_notV ?_
  | with_reducible refine r_if ?_
  | with_reducible refine r_chain ?_
  | with_reducible refine r_lst ?_
  | with_reducible refine r_tup ?_
  | with_reducible refine r_k ?_
  | ((with_reducible refine r_isiS (d := ?dd) ?hh ?_); (case hh => assumption))
  | ((with_reducible refine r_isiT (d := ?dd) ?hh ?_); (case hh => assumption))
  | ((with_reducible refine r_isiI (d := ?dd) ?hh ?_); (case hh => assumption))
  | ((with_reducible refine r_isiB (d := ?dd) ?hh ?_); (case hh => assumption))
  | ((with_reducible refine r_lenS ?hh ?_); (case hh => assumption))
  | ((with_reducible refine r_lenT (xs := ?dd) ?hh ?_); (case hh => assumption))
  | ((with_reducible refine r_ixT (xs := ?xx) (v := ?vv) ?hh ?he ?_); (case hh => assumption); (case he => rfl))
  | with_reducible refine r_isN ?_
  | with_reducible refine r_I0 ?_
  | with_reducible refine g_addI ?_
  | ((with_reducible refine r_mod ?hh ?_); (case hh => first | decide | omega))
  | ((with_reducible refine r_div ?hh ?hi ?_); (case hh => first | decide | omega); (case hi => first | decide | omega))
  | ((with_reducible refine g_mulB ?hh ?hi ?_); (case hh => omega); (case hi => omega))
  | with_reducible refine g_ltI ?_
  | with_reducible refine g_leI ?_
  | with_reducible refine g_gtI ?_
  | with_reducible refine g_geI ?_
  | with_reducible refine g_eqI ?_
  | with_reducible refine g_neI ?_
  | with_reducible refine g_eqS ?_
  | with_reducible refine g_neS ?_
  | with_reducible refine g_leS ?_
  | with_reducible refine g_ltS ?_)
local macro_rules | `(tactic| walk_at "rd") => `(tactic| repeat (walk_at "rd1"))
local macro_rules | `(tactic| walk_at "ed") => `(tactic| repeat first
  | exact ed_int
  | exact ed_str
  | exact ed_bl
  | exact ed_non
  | exact ed_nil
  | exact ed_dct
  | exact ed_neg
  | with_reducible apply ed_cons
  | with_reducible apply ed_tup
  | with_reducible apply ed_lst
  | exact Nat.le_of_ble_eq_true rfl)
local macro_rules | `(tactic| walk_at "tx1") => `(tactic| first
  | walk_at "rd1"
  | with_reducible refine r_callS ?_
  | with_reducible refine r_zipA ?_
  | with_reducible refine r_par ?_
  | with_reducible refine r_pair ?_
  | with_reducible refine r_pow6 ?_
  | with_reducible refine r_m0 ?_
  | with_reducible refine r_bm ?_
  | with_reducible refine r_isS ?_
  | with_reducible refine r_told ?_
  | with_reducible refine r_js ?_
  | with_reducible refine r_jsNil ?_
  | with_reducible refine r_repl ?_
  | ((with_reducible refine r_gLst (xs := ?xx) ?hh ?he ?_); (case hh => assumption); (case he => rfl))
  | ((with_reducible refine r_lenL (xs := ?xx) ?hh ?_); (case hh => assumption)))
local macro_rules | `(tactic| walk_at "tx") => `(tactic| repeat (walk_at "tx1"))
section
variable {t1 t2 t3 t4 : Tok} {P : Program} {w : World} {K : PySem.W.Frag} {mg : Str → Option Value} {base : Heap}
theorem cut_two (tt : Str) {r : Int} (h0 : 0 ≤ r) (h1 : r ≤ tt.length) : (cutS tt none (some r)).length + (cutS tt (some r) none).length ≤ tt.length := by
  obtain ⟨n, rfl⟩ := Int.eq_ofNat_of_zero_le h0
  have e1 : (cutS tt none (some (n : Int))).length = n := by
    unfold cutS
    rw [S_len, List.length_take, List.length_drop]
    have i1 : HT.sIx tt.length 0 none = 0 := by unfold HT.sIx; simp
    have i2 : HT.sIx tt.length tt.length (some (n : Int)) = n := by
      unfold HT.sIx
      simp
      split <;> omega
    have hl : tt.cps.toList.length = tt.length := by rw [Array.length_toList]; rfl
    rw [i1, i2]
    omega
  have e2 : (cutS tt (some (n : Int)) none).length ≤ tt.length - n := by
    unfold cutS
    rw [S_len, List.length_take, List.length_drop]
    have i1 : HT.sIx tt.length 0 (some (n : Int)) = n := by
      unfold HT.sIx
      simp
      split <;> omega
    have hl : tt.cps.toList.length = tt.length := by rw [Array.length_toList]; rfl
    rw [i1]
    omega
  omega
theorem cut_next (tt : Str) {r : Int} (h0 : 0 ≤ r) : (cutS tt (some (r + 1)) none).length ≤ (cutS tt (some r) none).length := by
  obtain ⟨n, rfl⟩ := Int.eq_ofNat_of_zero_le h0
  have hl : tt.cps.toList.length = tt.length := by rw [Array.length_toList]; rfl
  have ix : ∀ m : Nat, HT.sIx tt.length 0 (some (m : Int)) = min m tt.length := fun m => by
    unfold HT.sIx
    simp
    omega
  have len : ∀ m : Nat, (cutS tt (some (m : Int)) none).length = tt.length - min m tt.length := fun m => by
    unfold cutS
    rw [S_len, List.length_take, List.length_drop, ix, HT.sIx_none]
    omega
  have a := len (n + 1)
  have b := len n
  have c : (((n + 1 : Nat)) : Int) = (n : Int) + 1 := by omega
  rw [c] at a
  omega
theorem join_mem {P : Nat → Prop} : ∀ (ws : List (List Nat)), (∀ c ∈ TL.joinL [32] ws, P c) → ∀ q ∈ ws, ∀ c ∈ q, P c
  | [], _, q, hq, _, _ => by cases hq
  | [t], h, q, hq, c, hc => by
    rw [List.mem_singleton.mp hq] at hc
    exact h c hc
  | t :: u :: r, h, q, hq, c, hc => by
    have h : ∀ c ∈ t ++ ([32] ++ TL.joinL [32] (u :: r)), P c := h
    rcases List.mem_cons.mp hq with rfl | hq
    · exact h c (List.mem_append_left _ hc)
    · exact join_mem (u :: r) (fun c hc => h c (List.mem_append_right _ (List.mem_append_right _ hc))) q hq c hc
theorem r_par3 {H : Hp} {i j l : Nat} {ta : TA} {D : Ends} {σ : L2.St} (h : ta σ H fun vs H1 => ∃ u v w, vs = [u, v, w] ∧ D.nx (((σ.set i (some u)).set j (some v)).set l (some w)) H1) : tPar3 i j l ta D σ H := h
abbrev s_law : Stmt := top 39
abbrev n_law : List Str := ["_law_script", "_law_k", "_law_pool_here", "_law_turn", "_law_event", "_law_text", "_law_parts", "_law_at", "_law_sign", "_law_some", "_law_spot", "_law_one", "_law_thing"]
abbrev p_law : List Str := ["_law_script"]
theorem sc_law : FnScope n_law p_law (defScope s_law) := ⟨rfl, rfl, rfl, by decide +kernel, rfl, by decide +kernel, by decide +kernel⟩
theorem ok_law {CB CT : Addr} (T : Txt mg t1 t2 t3 t4) {f : Addr} {fd : FuncData} (F : Fun K "law" "law" s_law f fd) (K_L_pool : Cal P w K mg base CX0 8 "_law_pool" p_L_pool (spPool K)) (K_L_take : Cal P w K mg base CX0 8 "_law_take" p_L_take spTake)
    (K_L_drawn : Cal P w K mg base CX0 8 "_law_drawn" p_L_drawn (spEvn K)) (K_L_written : Cal P w K mg base CX0 8 "_law_written" p_L_written (spWritten K))
    (K_format_event : Cal P w K mg base (L2.CX P w) 8 "format_event" p_format_event (spFmtE K CB)) (K_parse_event : Cal P w K mg base (L2.CX P w) 8 "parse_event" p_parse_event (spParseE K CT))
    (K_L_formatted : CalG P w K mg base CX0 8 "_law_formatted" p_L_formatted (spForm K)) (K_L_right : CalG P w K mg base CX0 9 "_law_right" p_L_right (spRight K)) :
    FnG P w K mg base CX0 10 f fd p_law (spLaw K) := by
  refine funG0 F sc_law (fun vs H Q E h => spLaw_len h) (fun cdv A outer s H vs Q E gd hr h => ?_)
  obtain ⟨a, ns, rfl, hS, hl, k⟩ := h
  have hu := hr.units
  refine ⟨_, (pss_cons (ps_for PassesOwn.never rfl (pi_range1 rfl T.z_range (pa_cons (pe_callB (c_max2 rfl) (by rfl) T.z_max (by decide +kernel) (pa_cons pe_int (pa_cons (pe_callB (c_min2 rfl) (by rfl) T.z_min (by decide +kernel) (pa_cons (pe_callB k_len (by rfl) T.z_len (by decide +kernel) (pa_cons (pv 0) pa_nil)) (pa_cons pe_int pa_nil))) pa_nil))) pa_nil)) (pg_name (i := 1) sc_law.nd rfl (by first | exact Or.inl rfl | exact Or.inr rfl))
      (pss_cons (ps_set (i := 2) sc_law.nd rfl (by first | exact Or.inl rfl | exact Or.inr rfl) (pe_cal K_L_pool (hr.mono (by decide)) pass0 (pa_cons (pv 0) (pa_cons (pv 1) pa_nil))))
      (pss_cons (ps_for PassesOwn.never rfl (pi_range1 rfl T.z_range (pa_cons pe_int pa_nil)) (pg_name (i := 3) sc_law.nd rfl (by first | exact Or.inl rfl | exact Or.inr rfl))
      (pss_cons (ps_set (i := 4) sc_law.nd rfl (by first | exact Or.inl rfl | exact Or.inr rfl) (pe_cal K_L_drawn (hr.mono (by decide)) pass0 (pa_cons (pv 2) pa_nil)))
      (pss_cons (ps_set (i := 5) sc_law.nd rfl (by first | exact Or.inl rfl | exact Or.inr rfl) (pe_cal K_L_written (hr.mono (by decide)) pass0 (pa_cons (pv 4) pa_nil)))
      (pss_cons (ps_if (PW.pt (pw_or (pt_cmpR (k_ne hu) (pe_cal K_format_event (hr.mono (by decide)) (passOut (E := E0) takes0) (pa_cons (pv 4) pa_nil)) (pv 5) (nomark _)) (pw_or1 (pt_cmpR (k_neP hu) (pe_cal K_parse_event (hr.mono (by decide)) (passOut (E := E0) takes0) (pa_cons (pv 5) pa_nil)) (pv 4) (nomark _))))) (pss_one (ps_ret pe_bl)) pss_nil)
      (pss_cons (L2.ps_par3 (i := 6) (j := 7) (l := 8) rfl sc_law.nd rfl rfl rfl (by decide) (by decide) (by decide) rfl rfl rfl (pa_cons (pe_m1 PySem.F.slot_str_split PySem.F.type_str_split k_split1 (pv 5) pe_str) (pa_cons (pe_cal K_L_take (hr.mono (by decide)) pass0 (pa_cons (pv 2) (pa_cons (pe_callB k_len (by rfl) T.z_len (by decide +kernel) (pa_cons (pv 5) pa_nil)) pa_nil))) (pa_cons (pe_ix k_ix pe_str (pe_cal K_L_take (hr.mono (by decide)) pass0 (pa_cons (pv 2) (pa_cons pe_int pa_nil))) (fun _ _ => rfl)) pa_nil))) (by rfl))
      (pss_cons (ps_set (i := 9) sc_law.nd rfl (by first | exact Or.inl rfl | exact Or.inr rfl) (pe_lst (pa_cons (pe_op k_add (pe_op k_add (pe_slice k_slice (pv 5) po_none (po_some (pv 7))) (pv 8)) (pe_slice k_slice (pv 5) (po_some (pv 7)) po_none)) (pa_cons (pe_op k_add (pe_slice k_slice (pv 5) po_none (po_some (pv 7))) (pe_slice k_slice (pv 5) (po_some (pe_op k_add (pv 7) pe_int)) po_none)) (pa_cons (pe_op k_add (pe_op k_add (pe_slice k_slice (pv 5) po_none (po_some (pv 7))) (pv 8)) (pe_slice k_slice (pv 5) (po_some (pe_op k_add (pv 7) pe_int)) po_none)) (pa_cons (pe_op k_add (pv 5) (pv 8)) pa_nil))))))
      (pss_cons (ps_set (i := 10) sc_law.nd rfl (by first | exact Or.inl rfl | exact Or.inr rfl) (pe_op op_mod (pv 7) (pe_callB k_len (by rfl) T.z_len (by decide +kernel) (pa_cons (pv 6) pa_nil))))
      (pss_cons (ps_set (i := 9) sc_law.nd rfl (by first | exact Or.inl rfl | exact Or.inr rfl) (pe_op k_add (pv 9) (pe_lst (pa_cons (k_joinK pe_str (pe_op k_add (pe_slice k_slice (pv 6) po_none (po_some (pv 10))) (pe_slice k_slice (pv 6) (po_some (pe_op k_add (pv 10) pe_int)) po_none))) (pa_cons (k_joinK pe_str (pe_op k_add (pe_op k_add (pe_slice k_slice (pv 6) po_none (po_some (pv 10))) (pe_slice k_slice (pv 6) (po_some (pv 10)) (po_some (pe_op k_add (pv 10) pe_int)))) (pe_slice k_slice (pv 6) (po_some (pv 10)) po_none))) pa_nil)))))
      (pss_one (ps_if (pt_cmpR (k_neP hu) (pe_lc (own := [("_law_one", 11)]) rfl sc_law.nd (k_list (pv 9)) (blkOk_by (own := [("_law_one", 11)]) (N := n_law) (sc := defScope s_law) (by decide +kernel)) (fun _ _ _ _ _ => (pg_name (i := 11) sc_law.nd rfl (by first | exact Or.inl rfl | exact Or.inr rfl))) (fun _ _ _ _ _ => (pts_one (pt_not (pt_val (pe_calg K_L_right gd (hr.mono (by decide)) pass0 (pa_cons (pv 11) pa_nil)))))) (fun _ _ _ _ _ => (pv 11))) (pe_lst pa_nil) (nomark _)) (pss_one (ps_ret pe_bl)) pss_nil))))))))))
      (pss_cons (ps_for PassesOwn.never rfl (k_list (pe_lst (pa_cons pe_non (pa_cons pe_int (pa_cons pe_str (pa_cons (pe_tup pa_nil) (pa_cons (pe_tup (pa_cons pe_str pa_nil)) (pa_cons (pe_lst (pa_cons pe_str (pa_cons pe_str pa_nil))) (pa_cons (pe_tup (pa_cons pe_str (pa_cons pe_str (pa_cons pe_str (pa_cons (pe_un un_neg pe_int) pa_nil))))) (pa_cons (pe_tup (pa_cons pe_str (pa_cons pe_str (pa_cons pe_bl pa_nil)))) pa_nil)))))))))) (pg_name (i := 12) sc_law.nd rfl (by first | exact Or.inl rfl | exact Or.inr rfl))
      (pss_one (ps_if (pt_cmpR (k_neP hu) (pe_calg K_L_formatted gd (hr.mono (by decide)) pass0 (pa_cons (pv 12) pa_nil)) (pe_lst (pa_cons pe_str (pa_cons (pe_callB (call_reprD gd hu) (by rfl) T.z_repr (by decide +kernel) (pa_cons (pv 12) pa_nil)) (pa_cons pe_bl pa_nil)))) (nomark _)) (pss_one (ps_ret pe_bl)) pss_nil)))
      (pss_cons (ps_set (i := 9) sc_law.nd rfl (by first | exact Or.inl rfl | exact Or.inr rfl) (pe_lst (pa_cons pe_non (pa_cons pe_int (pa_cons pe_bl (pa_cons (pe_tup pa_nil) (pa_cons (pe_lst pa_nil) (pa_cons pe_str (pa_cons pe_str (pa_cons pe_str (pa_cons pe_str (pa_cons pe_str (pa_cons pe_str (pa_cons pe_str (pa_cons pe_str pa_nil)))))))))))))))
      (pss_cons (ps_set (i := 9) sc_law.nd rfl (by first | exact Or.inl rfl | exact Or.inr rfl) (pe_op k_add (pv 9) (pe_lst (pa_cons pe_str (pa_cons pe_str (pa_cons pe_str (pa_cons pe_str (pa_cons pe_str (pa_cons pe_str pa_nil)))))))))
      (pss_cons (ps_set (i := 9) sc_law.nd rfl (by first | exact Or.inl rfl | exact Or.inr rfl) (pe_op k_add (pv 9) (pe_lst (pa_cons (pe_op k_add pe_str (pe_op o_mul pe_str pe_int)) (pa_cons pe_str (pa_cons pe_str (pa_cons pe_str (pa_cons pe_str (pa_cons pe_str pa_nil)))))))))
      (pss_one (ps_if (pt_cmpR (k_neP hu) (pe_lc (own := [("_law_one", 11)]) rfl sc_law.nd (k_list (pv 9)) (blkOk_by (own := [("_law_one", 11)]) (N := n_law) (sc := defScope s_law) (by decide +kernel)) (fun _ _ _ _ _ => (pg_name (i := 11) sc_law.nd rfl (by first | exact Or.inl rfl | exact Or.inr rfl))) (fun _ _ _ _ _ => (pts_one (pt_not (pt_val (pe_calg K_L_right gd (hr.mono (by decide)) pass0 (pa_cons (pv 11) pa_nil)))))) (fun _ _ _ _ _ => (pv 11))) (pe_lst pa_nil) (nomark _)) (pss_one (ps_ret pe_bl)) pss_nil)))))))))
      (pss_one (ps_ret pe_bl))), ?_⟩
  walk_at "tx"
  refine r_lenQ hS ?_
  walk_at "tx"
  rw [List.length_map]
  obtain ⟨n, en, hn⟩ := turns_of 6 ns.length (by decide)
  rw [show (6 : Int) = ((6 : Nat) : Int) from rfl, en]
  walk_at "tx"
  refine for_range (lo := 0) (n := (n : Int).toNat) (fun i σ H1 => ∃ o1 o2 o3 o4 o5 o6 o7 o8 o9 o10 o11 o12, σ = [some (.ref a), o1, o2, o3, o4, o5, o6, o7, o8, o9, o10, o11, o12] ∧ Same H H1) ⟨_, _, _, _, _, _, _, _, _, _, _, _, rfl, Same.refl H⟩ ?_ ?_
  · rintro i σ H1 hi ⟨o1, o2, o3, o4, o5, o6, o7, o8, o9, o10, o11, o12, rfl, s1⟩
    walk_at "tx"
    refine r_pool (s1.seq hS) hl (by omega) (by omega) fun p H2 hp s2 p2 => ?_
    have hp' : H p = none := by
      cases z : H p with
      | none => rfl
      | some o => rw [s1 _ _ z] at hp; cases hp
    walk_at "tx"
    refine for_range (lo := 0) (n := (((6 : Nat) : Int)).toNat) (fun j σ H3 => ∃ o3 o4 o5 o6 o7 o8 o9 o10 o11 o12, σ = [some (.ref a), some (.int (0 + (i : Int))), some (.ref p), o3, o4, o5, o6, o7, o8, o9, o10, o11, o12] ∧ Same H H3 ∧ PoolAt H3 p) ⟨_, _, _, _, _, _, _, _, _, _, rfl, s1.trans s2, p2⟩ ?_ ?_
    · rintro j σ H3 hj ⟨o3, o4, o5, o6, o7, o8, o9, o10, o11, o12, rfl, s3, p3⟩
      walk_at "tx"
      refine ⟨p, rfl, p3, fun v H4 e D4 de ie => ?_⟩
      walk_at "tx"
      refine ⟨v, e, rfl, de, ie.ev, ie.few, fun H5 s5 => ?_⟩
      have de5 := Dd.same s5 _ _ de
      walk_at "tx"
      refine ⟨v, e, rfl, de5, ie.ok, ie.few, fun _ H6 s6 => ?_, fun z => by rw [ie.ev] at z; cases z⟩
      walk_at "tx"
      refine r_decN (fun c => absurd rfl c) (fun _ => ?_)
      walk_at "tx"
      have lt : (S (evT e)).length ≤ 42 := by rw [S_len]; exact ie.len
      refine ⟨_, .str (S (evT e)), rfl, .str _, fun x hx => by cases hx; exact ⟨by omega, few_likV (by omega)⟩, fun e' he v1 H7 s7 d7 => ?_, fun z => by rw [ev_back ie.ev] at z; cases z⟩
      obtain rfl := Option.some.inj ((ev_back ie.ev).symm.trans he)
      walk_at "tx"
      refine r_neSame d7 (Dd.same (s6.trans s7) _ _ de5) (ev_plain ie.ev).1 (ev_plain ie.ev).2 ?_
      walk_at "tx"
      have p7 := ((D4.pool.same s5).same s6).same s7
      refine r_par3 ?_
      walk_at "tx"
      refine r_split1 (by decide) (by omega) fun LP H8 n8 s8 e8 => ?_
      have ew : Txt.split (S (evT e)) " " = (TL.spl [32] 0 [] (evT e)).map S := split_S (b := [32]) (by simp) (by decide)
      have e8 : H8 LP = some (.lst (((TL.spl [32] 0 [] (evT e)).map S).map V.str)) := by rw [e8]; exact congrArg (fun z => some (HO.lst (z.map V.str))) ew
      clear ew
      have wne := spl_ne [32] (evT e) []
      have wpart := ie.part
      have wfew := split_few (evT e)
      have wlen : (evT e).length ≤ 42 := ie.len
      generalize hws : TL.spl [32] 0 [] (evT e) = ws at *
      walk_at "tx"
      refine r_lenS (by omega) ?_
      walk_at "tx"
      refine r_take (p7.same s8) (by have := ev_pos ie.ev; rw [S_len]; omega) (by omega) fun r H9 r0 r1 d9 => ?_
      walk_at "tx"
      refine r_take d9.pool (by decide) (by decide) fun r' H10 r0' r1' d10 => ?_
      walk_at "tx"
      have ecs : (Str.ofString " k0\"\\*\n9a").cps.toList = [32, 107, 48, 34, 92, 42, 10, 57, 97] := by decide +kernel
      obtain ⟨c, hc, ca⟩ : ∃ c, (Str.ofString " k0\"\\*\n9a").cps.toList[r'.toNat]? = some c ∧ c < 128 := by
        rw [ecs]
        have hlt : r'.toNat < 9 := by omega
        have key : ∀ q : Fin 9, ∃ c, ([32, 107, 48, 34, 92, 42, 10, 57, 97] : List Nat)[q.val]? = some c ∧ c < 128 := by decide
        exact key ⟨r'.toNat, hlt⟩
      refine r_ixS (c := c) (by decide) (by
        have z := atI_nat hc
        rw [Int.toNat_of_nonneg r0'] at z
        exact z) ?_
      walk_at "tx"
      refine ⟨_, _, _, rfl, ?_⟩
      walk_at "tx"
      have e10 := (d9.trans d10).kept _ _ e8 (p7.ne' n8)
      have ft : Asc (S (evT e)) := fun y hy => (evT_lo ie.ev y hy).2
      have ac : Asc ⟨#[c]⟩ := fun y hy => by
        rw [List.mem_singleton.mp hy]
        exact ca
      have lc : (⟨#[c]⟩ : Str).length = 1 := rfl
      generalize hT : S (evT e) = tt at *
      have cl := fun lo hi => cutS_len tt lo hi
      have q1 := cl none (some r)
      have q2 := cl (some r) none
      have q3 := cl (some (r + 1)) none
      refine g_slS (by omega) ?_
      walk_at "tx"
      refine g_addS (sz_of (by rw [lc]; omega)) ?_
      walk_at "tx"
      refine g_slS (by omega) ?_
      walk_at "tx"
      refine g_addS (sz_of (by rw [cat_len, lc]; omega)) ?_
      walk_at "tx"
      refine g_slS (by omega) ?_
      walk_at "tx"
      refine g_slS (by omega) ?_
      walk_at "tx"
      refine g_addS (sz_of (by omega)) ?_
      walk_at "tx"
      refine g_slS (by omega) ?_
      walk_at "tx"
      refine g_addS (sz_of (by rw [lc]; omega)) ?_
      walk_at "tx"
      refine g_slS (by omega) ?_
      walk_at "tx"
      refine g_addS (sz_of (by rw [cat_len, lc]; omega)) ?_
      walk_at "tx"
      refine g_addS (sz_of (by rw [lc]; omega)) ?_
      walk_at "tx"
      refine a_lst (by simp) fun L1 H11 n11 s11 e11 => ?_
      have e10' := s11 _ _ e10
      have wl : 1 ≤ ws.length := by
        cases ws with
        | nil => exact absurd rfl wne
        | cons _ _ => simp
      have wlt : ws.length ≤ 43 := by omega
      walk_at "tx"
      rw [List.length_map, List.length_map]
      refine ⟨_, _, rfl, rfl, by show (0 : Int) < (ws.length : Int); omega, ?_⟩
      have sp0 := Int.emod_nonneg r (show (ws.length : Int) ≠ 0 by omega)
      have sp1 := Int.emod_lt_of_pos r (show (0 : Int) < (ws.length : Int) by omega)
      obtain ⟨sn, hsn⟩ : ∃ sn : Nat, r % (ws.length : Int) = (sn : Int) := ⟨_, (Int.toNat_of_nonneg sp0).symm⟩
      rw [hsn] at sp1
      have hn : sn < ws.length := by omega
      have hvl : ((ws.map S).map V.str).length = ws.length := by rw [List.length_map, List.length_map]
      walk_at "tx"
      refine g_slL e10' fun M1 H12 n12 s12 e12 => ?_
      rw [hsn, cutV_to _ _ (by omega)] at e12
      walk_at "tx"
      refine g_slL (s12 _ _ e10') fun M2 H13 n13 s13 e13 => ?_
      rw [hsn] at e13
      have e13 : H13 M2 = some (.lst (((ws.map S).map V.str).drop (sn + 1))) := by rw [← cutV_from _ (sn + 1) (by omega)]; exact e13
      walk_at "tx"
      refine g_catL (s13 _ _ e12) e13 (by rw [List.length_take, List.length_drop]; omega) fun M3 H14 n14 s14 e14 => ?_
      have e14 : H14 M3 = some (.lst (((outW ws sn).map S).map V.str)) := by
        rw [e14]
        unfold outW
        rw [List.map_append, List.map_append, List.map_take, List.map_take, List.map_drop, List.map_drop]
      have lo1 := outW_len ws sn hn
      have lo2 := dblW_len ws sn hn wpart
      have lw : lenW ws ≤ 42 := by rw [← hws, spl_lenW]; exact wlen
      have jo : ∀ zs, lenW zs ≤ 59 → ((zs.map S).map (·.length)).sum + (zs.map S).length * (Str.ofString " ").length ≤ 16777216 := fun zs hz => by
        have e1 : (Str.ofString " ").length = 1 := by decide
        unfold lenW at hz
        rw [lens, List.length_map, e1]
        omega
      walk_at "tx"
      refine r_join e14 (jo _ (by omega)) ?_
      have s10_14 := (s11.trans s12).trans (s13.trans s14)
      have e15 := s10_14 _ _ e10
      walk_at "tx"
      refine g_slL e15 fun N1 H15 n15 s15 e15' => ?_
      rw [hsn, cutV_to _ _ (by omega)] at e15'
      walk_at "tx"
      refine g_slL (s15 _ _ e15) fun N2 H16 n16 s16 e16 => ?_
      rw [hsn, cutV_one _ _ (by omega)] at e16
      walk_at "tx"
      refine g_catL (s16 _ _ e15') e16 (by rw [List.length_take, List.length_take, List.length_drop]; omega) fun N3 H17 n17 s17 e17 => ?_
      walk_at "tx"
      refine g_slL (s17 _ _ (s16 _ _ (s15 _ _ e15))) fun N4 H18 n18 s18 e18 => ?_
      rw [hsn, cutV_from _ _ (by omega)] at e18
      walk_at "tx"
      refine g_catL (s18 _ _ e17) e18 (by rw [List.length_append, List.length_take, List.length_take, List.length_drop]; omega) fun N5 H19 n19 s19 e19 => ?_
      have e19 : H19 N5 = some (.lst (((dblW ws sn).map S).map V.str)) := by
        rw [e19]
        unfold dblW
        rw [List.map_append, List.map_append, List.map_append, List.map_append, List.map_take, List.map_take, List.map_take, List.map_take, List.map_drop, List.map_drop]
      walk_at "tx"
      refine r_join e19 (jo _ (by omega)) ?_
      walk_at "tx"
      refine a_lst (by simp) fun L2 H20 n20 s20 e20 => ?_
      walk_at "tx"
      refine g_catL ((((((s12.trans s13).trans s14).trans (s15.trans s16)).trans (s17.trans (s18.trans (s19.trans s20)))) _ _ e11)) e20 (by simp) fun L3 H21 n21 s21 e21 => ?_
      walk_at "tx"
      refine ⟨_, rfl, ⟨_, SqL.of e21⟩, ?_⟩
      have al : DdAll K H21 _ _ := .cons (.str (cutS tt none (some r) ++ ⟨#[c]⟩ ++ cutS tt (some r) none)) (.cons (.str (cutS tt none (some r) ++ cutS tt (some (r + 1)) none)) (.cons (.str (cutS tt none (some r) ++ ⟨#[c]⟩ ++ cutS tt (some (r + 1)) none)) (.cons (.str (tt ++ ⟨#[c]⟩)) (.cons (.str (Txt.join (Str.ofString " ") ((outW ws sn).map S))) (.cons (.str (Txt.join (Str.ofString " ") ((dblW ws sn).map S))) .nil)))))
      have wa : ∀ q ∈ ws, ∀ c ∈ q, c < 128 := fun q hq c hc => by
        have z := spl_joined 32 (evT e) []
        rw [hws] at z
        exact join_mem (P := fun c => c < 128) ws (by rw [z]; exact fun c hc => (evT_lo ie.ev c hc).2) q hq c hc
      have rts : ∀ d ∈ [PyData.str (cutS tt none (some r) ++ ⟨#[c]⟩ ++ cutS tt (some r) none), .str (cutS tt none (some r) ++ cutS tt (some (r + 1)) none), .str (cutS tt none (some r) ++ ⟨#[c]⟩ ++ cutS tt (some (r + 1)) none), .str (tt ++ ⟨#[c]⟩), .str (Txt.join (Str.ofString " ") ((outW ws sn).map S)), .str (Txt.join (Str.ofString " ") ((dblW ws sn).map S))], Rt d := fun d hd => by
        simp only [List.mem_cons, List.not_mem_nil, or_false] at hd
        rcases hd with rfl | rfl | rfl | rfl | rfl | rfl
        · exact rt_short (((ft.cut _ _).cat ac).cat (ft.cut _ _)) (by rw [cat_len, cat_len, lc]; have := cut_two tt r0 (by omega); omega)
        · exact rt_short ((ft.cut _ _).cat (ft.cut _ _)) (by rw [cat_len]; have := cut_two tt r0 (by omega); have := cut_next tt r0; omega)
        · exact rt_short (((ft.cut _ _).cat ac).cat (ft.cut _ _)) (by rw [cat_len, cat_len, lc]; have := cut_two tt r0 (by omega); have := cut_next tt r0; omega)
        · exact rt_short (ft.cat ac) (by rw [cat_len, lc]; omega)
        · exact rt_short (asc_join fun q hq => wa q (by unfold outW at hq; rcases List.mem_append.mp hq with h | h; exact List.mem_of_mem_take h; exact List.mem_of_mem_drop h)) (by rw [join_lenW]; omega)
        · exact rt_short (asc_join fun q hq => wa q (by unfold dblW at hq; rcases List.mem_append.mp hq with h | h; (rcases List.mem_append.mp h with h | h; exact List.mem_of_mem_take h; exact List.mem_of_mem_drop (List.mem_of_mem_take h)); exact List.mem_of_mem_drop h)) (by rw [join_lenW]; omega)
      refine lc_noneP Rt e21 al rts (by simp) (fun v d hd rd H22 R s22 q => ?_) (fun D H22 hD s22 e22 => ?_)
      · walk_at "tx"
        refine ⟨v, d, rfl, Dd.same s22 _ _ hd, rd.1, rd.2, fun H23 s23 => ?_⟩
        walk_at "tx"
        exact q H23 s23
      · walk_at "tx"
        refine a_lst (by simp) fun L4 H23 n23 s23 e23 => ?_
        walk_at "tx"
        refine r_neSame (.lst (s23 _ _ e22) .nil) (.lst e23 .nil) rfl (by show 0 + 1 ≤ 60; decide) ?_
        walk_at "tx"
        have s310 : Same H H10 := ((((((D4.same s5).same s6).same s7).same s8).trans d9).trans d10).back s3 hp'
        have s11_23 := ((s11.trans s12).trans (s13.trans s14)).trans (((s15.trans s16).trans (s17.trans s18)).trans (((s19.trans s20).trans (s21.trans s22)).trans s23))
        exact ⟨_, _, _, _, _, _, _, _, _, _, rfl, s310.trans s11_23, d10.pool.same s11_23⟩
    · rintro σ H3 ⟨o3, o4, o5, o6, o7, o8, o9, o10, o11, o12, rfl, s3, p3⟩
      walk_at "rd1"
      walk_at "rd1"
      walk_at "rd1"
      refine ev_use (K := K) (d := .list things) (by unfold things; walk_at "ed") fun v1 H4 s4 d4 => ?_
      cases d4 with
      | lst e4 al =>
        refine ⟨_, rfl, ⟨_, SqL.of e4⟩, ?_⟩
        refine for_data e4 (fun σ => ∃ o1 o2 o3 o4 o5 o6 o7 o8 o9 o10 o11 o12, σ = [some (.ref a), o1, o2, o3, o4, o5, o6, o7, o8, o9, o10, o11, o12]) ⟨_, _, _, _, _, _, _, _, _, _, _, _, rfl⟩ ?_ ?_
        · rintro v hv σ H5 ⟨o1, o2, o3, o4, o5, o6, o7, o8, o9, o10, o11, o12, rfl⟩ s5
          obtain ⟨d, hd, od⟩ := DdAll.pick al things_odd hv
          have hd := Dd.same s5 _ _ hd
          walk_at "tx"
          refine ⟨v, d, rfl, hd, od.ok, od.few, od.shows, od.no, fun v2 H6 s6 d6 => ?_⟩
          walk_at "tx"
          refine r_reprD (Dd.same s6 _ _ hd) od.shows ?_
          walk_at "tx"
          refine a_lst (by simp) fun L2 H7 n7 s7 e7 => ?_
          refine r_neSame (Dd.same s7 _ _ d6) (.lst e7 (.cons (.str _) (.cons (.str _) (.cons (.bl _) .nil)))) rfl (by show max 0 (max 0 (max 0 0)) + 1 ≤ 60; decide) ?_
          walk_at "tx"
          exact ⟨⟨_, _, _, _, _, _, _, _, _, _, _, _, rfl⟩, s5.trans (s6.trans s7)⟩
        · rintro σ H5 ⟨o1, o2, o3, o4, o5, o6, o7, o8, o9, o10, o11, o12, rfl⟩ s5
          have s35 := s3.trans (s4.trans s5)
          walk_at "rd1"
          walk_at "rd1"
          refine ev_use (K := K) (d := .list bad1) (by unfold bad1; walk_at "ed") fun v2 H6 s6 d6 => ?_
          walk_at "rd1"
          walk_at "rd1"
          walk_at "rd1"
          walk_at "rd1"
          walk_at "rd1"
          refine ev_use (K := K) (d := .list bad2) (by unfold bad2; walk_at "ed") fun v3 H7 s7 d7 => ?_
          refine g_cat (Dd.same s7 _ _ d6) d7 (by simp [bad1, bad2]) fun v4 H8 s8 d8 => ?_
          walk_at "rd1"
          walk_at "rd1"
          walk_at "rd1"
          walk_at "rd1"
          walk_at "rd1"
          refine ev_use (K := K) (d := .list bad3) (ed_lst (ed_cons (ed_cat ed_str ed_nines b3_a) (ed_cons ed_str (ed_cons ed_str (ed_cons ed_str (ed_cons ed_str (ed_cons ed_str ed_nil)))))) (by simp [bad3])) fun v5 H9 s9 d9 => ?_
          refine g_cat (Dd.same s9 _ _ d8) d9 (by simp [bad1, bad2, bad3]) fun v6 H10 s10 d10 => ?_
          cases d10 with
          | lst e10 al =>
            walk_at "tx"
            refine ⟨_, rfl, ⟨_, SqL.of e10⟩, ?_⟩
            refine lc_noneP Rt e10 al bads (by simp [bad1, bad2, bad3]) (fun v d hd rd H22 R s22 q => ?_) (fun D H22 hD s22 e22 => ?_)
            · walk_at "tx"
              refine ⟨v, d, rfl, Dd.same s22 _ _ hd, rd.1, rd.2, fun H23 s23 => ?_⟩
              walk_at "tx"
              exact q H23 s23
            · walk_at "tx"
              refine a_lst (by simp) fun L4 H23 n23 s23 e23 => ?_
              walk_at "tx"
              refine r_neSame (.lst (s23 _ _ e22) .nil) (.lst e23 .nil) rfl (by show 0 + 1 ≤ 60; decide) ?_
              walk_at "tx"
              exact ⟨_, _, _, _, _, _, _, _, _, _, _, _, rfl, s35.trans (s6.trans (s7.trans (s8.trans (s9.trans (s10.trans (s22.trans s23))))))⟩
  · rintro σ H1 ⟨o1, o2, o3, o4, o5, o6, o7, o8, o9, o10, o11, o12, rfl, s1⟩
    walk_at "tx"
    exact k _
end
end K07

set_option Elab.async false
set_option linter.all false
set_option maxRecDepth 100000
set_option maxHeartbeats 4000000
namespace K07
open PySem PySem.Spec PyProof.Rows L2 Tk
/-- a tuple of texts of the module -/
def TupK (K : PySem.W.Frag) (b : Addr) (xs : List Str) : Prop := ∃ (o : Obj) (its : Array Value) (n : Nat), K.lookup b = some o ∧ o.cls = .type "tuple" ∧ o.data = .seq its n ∧ its.size ≤ sizeLine ∧ StrsAre its.toList xs
theorem TupK.at_ {K : PySem.W.Frag} {b : Addr} {xs : List Str} (h : TupK K b xs) (H : Hp) : SqT K H b (xs.map V.str) := by
  obtain ⟨o, its, n, l1, l2, l3, l4, l5⟩ := h
  exact .inr ⟨o, its, n, l1, l2, l3, l4, vals_strs l5⟩
theorem obj_mk {K : PySem.W.Frag} {b : Addr} {xs : List Str} (h : ∃ (gd : Option Addr) (its : Array Value) (n : Nat) (sl : Array (Option Value)), K.lookup b = some ⟨.type "tuple", gd, .seq its n, sl⟩ ∧ its.size ≤ sizeLine ∧ StrsAre its.toList xs) :
    ∃ (o : Obj) (its : Array Value) (n : Nat), K.lookup b = some o ∧ o.cls = .type "tuple" ∧ o.data = .seq its n ∧ its.size ≤ sizeLine ∧ StrsAre its.toList xs := by
  obtain ⟨gd, its, n, sl, h1, h2, h3⟩ := h
  exact ⟨_, its, n, h1, rfl, rfl, h2, h3⟩
section
abbrev s_ini_BadEvent : Stmt := inClass (top 3) 0
theorem sc_ini_BadEvent : FnScope ["self", "value"] ["self", "value"] (defScope s_ini_BadEvent) := ⟨rfl, rfl, rfl, by decide +kernel, rfl, by decide +kernel, by decide +kernel⟩
abbrev s_ini_BadText : Stmt := inClass (top 2) 0
theorem sc_ini_BadText : FnScope ["self", "value"] ["self", "value"] (defScope s_ini_BadText) := ⟨rfl, rfl, rfl, by decide +kernel, rfl, by decide +kernel, by decide +kernel⟩
end
theorem all_mk {l : PySem.W.OpenLaw} {w : World} {K : PySem.W.Frag} {h : Heap} {mg : Str → Option Value} {fa : Addr} {t1 t2 t3 t4 : Tok} (X : K.In h) (G : h.Ns mainGlobals mg) (hfa : mg "law" = some (.ref fa))
    {C_TombError : Addr}
    {C_BadEvent fI0 : Addr} {nm0 q0 : Str} {N0 : Addr} {bs0 : List Value} {sn0 : List Str} {sub0 : List Value} {ab0 : Bool} {col0 : Option Bool} {dd0 : Option Addr} {ma0 mb0 mc0 md0 me0 : Option Value} {iod0 ian0 : Option Addr} {isl0 : Array (Option Value)} {ioc0 ikV0 idc0 ipm0 icd0 ict0 : Value}
    {C_BadText fI1 : Addr} {nm1 q1 : Str} {N1 : Addr} {bs1 : List Value} {sn1 : List Str} {sub1 : List Value} {ab1 : Bool} {col1 : Option Bool} {dd1 : Option Addr} {ma1 mb1 mc1 md1 me1 : Option Value} {iod1 ian1 : Option Addr} {isl1 : Array (Option Value)} {ioc1 ikV1 idc1 ipm1 icd1 ict1 : Value}
    {od0 an0 : Option Addr} {sl0 : Array (Option Value)} {oc0 kV0 dc0 pm0 cd0 ct0 : Value} {f0 : Addr}
    {od1 an1 : Option Addr} {sl1 : Array (Option Value)} {oc1 kV1 dc1 pm1 cd1 ct1 : Value} {f1 : Addr}
    {od2 an2 : Option Addr} {sl2 : Array (Option Value)} {oc2 kV2 dc2 pm2 cd2 ct2 : Value} {f2 : Addr}
    {od3 an3 : Option Addr} {sl3 : Array (Option Value)} {oc3 kV3 dc3 pm3 cd3 ct3 : Value} {f3 : Addr}
    {od4 an4 : Option Addr} {sl4 : Array (Option Value)} {oc4 kV4 dc4 pm4 cd4 ct4 : Value} {f4 : Addr}
    {od5 an5 : Option Addr} {sl5 : Array (Option Value)} {oc5 kV5 dc5 pm5 cd5 ct5 : Value} {f5 : Addr}
    {od6 an6 : Option Addr} {sl6 : Array (Option Value)} {oc6 kV6 dc6 pm6 cd6 ct6 : Value} {f6 : Addr}
    {od7 an7 : Option Addr} {sl7 : Array (Option Value)} {oc7 kV7 dc7 pm7 cd7 ct7 : Value} {f7 : Addr}
    {od8 an8 : Option Addr} {sl8 : Array (Option Value)} {oc8 kV8 dc8 pm8 cd8 ct8 : Value} {f8 : Addr}
    {od9 an9 : Option Addr} {sl9 : Array (Option Value)} {oc9 kV9 dc9 pm9 cd9 ct9 : Value} {f9 : Addr}
    {od10 an10 : Option Addr} {sl10 : Array (Option Value)} {oc10 kV10 dc10 pm10 cd10 ct10 : Value} {f10 : Addr}
    {od11 an11 : Option Addr} {sl11 : Array (Option Value)} {oc11 kV11 dc11 pm11 cd11 ct11 : Value} {f11 : Addr}
    {od12 an12 : Option Addr} {sl12 : Array (Option Value)} {oc12 kV12 dc12 pm12 cd12 ct12 : Value} {f12 : Addr}
    {od13 an13 : Option Addr} {sl13 : Array (Option Value)} {oc13 kV13 dc13 pm13 cd13 ct13 : Value} {f13 : Addr}
    {od14 an14 : Option Addr} {sl14 : Array (Option Value)} {oc14 kV14 dc14 pm14 cd14 ct14 : Value} {f14 : Addr}
    {od15 an15 : Option Addr} {sl15 : Array (Option Value)} {oc15 kV15 dc15 pm15 cd15 ct15 : Value} {f15 : Addr}
    {od16 an16 : Option Addr} {sl16 : Array (Option Value)} {oc16 kV16 dc16 pm16 cd16 ct16 : Value} {f16 : Addr}
    {od17 an17 : Option Addr} {sl17 : Array (Option Value)} {oc17 kV17 dc17 pm17 cd17 ct17 : Value} {f17 : Addr}
    {od18 an18 : Option Addr} {sl18 : Array (Option Value)} {oc18 kV18 dc18 pm18 cd18 ct18 : Value} {f18 : Addr}
    {od19 an19 : Option Addr} {sl19 : Array (Option Value)} {oc19 kV19 dc19 pm19 cd19 ct19 : Value} {f19 : Addr}
    {od20 an20 : Option Addr} {sl20 : Array (Option Value)} {oc20 kV20 dc20 pm20 cd20 ct20 : Value} {f20 : Addr}
    {od21 an21 : Option Addr} {sl21 : Array (Option Value)} {oc21 kV21 dc21 pm21 cd21 ct21 : Value} {f21 : Addr}
    {od22 an22 : Option Addr} {sl22 : Array (Option Value)} {oc22 kV22 dc22 pm22 cd22 ct22 : Value} {f22 : Addr}
    {od23 an23 : Option Addr} {sl23 : Array (Option Value)} {oc23 kV23 dc23 pm23 cd23 ct23 : Value} {f23 : Addr}
    {od24 an24 : Option Addr} {sl24 : Array (Option Value)} {oc24 kV24 dc24 pm24 cd24 ct24 : Value} {f24 : Addr}
    {od25 an25 : Option Addr} {sl25 : Array (Option Value)} {oc25 kV25 dc25 pm25 cd25 ct25 : Value} {f25 : Addr}
    {od26 an26 : Option Addr} {sl26 : Array (Option Value)} {oc26 kV26 dc26 pm26 cd26 ct26 : Value} {f26 : Addr}
    {od27 an27 : Option Addr} {sl27 : Array (Option Value)} {oc27 kV27 dc27 pm27 cd27 ct27 : Value} {f27 : Addr}
    {DF : Addr} {fes : Array DictEntry} {fn : Nat}
    (r_a : PySem.W.nsIn K mainGlobals "TombError" = some (some (.ref C_TombError))) (r_t : PySem.W.typeIn K (.ref C_TombError) = some (.type "type")) (r_d : PySem.W.hasDictIn K C_TombError = true)
    (x0a : PySem.W.nsIn K mainGlobals "BadEvent" = some (some (.ref C_BadEvent))) (x0l : K.lookup C_BadEvent = some (excClassObj nm0 q0 C_BadEvent N0 bs0 [.ref C_TombError, .type "ValueError", .type "Exception", .type "BaseException", .type "object"] true sn0 sub0 ab0 col0 dd0 ma0 mb0 mc0 md0 me0 "ValueError.__new__")) (x0sa : PySem.W.findIn K (.ref C_BadEvent) "__setattr__" = some (some (.builtin "object.__setattr__"))) (x0ga : PySem.W.findIn K (.ref C_BadEvent) "__getattribute__" = some (some (.builtin "BaseException.__getattribute__"))) (x0gg : PySem.W.findIn K (.ref C_BadEvent) "__getattr__" = some none) (x0nv : PySem.W.findIn K (.ref C_BadEvent) "value" = some none) (x0in : PySem.W.findIn K (.ref C_BadEvent) "__init__" = some (some (.ref fI0))) (x0ti : PySem.W.typeIn K (.ref fI0) = some (.type "function")) (x0il : K.lookup fI0 = some ⟨ioc0, iod0, .func (PySem.W.fnOf "__init__" "BadEvent.__init__" (defArgs s_ini_BadEvent) (defBody s_ini_BadEvent) (defScope s_ini_BadEvent) .none ikV0 idc0 ipm0 ian0 icd0 ict0), isl0⟩) (x0ic : PySem.W.codeIn K icd0 "BadEvent.__init__" = true) (x0ik : PySem.W.keepIn K (.ref fI0) = true) (x0k : PySem.W.keepIn K (.ref C_BadEvent) = true) (x0be : PySem.W.subIn K (.ref C_BadEvent) (.type "BaseException") = some true) (x0ve : PySem.W.subIn K (.ref C_BadEvent) (.type "ValueError") = some true) (x0re : PySem.W.subIn K (.ref C_BadEvent) (.ref C_TombError) = some true) (x0se : PySem.W.subIn K (.ref C_BadEvent) (.ref C_BadEvent) = some true) (x0t : PySem.W.typeIn K (.ref C_BadEvent) = some (.type "type")) (x0d : PySem.W.hasDictIn K C_BadEvent = true) (x0c : PySem.W.isClsIn K C_BadEvent = true)
    (x1a : PySem.W.nsIn K mainGlobals "BadText" = some (some (.ref C_BadText))) (x1l : K.lookup C_BadText = some (excClassObj nm1 q1 C_BadText N1 bs1 [.ref C_TombError, .type "ValueError", .type "Exception", .type "BaseException", .type "object"] true sn1 sub1 ab1 col1 dd1 ma1 mb1 mc1 md1 me1 "ValueError.__new__")) (x1sa : PySem.W.findIn K (.ref C_BadText) "__setattr__" = some (some (.builtin "object.__setattr__"))) (x1ga : PySem.W.findIn K (.ref C_BadText) "__getattribute__" = some (some (.builtin "BaseException.__getattribute__"))) (x1gg : PySem.W.findIn K (.ref C_BadText) "__getattr__" = some none) (x1nv : PySem.W.findIn K (.ref C_BadText) "value" = some none) (x1in : PySem.W.findIn K (.ref C_BadText) "__init__" = some (some (.ref fI1))) (x1ti : PySem.W.typeIn K (.ref fI1) = some (.type "function")) (x1il : K.lookup fI1 = some ⟨ioc1, iod1, .func (PySem.W.fnOf "__init__" "BadText.__init__" (defArgs s_ini_BadText) (defBody s_ini_BadText) (defScope s_ini_BadText) .none ikV1 idc1 ipm1 ian1 icd1 ict1), isl1⟩) (x1ic : PySem.W.codeIn K icd1 "BadText.__init__" = true) (x1ik : PySem.W.keepIn K (.ref fI1) = true) (x1k : PySem.W.keepIn K (.ref C_BadText) = true) (x1be : PySem.W.subIn K (.ref C_BadText) (.type "BaseException") = some true) (x1ve : PySem.W.subIn K (.ref C_BadText) (.type "ValueError") = some true) (x1re : PySem.W.subIn K (.ref C_BadText) (.ref C_TombError) = some true) (x1se : PySem.W.subIn K (.ref C_BadText) (.ref C_BadText) = some true) (x1t : PySem.W.typeIn K (.ref C_BadText) = some (.type "type")) (x1d : PySem.W.hasDictIn K C_BadText = true) (x1c : PySem.W.isClsIn K C_BadText = true)
    (a0 : PySem.W.nsIn K mainGlobals "_law_pool" = some (some (.ref f0))) (l0 : K.lookup f0 = some ⟨oc0, od0, .func (PySem.W.fnOf "_law_pool" "_law_pool" (defArgs s_L_pool) (defBody s_L_pool) (defScope s_L_pool) .none kV0 dc0 pm0 an0 cd0 ct0), sl0⟩) (c0 : PySem.W.codeIn K cd0 "_law_pool" = true) (k0 : PySem.W.keepIn K (.ref f0) = true)
    (a1 : PySem.W.nsIn K mainGlobals "_law_take" = some (some (.ref f1))) (l1 : K.lookup f1 = some ⟨oc1, od1, .func (PySem.W.fnOf "_law_take" "_law_take" (defArgs s_L_take) (defBody s_L_take) (defScope s_L_take) .none kV1 dc1 pm1 an1 cd1 ct1), sl1⟩) (c1 : PySem.W.codeIn K cd1 "_law_take" = true) (k1 : PySem.W.keepIn K (.ref f1) = true)
    (a2 : PySem.W.nsIn K mainGlobals "_law_drawn" = some (some (.ref f2))) (l2 : K.lookup f2 = some ⟨oc2, od2, .func (PySem.W.fnOf "_law_drawn" "_law_drawn" (defArgs s_L_drawn) (defBody s_L_drawn) (defScope s_L_drawn) .none kV2 dc2 pm2 an2 cd2 ct2), sl2⟩) (c2 : PySem.W.codeIn K cd2 "_law_drawn" = true) (k2 : PySem.W.keepIn K (.ref f2) = true)
    (a3 : PySem.W.nsIn K mainGlobals "_law_written" = some (some (.ref f3))) (l3 : K.lookup f3 = some ⟨oc3, od3, .func (PySem.W.fnOf "_law_written" "_law_written" (defArgs s_L_written) (defBody s_L_written) (defScope s_L_written) .none kV3 dc3 pm3 an3 cd3 ct3), sl3⟩) (c3 : PySem.W.codeIn K cd3 "_law_written" = true) (k3 : PySem.W.keepIn K (.ref f3) = true)
    (a4 : PySem.W.nsIn K mainGlobals "is_word" = some (some (.ref f4))) (l4 : K.lookup f4 = some ⟨oc4, od4, .func (PySem.W.fnOf "is_word" "is_word" (defArgs s_is_word) (defBody s_is_word) (defScope s_is_word) .none kV4 dc4 pm4 an4 cd4 ct4), sl4⟩) (c4 : PySem.W.codeIn K cd4 "is_word" = true) (k4 : PySem.W.keepIn K (.ref f4) = true)
    (a5 : PySem.W.nsIn K mainGlobals "is_value" = some (some (.ref f5))) (l5 : K.lookup f5 = some ⟨oc5, od5, .func (PySem.W.fnOf "is_value" "is_value" (defArgs s_is_value) (defBody s_is_value) (defScope s_is_value) .none kV5 dc5 pm5 an5 cd5 ct5), sl5⟩) (c5 : PySem.W.codeIn K cd5 "is_value" = true) (k5 : PySem.W.keepIn K (.ref f5) = true)
    (a6 : PySem.W.nsIn K mainGlobals "is_number" = some (some (.ref f6))) (l6 : K.lookup f6 = some ⟨oc6, od6, .func (PySem.W.fnOf "is_number" "is_number" (defArgs s_is_number) (defBody s_is_number) (defScope s_is_number) .none kV6 dc6 pm6 an6 cd6 ct6), sl6⟩) (c6 : PySem.W.codeIn K cd6 "is_number" = true) (k6 : PySem.W.keepIn K (.ref f6) = true)
    (a7 : PySem.W.nsIn K mainGlobals "_is_index" = some (some (.ref f7))) (l7 : K.lookup f7 = some ⟨oc7, od7, .func (PySem.W.fnOf "_is_index" "_is_index" (defArgs s_is_index) (defBody s_is_index) (defScope s_is_index) .none kV7 dc7 pm7 an7 cd7 ct7), sl7⟩) (c7 : PySem.W.codeIn K cd7 "_is_index" = true) (k7 : PySem.W.keepIn K (.ref f7) = true)
    (a8 : PySem.W.nsIn K mainGlobals "_are_keys" = some (some (.ref f8))) (l8 : K.lookup f8 = some ⟨oc8, od8, .func (PySem.W.fnOf "_are_keys" "_are_keys" (defArgs s_are_keys) (defBody s_are_keys) (defScope s_are_keys) .none kV8 dc8 pm8 an8 cd8 ct8), sl8⟩) (c8 : PySem.W.codeIn K cd8 "_are_keys" = true) (k8 : PySem.W.keepIn K (.ref f8) = true)
    (a9 : PySem.W.nsIn K mainGlobals "_is_part" = some (some (.ref f9))) (l9 : K.lookup f9 = some ⟨oc9, od9, .func (PySem.W.fnOf "_is_part" "_is_part" (defArgs s_is_part) (defBody s_is_part) (defScope s_is_part) .none kV9 dc9 pm9 an9 cd9 ct9), sl9⟩) (c9 : PySem.W.codeIn K cd9 "_is_part" = true) (k9 : PySem.W.keepIn K (.ref f9) = true)
    (a10 : PySem.W.nsIn K mainGlobals "is_event" = some (some (.ref f10))) (l10 : K.lookup f10 = some ⟨oc10, od10, .func (PySem.W.fnOf "is_event" "is_event" (defArgs s_is_event) (defBody s_is_event) (defScope s_is_event) .none kV10 dc10 pm10 an10 cd10 ct10), sl10⟩) (c10 : PySem.W.codeIn K cd10 "is_event" = true) (k10 : PySem.W.keepIn K (.ref f10) = true)
    (a11 : PySem.W.nsIn K mainGlobals "format_value" = some (some (.ref f11))) (l11 : K.lookup f11 = some ⟨oc11, od11, .func (PySem.W.fnOf "format_value" "format_value" (defArgs s_format_value) (defBody s_format_value) (defScope s_format_value) .none kV11 dc11 pm11 an11 cd11 ct11), sl11⟩) (c11 : PySem.W.codeIn K cd11 "format_value" = true) (k11 : PySem.W.keepIn K (.ref f11) = true)
    (a12 : PySem.W.nsIn K mainGlobals "_format_part" = some (some (.ref f12))) (l12 : K.lookup f12 = some ⟨oc12, od12, .func (PySem.W.fnOf "_format_part" "_format_part" (defArgs s_format_part) (defBody s_format_part) (defScope s_format_part) .none kV12 dc12 pm12 an12 cd12 ct12), sl12⟩) (c12 : PySem.W.codeIn K cd12 "_format_part" = true) (k12 : PySem.W.keepIn K (.ref f12) = true)
    (a13 : PySem.W.nsIn K mainGlobals "format_event" = some (some (.ref f13))) (l13 : K.lookup f13 = some ⟨oc13, od13, .func (PySem.W.fnOf "format_event" "format_event" (defArgs s_format_event) (defBody s_format_event) (defScope s_format_event) .none kV13 dc13 pm13 an13 cd13 ct13), sl13⟩) (c13 : PySem.W.codeIn K cd13 "format_event" = true) (k13 : PySem.W.keepIn K (.ref f13) = true)
    (a14 : PySem.W.nsIn K mainGlobals "_law_formatted" = some (some (.ref f14))) (l14 : K.lookup f14 = some ⟨oc14, od14, .func (PySem.W.fnOf "_law_formatted" "_law_formatted" (defArgs s_L_formatted) (defBody s_L_formatted) (defScope s_L_formatted) .none kV14 dc14 pm14 an14 cd14 ct14), sl14⟩) (c14 : PySem.W.codeIn K cd14 "_law_formatted" = true) (k14 : PySem.W.keepIn K (.ref f14) = true)
    (a15 : PySem.W.nsIn K mainGlobals "likely_value" = some (some (.ref f15))) (l15 : K.lookup f15 = some ⟨oc15, od15, .func (PySem.W.fnOf "likely_value" "likely_value" (defArgs s_likely_value) (defBody s_likely_value) (defScope s_likely_value) .none kV15 dc15 pm15 an15 cd15 ct15), sl15⟩) (c15 : PySem.W.codeIn K cd15 "likely_value" = true) (k15 : PySem.W.keepIn K (.ref f15) = true)
    (a16 : PySem.W.nsIn K mainGlobals "likely_number" = some (some (.ref f16))) (l16 : K.lookup f16 = some ⟨oc16, od16, .func (PySem.W.fnOf "likely_number" "likely_number" (defArgs s_likely_number) (defBody s_likely_number) (defScope s_likely_number) .none kV16 dc16 pm16 an16 cd16 ct16), sl16⟩) (c16 : PySem.W.codeIn K cd16 "likely_number" = true) (k16 : PySem.W.keepIn K (.ref f16) = true)
    (a17 : PySem.W.nsIn K mainGlobals "_likely_keys" = some (some (.ref f17))) (l17 : K.lookup f17 = some ⟨oc17, od17, .func (PySem.W.fnOf "_likely_keys" "_likely_keys" (defArgs s_likely_keys) (defBody s_likely_keys) (defScope s_likely_keys) .none kV17 dc17 pm17 an17 cd17 ct17), sl17⟩) (c17 : PySem.W.codeIn K cd17 "_likely_keys" = true) (k17 : PySem.W.keepIn K (.ref f17) = true)
    (a18 : PySem.W.nsIn K mainGlobals "_likely_part" = some (some (.ref f18))) (l18 : K.lookup f18 = some ⟨oc18, od18, .func (PySem.W.fnOf "_likely_part" "_likely_part" (defArgs s_likely_part) (defBody s_likely_part) (defScope s_likely_part) .none kV18 dc18 pm18 an18 cd18 ct18), sl18⟩) (c18 : PySem.W.codeIn K cd18 "_likely_part" = true) (k18 : PySem.W.keepIn K (.ref f18) = true)
    (a19 : PySem.W.nsIn K mainGlobals "_likely_event" = some (some (.ref f19))) (l19 : K.lookup f19 = some ⟨oc19, od19, .func (PySem.W.fnOf "_likely_event" "_likely_event" (defArgs s_likely_event) (defBody s_likely_event) (defScope s_likely_event) .none kV19 dc19 pm19 an19 cd19 ct19), sl19⟩) (c19 : PySem.W.codeIn K cd19 "_likely_event" = true) (k19 : PySem.W.keepIn K (.ref f19) = true)
    (a20 : PySem.W.nsIn K mainGlobals "event_in" = some (some (.ref f20))) (l20 : K.lookup f20 = some ⟨oc20, od20, .func (PySem.W.fnOf "event_in" "event_in" (defArgs s_event_in) (defBody s_event_in) (defScope s_event_in) .none kV20 dc20 pm20 an20 cd20 ct20), sl20⟩) (c20 : PySem.W.codeIn K cd20 "event_in" = true) (k20 : PySem.W.keepIn K (.ref f20) = true)
    (a21 : PySem.W.nsIn K mainGlobals "parse_event" = some (some (.ref f21))) (l21 : K.lookup f21 = some ⟨oc21, od21, .func (PySem.W.fnOf "parse_event" "parse_event" (defArgs s_parse_event) (defBody s_parse_event) (defScope s_parse_event) .none kV21 dc21 pm21 an21 cd21 ct21), sl21⟩) (c21 : PySem.W.codeIn K cd21 "parse_event" = true) (k21 : PySem.W.keepIn K (.ref f21) = true)
    (a22 : PySem.W.nsIn K mainGlobals "_law_number" = some (some (.ref f22))) (l22 : K.lookup f22 = some ⟨oc22, od22, .func (PySem.W.fnOf "_law_number" "_law_number" (defArgs s_L_number) (defBody s_L_number) (defScope s_L_number) .none kV22 dc22 pm22 an22 cd22 ct22), sl22⟩) (c22 : PySem.W.codeIn K cd22 "_law_number" = true) (k22 : PySem.W.keepIn K (.ref f22) = true)
    (a23 : PySem.W.nsIn K mainGlobals "_law_read" = some (some (.ref f23))) (l23 : K.lookup f23 = some ⟨oc23, od23, .func (PySem.W.fnOf "_law_read" "_law_read" (defArgs s_L_read) (defBody s_L_read) (defScope s_L_read) .none kV23 dc23 pm23 an23 cd23 ct23), sl23⟩) (c23 : PySem.W.codeIn K cd23 "_law_read" = true) (k23 : PySem.W.keepIn K (.ref f23) = true)
    (a24 : PySem.W.nsIn K mainGlobals "_law_due" = some (some (.ref f24))) (l24 : K.lookup f24 = some ⟨oc24, od24, .func (PySem.W.fnOf "_law_due" "_law_due" (defArgs s_L_due) (defBody s_L_due) (defScope s_L_due) .none kV24 dc24 pm24 an24 cd24 ct24), sl24⟩) (c24 : PySem.W.codeIn K cd24 "_law_due" = true) (k24 : PySem.W.keepIn K (.ref f24) = true)
    (a25 : PySem.W.nsIn K mainGlobals "_law_parsed" = some (some (.ref f25))) (l25 : K.lookup f25 = some ⟨oc25, od25, .func (PySem.W.fnOf "_law_parsed" "_law_parsed" (defArgs s_L_parsed) (defBody s_L_parsed) (defScope s_L_parsed) .none kV25 dc25 pm25 an25 cd25 ct25), sl25⟩) (c25 : PySem.W.codeIn K cd25 "_law_parsed" = true) (k25 : PySem.W.keepIn K (.ref f25) = true)
    (a26 : PySem.W.nsIn K mainGlobals "_law_right" = some (some (.ref f26))) (l26 : K.lookup f26 = some ⟨oc26, od26, .func (PySem.W.fnOf "_law_right" "_law_right" (defArgs s_L_right) (defBody s_L_right) (defScope s_L_right) .none kV26 dc26 pm26 an26 cd26 ct26), sl26⟩) (c26 : PySem.W.codeIn K cd26 "_law_right" = true) (k26 : PySem.W.keepIn K (.ref f26) = true)
    (a27 : PySem.W.nsIn K mainGlobals "law" = some (some (.ref f27))) (l27 : K.lookup f27 = some ⟨oc27, od27, .func (PySem.W.fnOf "law" "law" (defArgs s_law) (defBody s_law) (defScope s_law) .none kV27 dc27 pm27 an27 cd27 ct27), sl27⟩) (c27 : PySem.W.codeIn K cd27 "law" = true) (k27 : PySem.W.keepIn K (.ref f27) = true)
    (f_a : PySem.W.nsIn K mainGlobals "FORMS" = some (some (.ref DF)))
    (f_l : K.lookup DF = some ⟨.type "dict", none, .dict fes fn, #[]⟩) (f_s : (DF == sysModules) = false) (f_r : RowsAt K w.params fes.toList formsT)
    (z_len : PySem.W.nsIn K mainGlobals "len" = some none)
    (z_all : PySem.W.nsIn K mainGlobals "all" = some none)
    (z_isinstance : PySem.W.nsIn K mainGlobals "isinstance" = some none)
    (z_str : PySem.W.nsIn K mainGlobals "str" = some none)
    (z_tuple : PySem.W.nsIn K mainGlobals "tuple" = some none)
    (z_int : PySem.W.nsIn K mainGlobals "int" = some none)
    (z_bool : PySem.W.nsIn K mainGlobals "bool" = some none)
    (z_list : PySem.W.nsIn K mainGlobals "list" = some none)
    (z_set : PySem.W.nsIn K mainGlobals "set" = some none)
    (z_sorted : PySem.W.nsIn K mainGlobals "sorted" = some none)
    (z_zip : PySem.W.nsIn K mainGlobals "zip" = some none)
    (z_repr : PySem.W.nsIn K mainGlobals "repr" = some none)
    (z_ValueError : PySem.W.nsIn K mainGlobals "ValueError" = some none)
    (z_range : PySem.W.nsIn K mainGlobals "range" = some none)
    (z_max : PySem.W.nsIn K mainGlobals "max" = some none)
    (z_min : PySem.W.nsIn K mainGlobals "min" = some none)
    (g_LONGEST_WORD : PySem.W.nsIn K mainGlobals "LONGEST_WORD" = some (some (.int 8 t1)))
    (g_LONGEST_VALUE : PySem.W.nsIn K mainGlobals "LONGEST_VALUE" = some (some (.int 40 t2)))
    (g_GREATEST_NUMBER : PySem.W.nsIn K mainGlobals "GREATEST_NUMBER" = some (some (.int 1000000000000000 t3)))
    (g_MOST_DIGITS : PySem.W.nsIn K mainGlobals "MOST_DIGITS" = some (some (.int 16 t4))) :
    ∃ fd : FuncData, (∀ (s : Shared) (v : Value), BindsTo s fd ⟨[v], []⟩ [("_law_script", v)]) ∧ ∀ base : Heap, K.In base → base.Ns mainGlobals mg → FnG l.prog w K mg base CX0 10 fa fd ["_law_script"] (spLaw K) := by
  have e := hfa.symm.trans (PySem.W.mg_of X G a27)
  cases e
  have T : Txt mg t1 t2 t3 t4 := ⟨PySem.W.mg_none_of X G z_len, PySem.W.mg_none_of X G z_all, PySem.W.mg_none_of X G z_isinstance, PySem.W.mg_none_of X G z_str, PySem.W.mg_none_of X G z_tuple, PySem.W.mg_none_of X G z_int, PySem.W.mg_none_of X G z_bool, PySem.W.mg_none_of X G z_list, PySem.W.mg_none_of X G z_set, PySem.W.mg_none_of X G z_sorted, PySem.W.mg_none_of X G z_zip, PySem.W.mg_none_of X G z_repr, PySem.W.mg_none_of X G z_ValueError, PySem.W.mg_none_of X G z_range, PySem.W.mg_none_of X G z_max, PySem.W.mg_none_of X G z_min, PySem.W.mg_of X G g_LONGEST_WORD, PySem.W.mg_of X G g_LONGEST_VALUE, PySem.W.mg_of X G g_GREATEST_NUMBER, PySem.W.mg_of X G g_MOST_DIGITS⟩
  have hRoot := PySem.W.mg_of X G r_a
  have hDF := PySem.W.mg_of X G f_a
  have hTab : TabK K w.params DF formsT := ⟨fes, fn, f_l, f_s, f_r⟩
  have F_L_pool := fun_mk (st := s_L_pool) l0 c0 k0
  have b_L_pool := F_L_pool.binds (ps := p_L_pool) fun _ _ _ _ _ _ us hl => match us, hl with | [_, _], _ => rfl
  have F_L_take := fun_mk (st := s_L_take) l1 c1 k1
  have b_L_take := F_L_take.binds (ps := p_L_take) fun _ _ _ _ _ _ us hl => match us, hl with | [_, _], _ => rfl
  have F_L_drawn := fun_mk (st := s_L_drawn) l2 c2 k2
  have b_L_drawn := F_L_drawn.binds (ps := p_L_drawn) fun _ _ _ _ _ _ us hl => match us, hl with | [_], _ => rfl
  have F_L_written := fun_mk (st := s_L_written) l3 c3 k3
  have b_L_written := F_L_written.binds (ps := p_L_written) fun _ _ _ _ _ _ us hl => match us, hl with | [_], _ => rfl
  have F_is_word := fun_mk (st := s_is_word) l4 c4 k4
  have b_is_word := F_is_word.binds (ps := p_is_word) fun _ _ _ _ _ _ us hl => match us, hl with | [_], _ => rfl
  have F_is_value := fun_mk (st := s_is_value) l5 c5 k5
  have b_is_value := F_is_value.binds (ps := p_is_value) fun _ _ _ _ _ _ us hl => match us, hl with | [_], _ => rfl
  have F_is_number := fun_mk (st := s_is_number) l6 c6 k6
  have b_is_number := F_is_number.binds (ps := p_is_number) fun _ _ _ _ _ _ us hl => match us, hl with | [_], _ => rfl
  have F_is_index := fun_mk (st := s_is_index) l7 c7 k7
  have b_is_index := F_is_index.binds (ps := p_is_index) fun _ _ _ _ _ _ us hl => match us, hl with | [_], _ => rfl
  have F_are_keys := fun_mk (st := s_are_keys) l8 c8 k8
  have b_are_keys := F_are_keys.binds (ps := p_are_keys) fun _ _ _ _ _ _ us hl => match us, hl with | [_], _ => rfl
  have F_is_part := fun_mk (st := s_is_part) l9 c9 k9
  have b_is_part := F_is_part.binds (ps := p_is_part) fun _ _ _ _ _ _ us hl => match us, hl with | [_, _], _ => rfl
  have F_is_event := fun_mk (st := s_is_event) l10 c10 k10
  have b_is_event := F_is_event.binds (ps := p_is_event) fun _ _ _ _ _ _ us hl => match us, hl with | [_], _ => rfl
  have F_format_value := fun_mk (st := s_format_value) l11 c11 k11
  have b_format_value := F_format_value.binds (ps := p_format_value) fun _ _ _ _ _ _ us hl => match us, hl with | [_], _ => rfl
  have F_format_part := fun_mk (st := s_format_part) l12 c12 k12
  have b_format_part := F_format_part.binds (ps := p_format_part) fun _ _ _ _ _ _ us hl => match us, hl with | [_, _], _ => rfl
  have F_format_event := fun_mk (st := s_format_event) l13 c13 k13
  have b_format_event := F_format_event.binds (ps := p_format_event) fun _ _ _ _ _ _ us hl => match us, hl with | [_], _ => rfl
  have F_L_formatted := fun_mk (st := s_L_formatted) l14 c14 k14
  have b_L_formatted := F_L_formatted.binds (ps := p_L_formatted) fun _ _ _ _ _ _ us hl => match us, hl with | [_], _ => rfl
  have F_likely_value := fun_mk (st := s_likely_value) l15 c15 k15
  have b_likely_value := F_likely_value.binds (ps := p_likely_value) fun _ _ _ _ _ _ us hl => match us, hl with | [_], _ => rfl
  have F_likely_number := fun_mk (st := s_likely_number) l16 c16 k16
  have b_likely_number := F_likely_number.binds (ps := p_likely_number) fun _ _ _ _ _ _ us hl => match us, hl with | [_], _ => rfl
  have F_likely_keys := fun_mk (st := s_likely_keys) l17 c17 k17
  have b_likely_keys := F_likely_keys.binds (ps := p_likely_keys) fun _ _ _ _ _ _ us hl => match us, hl with | [_], _ => rfl
  have F_likely_part := fun_mk (st := s_likely_part) l18 c18 k18
  have b_likely_part := F_likely_part.binds (ps := p_likely_part) fun _ _ _ _ _ _ us hl => match us, hl with | [_, _], _ => rfl
  have F_likely_event := fun_mk (st := s_likely_event) l19 c19 k19
  have b_likely_event := F_likely_event.binds (ps := p_likely_event) fun _ _ _ _ _ _ us hl => match us, hl with | [_], _ => rfl
  have F_event_in := fun_mk (st := s_event_in) l20 c20 k20
  have b_event_in := F_event_in.binds (ps := p_event_in) fun _ _ _ _ _ _ us hl => match us, hl with | [_], _ => rfl
  have F_parse_event := fun_mk (st := s_parse_event) l21 c21 k21
  have b_parse_event := F_parse_event.binds (ps := p_parse_event) fun _ _ _ _ _ _ us hl => match us, hl with | [_], _ => rfl
  have F_L_number := fun_mk (st := s_L_number) l22 c22 k22
  have b_L_number := F_L_number.binds (ps := p_L_number) fun _ _ _ _ _ _ us hl => match us, hl with | [_], _ => rfl
  have F_L_read := fun_mk (st := s_L_read) l23 c23 k23
  have b_L_read := F_L_read.binds (ps := p_L_read) fun _ _ _ _ _ _ us hl => match us, hl with | [_], _ => rfl
  have F_L_due := fun_mk (st := s_L_due) l24 c24 k24
  have b_L_due := F_L_due.binds (ps := p_L_due) fun _ _ _ _ _ _ us hl => match us, hl with | [_], _ => rfl
  have F_L_parsed := fun_mk (st := s_L_parsed) l25 c25 k25
  have b_L_parsed := F_L_parsed.binds (ps := p_L_parsed) fun _ _ _ _ _ _ us hl => match us, hl with | [_], _ => rfl
  have F_L_right := fun_mk (st := s_L_right) l26 c26 k26
  have b_L_right := F_L_right.binds (ps := p_L_right) fun _ _ _ _ _ _ us hl => match us, hl with | [_], _ => rfl
  have F_law := fun_mk (st := s_law) l27 c27 k27
  have b_law := F_law.binds (ps := p_law) fun _ _ _ _ _ _ us hl => match us, hl with | [_], _ => rfl
  have FI_BadEvent := fun_mk (st := s_ini_BadEvent) x0il x0ic x0ik
  have bI_BadEvent := FI_BadEvent.binds (ps := ["self", "value"]) fun _ _ _ _ _ _ us hl => match us, hl with | [_, _], _ => rfl
  have O_BadEvent : OexC K C_BadEvent := ⟨⟨nm0, q0, N0, bs0, _, sn0, sub0, ab0, col0, dd0, ma0, mb0, mc0, md0, me0, x0l, (by show PySem.HandSPX.refsVE _ = true; decide +kernel : PySem.HandSPX.refsVE [.type "ValueError", .type "Exception", .type "BaseException", .type "object"] = true)⟩, x0sa, x0be, x0t, x0k⟩
  have XC_BadEvent : ExcCls K mg "BadEvent" C_BadEvent fI0 := ⟨PySem.W.mg_of X G x0a, O_BadEvent, x0nv, x0in, x0ti, ⟨x0ga, x0gg, x0be, x0d⟩, exm_own x0be x0c x0t x0se⟩
  have FI_BadText := fun_mk (st := s_ini_BadText) x1il x1ic x1ik
  have bI_BadText := FI_BadText.binds (ps := ["self", "value"]) fun _ _ _ _ _ _ us hl => match us, hl with | [_, _], _ => rfl
  have O_BadText : OexC K C_BadText := ⟨⟨nm1, q1, N1, bs1, _, sn1, sub1, ab1, col1, dd1, ma1, mb1, mc1, md1, me1, x1l, (by show PySem.HandSPX.refsVE _ = true; decide +kernel : PySem.HandSPX.refsVE [.type "ValueError", .type "Exception", .type "BaseException", .type "object"] = true)⟩, x1sa, x1be, x1t, x1k⟩
  have XC_BadText : ExcCls K mg "BadText" C_BadText fI1 := ⟨PySem.W.mg_of X G x1a, O_BadText, x1nv, x1in, x1ti, ⟨x1ga, x1gg, x1be, x1d⟩, exm_own x1be x1c x1t x1se⟩
  refine ⟨PySem.W.fnOf "law" "law" (defArgs s_law) (defBody s_law) (defScope s_law) .none kV27 dc27 pm27 an27 cd27 ct27, fun s v => .of_eq rfl, fun base _ _ => ?_⟩
  have R_BadEvent : ExcR l.prog w K mg base "BadEvent" C_BadEvent := ⟨⟨fI0, _, XC_BadEvent, bI_BadEvent, ok_ini FI_BadEvent sc_ini_BadEvent ⟨_, _, _, _, rfl⟩ O_BadEvent x0nv⟩⟩
  have R_BadText : ExcR l.prog w K mg base "BadText" C_BadText := ⟨⟨fI1, _, XC_BadText, bI_BadText, ok_ini FI_BadText sc_ini_BadText ⟨_, _, _, _, rfl⟩ O_BadText x1nv⟩⟩
  have K_L_pool := Cal.of (PySem.W.mg_of X G a0) k0 b_L_pool (ok_L_pool (P := l.prog) (w := w) (base := base) T  (F := F_L_pool) )
  have K_L_take := Cal.of (PySem.W.mg_of X G a1) k1 b_L_take (ok_L_take (P := l.prog) (w := w) (base := base) T  (F := F_L_take) )
  have K_L_drawn := Cal.of (PySem.W.mg_of X G a2) k2 b_L_drawn (ok_L_drawn (P := l.prog) (w := w) (base := base) T  (F := F_L_drawn) (K_L_take := K_L_take.mono (by decide)))
  have K_L_written := Cal.of (PySem.W.mg_of X G a3) k3 b_L_written (ok_L_written (P := l.prog) (w := w) (base := base) T  (F := F_L_written) )
  have K_is_word := Cal.of (PySem.W.mg_of X G a4) k4 b_is_word (ok_is_word (P := l.prog) (w := w) (base := base) T  (F := F_is_word) )
  have K_is_value := Cal.of (PySem.W.mg_of X G a5) k5 b_is_value (ok_is_value (P := l.prog) (w := w) (base := base) T  (F := F_is_value) )
  have K_is_number := Cal.of (PySem.W.mg_of X G a6) k6 b_is_number (ok_is_number (P := l.prog) (w := w) (base := base) T  (F := F_is_number) )
  have K_is_index := Cal.of (PySem.W.mg_of X G a7) k7 b_is_index (ok_is_index (P := l.prog) (w := w) (base := base) T  (F := F_is_index) )
  have K_are_keys := Cal.of (PySem.W.mg_of X G a8) k8 b_are_keys (ok_are_keys (P := l.prog) (w := w) (base := base) T  (F := F_are_keys) (K_is_word := K_is_word.mono (by decide)))
  have K_is_part := Cal.of (PySem.W.mg_of X G a9) k9 b_is_part (ok_is_part (P := l.prog) (w := w) (base := base) T  (F := F_is_part) (K_is_word := K_is_word.mono (by decide)) (K_is_value := K_is_value.mono (by decide)) (K_is_number := K_is_number.mono (by decide)) (K_is_index := K_is_index.mono (by decide)) (K_are_keys := K_are_keys.mono (by decide)))
  have K_is_event := Cal.of (PySem.W.mg_of X G a10) k10 b_is_event (ok_is_event (P := l.prog) (w := w) (base := base) T (hDF := hDF) (hTab := hTab) (F := F_is_event) (K_is_word := K_is_word.mono (by decide)) (K_is_part := K_is_part.mono (by decide)))
  have K_format_value := Cal.of (PySem.W.mg_of X G a11) k11 b_format_value (ok_format_value (P := l.prog) (w := w) (base := base) T  (F := F_format_value) )
  have K_format_part := Cal.of (PySem.W.mg_of X G a12) k12 b_format_part (ok_format_part (P := l.prog) (w := w) (base := base) T  (F := F_format_part) (K_format_value := K_format_value.mono (by decide)))
  have K_format_event := Cal.of (PySem.W.mg_of X G a13) k13 b_format_event (ok_format_event (P := l.prog) (w := w) (base := base) T (hDF := hDF) (hTab := hTab) (R_BadEvent := R_BadEvent) (F := F_format_event) (K_is_event := K_is_event.mono (by decide)) (K_format_part := K_format_part.mono (by decide)))
  have K_L_formatted := CalG.of (PySem.W.mg_of X G a14) k14 b_L_formatted (ok_L_formatted (P := l.prog) (w := w) (base := base) T (R_BadEvent := R_BadEvent) (hV := x0ve) (F := F_L_formatted) (K_format_event := K_format_event.mono (by decide)))
  have K_likely_value := Cal.of (PySem.W.mg_of X G a15) k15 b_likely_value (ok_likely_value (P := l.prog) (w := w) (base := base) T  (F := F_likely_value) )
  have K_likely_number := Cal.of (PySem.W.mg_of X G a16) k16 b_likely_number (ok_likely_number (P := l.prog) (w := w) (base := base) T  (F := F_likely_number) )
  have K_likely_keys := Cal.of (PySem.W.mg_of X G a17) k17 b_likely_keys (ok_likely_keys (P := l.prog) (w := w) (base := base) T  (F := F_likely_keys) )
  have K_likely_part := Cal.of (PySem.W.mg_of X G a18) k18 b_likely_part (ok_likely_part (P := l.prog) (w := w) (base := base) T  (F := F_likely_part) (K_likely_value := K_likely_value.mono (by decide)) (K_likely_number := K_likely_number.mono (by decide)) (K_likely_keys := K_likely_keys.mono (by decide)))
  have K_likely_event := Cal.of (PySem.W.mg_of X G a19) k19 b_likely_event (ok_likely_event (P := l.prog) (w := w) (base := base) T (hDF := hDF) (hTab := hTab) (F := F_likely_event) (K_likely_part := K_likely_part.mono (by decide)))
  have K_event_in := Cal.of (PySem.W.mg_of X G a20) k20 b_event_in (ok_event_in (P := l.prog) (w := w) (base := base) T  (F := F_event_in) (K_likely_event := K_likely_event.mono (by decide)) (K_is_event := K_is_event.mono (by decide)) (K_format_event := K_format_event.mono (by decide)))
  have K_parse_event := Cal.of (PySem.W.mg_of X G a21) k21 b_parse_event (ok_parse_event (P := l.prog) (w := w) (base := base) T (R_BadText := R_BadText) (F := F_parse_event) (K_event_in := K_event_in.mono (by decide)))
  have K_L_number := Cal.of (PySem.W.mg_of X G a22) k22 b_L_number (ok_L_number (P := l.prog) (w := w) (base := base) T  (F := F_L_number) )
  have K_L_read := Cal.of (PySem.W.mg_of X G a23) k23 b_L_read (ok_L_read (P := l.prog) (w := w) (base := base) T  (F := F_L_read) (K_L_number := K_L_number.mono (by decide)))
  have K_L_due := Cal.of (PySem.W.mg_of X G a24) k24 b_L_due (ok_L_due (P := l.prog) (w := w) (base := base) T  (F := F_L_due) (K_L_read := K_L_read.mono (by decide)) (K_is_event := K_is_event.mono (by decide)) (K_L_written := K_L_written.mono (by decide)))
  have K_L_parsed := CalG.of (PySem.W.mg_of X G a25) k25 b_L_parsed (ok_L_parsed (P := l.prog) (w := w) (base := base) T (R_BadText := R_BadText) (hTE := hRoot) (hT1 := r_t) (hT2 := r_d) (hT3 := x1re) (F := F_L_parsed) (K_parse_event := K_parse_event.mono (by decide)))
  have K_L_right := CalG.of (PySem.W.mg_of X G a26) k26 b_L_right (ok_L_right (P := l.prog) (w := w) (base := base) T  (F := F_L_right) (K_L_due := K_L_due.mono (by decide)) (K_L_parsed := K_L_parsed.mono (by decide)))
  exact ok_law T  (F := F_law) (K_L_pool := K_L_pool.mono (by decide)) (K_L_drawn := K_L_drawn.mono (by decide)) (K_L_written := K_L_written.mono (by decide)) (K_L_take := K_L_take.mono (by decide)) (K_L_formatted := K_L_formatted.mono (by decide)) (K_format_event := K_format_event.mono (by decide)) (K_parse_event := K_parse_event.mono (by decide)) (K_L_right := K_L_right.mono (by decide))
end K07
open PySem PySem.W PyProof.Rows
set_option maxRecDepth 100000 in
set_option maxHeartbeats 0 in
theorem PySem.Challenge.cw_tombkeeper_k07_events_as_text_holds : PySem.Challenge.rw_tombkeeper_k07_events_as_text.Holds := by
  w_on; o_law; k_head; (case hw => w_witness2)
  k_fill
  refine Tk.walkG (l := PySem.Challenge.rw_tombkeeper_k07_events_as_text) (k := 10) (x := "_law_script") rfl rfl ⟨rfl, by decide, by decide⟩ (fun w h Y => PySem.W.kIn_of Y) ?F
  case F =>
    intro w mg fa h KX G hmg
    refine' K07.all_mk KX G hmg ?r_a ?r_t ?r_d ?x0a ?x0l ?x0sa ?x0ga ?x0gg ?x0nv ?x0in ?x0ti ?x0il ?x0ic ?x0ik ?x0k ?x0be ?x0ve ?x0re ?x0se ?x0t ?x0d ?x0c ?x1a ?x1l ?x1sa ?x1ga ?x1gg ?x1nv ?x1in ?x1ti ?x1il ?x1ic ?x1ik ?x1k ?x1be ?x1ve ?x1re ?x1se ?x1t ?x1d ?x1c ?a0 ?l0 ?c0 ?k0 ?a1 ?l1 ?c1 ?k1 ?a2 ?l2 ?c2 ?k2 ?a3 ?l3 ?c3 ?k3 ?a4 ?l4 ?c4 ?k4 ?a5 ?l5 ?c5 ?k5 ?a6 ?l6 ?c6 ?k6 ?a7 ?l7 ?c7 ?k7 ?a8 ?l8 ?c8 ?k8 ?a9 ?l9 ?c9 ?k9 ?a10 ?l10 ?c10 ?k10 ?a11 ?l11 ?c11 ?k11 ?a12 ?l12 ?c12 ?k12 ?a13 ?l13 ?c13 ?k13 ?a14 ?l14 ?c14 ?k14 ?a15 ?l15 ?c15 ?k15 ?a16 ?l16 ?c16 ?k16 ?a17 ?l17 ?c17 ?k17 ?a18 ?l18 ?c18 ?k18 ?a19 ?l19 ?c19 ?k19 ?a20 ?l20 ?c20 ?k20 ?a21 ?l21 ?c21 ?k21 ?a22 ?l22 ?c22 ?k22 ?a23 ?l23 ?c23 ?k23 ?a24 ?l24 ?c24 ?k24 ?a25 ?l25 ?c25 ?k25 ?a26 ?l26 ?c26 ?k26 ?a27 ?l27 ?c27 ?k27 ?f_a ?f_l ?f_s ?f_r ?z_len ?z_all ?z_isinstance ?z_str ?z_tuple ?z_int ?z_bool ?z_list ?z_set ?z_sorted ?z_zip ?z_repr ?z_ValueError ?z_range ?z_max ?z_min ?g_LONGEST_WORD ?g_LONGEST_VALUE ?g_GREATEST_NUMBER ?g_MOST_DIGITS
    (case r_a => first | k_is | rfl)
    (case r_t => first | k_is | rfl)
    (case r_d => first | k_is | rfl)
    (case x0a => first | k_is | rfl)
    (case x0l => first | k_is | rfl)
    (case x0sa => first | k_is | rfl)
    (case x0ga => first | k_is | rfl)
    (case x0gg => first | k_is | rfl)
    (case x0nv => first | k_is | rfl)
    (case x0in => first | k_is | rfl)
    (case x0ti => first | k_is | rfl)
    (case x0il => first | k_is | rfl)
    (case x0ic => first | k_is | rfl)
    (case x0ik => first | k_is | rfl)
    (case x0k => first | k_is | rfl)
    (case x0be => first | k_is | rfl)
    (case x0ve => first | k_is | rfl)
    (case x0re => first | k_is | rfl)
    (case x0se => first | k_is | rfl)
    (case x0t => first | k_is | rfl)
    (case x0d => first | k_is | rfl)
    (case x0c => first | k_is | rfl)
    (case x1a => first | k_is | rfl)
    (case x1l => first | k_is | rfl)
    (case x1sa => first | k_is | rfl)
    (case x1ga => first | k_is | rfl)
    (case x1gg => first | k_is | rfl)
    (case x1nv => first | k_is | rfl)
    (case x1in => first | k_is | rfl)
    (case x1ti => first | k_is | rfl)
    (case x1il => first | k_is | rfl)
    (case x1ic => first | k_is | rfl)
    (case x1ik => first | k_is | rfl)
    (case x1k => first | k_is | rfl)
    (case x1be => first | k_is | rfl)
    (case x1ve => first | k_is | rfl)
    (case x1re => first | k_is | rfl)
    (case x1se => first | k_is | rfl)
    (case x1t => first | k_is | rfl)
    (case x1d => first | k_is | rfl)
    (case x1c => first | k_is | rfl)
    (case a0 => first | k_is | rfl)
    (case l0 => first | k_is | rfl)
    (case c0 => first | k_is | rfl)
    (case k0 => first | k_is | rfl)
    (case a1 => first | k_is | rfl)
    (case l1 => first | k_is | rfl)
    (case c1 => first | k_is | rfl)
    (case k1 => first | k_is | rfl)
    (case a2 => first | k_is | rfl)
    (case l2 => first | k_is | rfl)
    (case c2 => first | k_is | rfl)
    (case k2 => first | k_is | rfl)
    (case a3 => first | k_is | rfl)
    (case l3 => first | k_is | rfl)
    (case c3 => first | k_is | rfl)
    (case k3 => first | k_is | rfl)
    (case a4 => first | k_is | rfl)
    (case l4 => first | k_is | rfl)
    (case c4 => first | k_is | rfl)
    (case k4 => first | k_is | rfl)
    (case a5 => first | k_is | rfl)
    (case l5 => first | k_is | rfl)
    (case c5 => first | k_is | rfl)
    (case k5 => first | k_is | rfl)
    (case a6 => first | k_is | rfl)
    (case l6 => first | k_is | rfl)
    (case c6 => first | k_is | rfl)
    (case k6 => first | k_is | rfl)
    (case a7 => first | k_is | rfl)
    (case l7 => first | k_is | rfl)
    (case c7 => first | k_is | rfl)
    (case k7 => first | k_is | rfl)
    (case a8 => first | k_is | rfl)
    (case l8 => first | k_is | rfl)
    (case c8 => first | k_is | rfl)
    (case k8 => first | k_is | rfl)
    (case a9 => first | k_is | rfl)
    (case l9 => first | k_is | rfl)
    (case c9 => first | k_is | rfl)
    (case k9 => first | k_is | rfl)
    (case a10 => first | k_is | rfl)
    (case l10 => first | k_is | rfl)
    (case c10 => first | k_is | rfl)
    (case k10 => first | k_is | rfl)
    (case a11 => first | k_is | rfl)
    (case l11 => first | k_is | rfl)
    (case c11 => first | k_is | rfl)
    (case k11 => first | k_is | rfl)
    (case a12 => first | k_is | rfl)
    (case l12 => first | k_is | rfl)
    (case c12 => first | k_is | rfl)
    (case k12 => first | k_is | rfl)
    (case a13 => first | k_is | rfl)
    (case l13 => first | k_is | rfl)
    (case c13 => first | k_is | rfl)
    (case k13 => first | k_is | rfl)
    (case a14 => first | k_is | rfl)
    (case l14 => first | k_is | rfl)
    (case c14 => first | k_is | rfl)
    (case k14 => first | k_is | rfl)
    (case a15 => first | k_is | rfl)
    (case l15 => first | k_is | rfl)
    (case c15 => first | k_is | rfl)
    (case k15 => first | k_is | rfl)
    (case a16 => first | k_is | rfl)
    (case l16 => first | k_is | rfl)
    (case c16 => first | k_is | rfl)
    (case k16 => first | k_is | rfl)
    (case a17 => first | k_is | rfl)
    (case l17 => first | k_is | rfl)
    (case c17 => first | k_is | rfl)
    (case k17 => first | k_is | rfl)
    (case a18 => first | k_is | rfl)
    (case l18 => first | k_is | rfl)
    (case c18 => first | k_is | rfl)
    (case k18 => first | k_is | rfl)
    (case a19 => first | k_is | rfl)
    (case l19 => first | k_is | rfl)
    (case c19 => first | k_is | rfl)
    (case k19 => first | k_is | rfl)
    (case a20 => first | k_is | rfl)
    (case l20 => first | k_is | rfl)
    (case c20 => first | k_is | rfl)
    (case k20 => first | k_is | rfl)
    (case a21 => first | k_is | rfl)
    (case l21 => first | k_is | rfl)
    (case c21 => first | k_is | rfl)
    (case k21 => first | k_is | rfl)
    (case a22 => first | k_is | rfl)
    (case l22 => first | k_is | rfl)
    (case c22 => first | k_is | rfl)
    (case k22 => first | k_is | rfl)
    (case a23 => first | k_is | rfl)
    (case l23 => first | k_is | rfl)
    (case c23 => first | k_is | rfl)
    (case k23 => first | k_is | rfl)
    (case a24 => first | k_is | rfl)
    (case l24 => first | k_is | rfl)
    (case c24 => first | k_is | rfl)
    (case k24 => first | k_is | rfl)
    (case a25 => first | k_is | rfl)
    (case l25 => first | k_is | rfl)
    (case c25 => first | k_is | rfl)
    (case k25 => first | k_is | rfl)
    (case a26 => first | k_is | rfl)
    (case l26 => first | k_is | rfl)
    (case c26 => first | k_is | rfl)
    (case k26 => first | k_is | rfl)
    (case a27 => first | k_is | rfl)
    (case l27 => first | k_is | rfl)
    (case c27 => first | k_is | rfl)
    (case k27 => first | k_is | rfl)
    (case f_a => first | k_is | rfl)
    (case f_l => first | k_is | rfl)
    (case f_s => first | rfl | decide)
    (case f_r => ((iterate 17 (refine Tk.RowsAt.cons ⟨⟨_, rfl, rfl⟩, _, rfl, K07.obj_mk ⟨_, _, _, _, by k_is, by decide, by first | exact .cons _ _ .nil | exact .cons _ _ (.cons _ _ .nil) | exact .cons _ _ (.cons _ _ (.cons _ _ .nil))⟩⟩ ?_)); exact .nil))
    (case z_len => first | k_is | rfl)
    (case z_all => first | k_is | rfl)
    (case z_isinstance => first | k_is | rfl)
    (case z_str => first | k_is | rfl)
    (case z_tuple => first | k_is | rfl)
    (case z_int => first | k_is | rfl)
    (case z_bool => first | k_is | rfl)
    (case z_list => first | k_is | rfl)
    (case z_set => first | k_is | rfl)
    (case z_sorted => first | k_is | rfl)
    (case z_zip => first | k_is | rfl)
    (case z_repr => first | k_is | rfl)
    (case z_ValueError => first | k_is | rfl)
    (case z_range => first | k_is | rfl)
    (case z_max => first | k_is | rfl)
    (case z_min => first | k_is | rfl)
    (case g_LONGEST_WORD => first | k_is | rfl)
    (case g_LONGEST_VALUE => first | k_is | rfl)
    (case g_GREATEST_NUMBER => first | k_is | rfl)
    (case g_MOST_DIGITS => first | k_is | rfl)
