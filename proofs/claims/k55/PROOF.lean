import PyProof.Rows.All
import Wide.All
import OpenK.AllK
import Wide.FinOn
import HandS.ForMost
import HandS.Wide
import HandS.Zip
import HandS.Style
import HandS.TupAny
import HandS.Replace
import HandS.IsInst
import HandS.Codes
import HandS.Conv
import HandS.More
import HandS.Evl
import HandS.NoneIn
import HandS.Deep
import HandS.Flow
import PyProof.ReprRoads
import HandS.Walk
import PyProof.StrLawsRepr
import PyProof.Rows.RegStrFacts
import PyProof.P3Eq
import HandS.TupMul
import HandS.Dict
import KE.KRevSl
import HandS.WrittenGet
import HandS.ExcInit
import HandS.ExcField
import HandS.ExcIs
import HandS.ExcOwn
import HandS.WordsExc
import KE.KExcIs
import HandS.HotCalls
import KE.KEqNest
import HandS.RaiseMore
import HandS.ExcInitHot
import HandS.Set
import HandS.SetTxt0
import HandS.SetFor
import HandS.Strs
import PyProof.Rows.SortShellAny
import PyProof.SumAny
import PyProof.ListOps
import HandS.Property
import PyProof.EqKinds
import OpenK.KMeth
import HandS.DictComp
import PyProof.ListStr
import HandS.Lambda
import HandS.Iter
import KE.GoesEnum
import HandS.TupSets
import KE.KeyNested
import KE.SortData
import HandS.Keys
import KE.KDictZip
import HandS.SetKeys
import KE.KDictKeyed
import KE.KDictCopyH
import KE.KDictWalk
import KE.KItemsList
import PyProof.ZipIter
import HandS.ListItems
import HandS.MakeKwOnly
import PyProof.TupleOfSeq
import HandS.ExcValue
import HandS.TupLen
import HandS.DictEq
import KE.KEqDict
import HandS.Small
import HandS.TupLe
import HandS.Ends
import PySem.Challenge.RW_scriptpicks_k55_licences_refused
set_option Elab.async false
set_option linter.all false
set_option maxRecDepth 100000
/-! rules of our own over the hand layer -/
namespace Own
open PySem PySem.Spec PyProof.Rows L2
section
variable {X : Cx}
theorem CallR.or {f : Value} {r r' : List V → Hp → VK → Prop} (h : CallR X f r) (h' : CallR X f r') : CallR X f (fun xs H Z => r xs H Z ∨ r' xs H Z) := by
  intro pk s τ H xs us Z I rs q
  rcases q with q | q
  · exact h pk s τ H xs us Z I rs q
  · exact h' pk s τ H xs us Z I rs q
theorem SlR.or {r r' : V → Option Int → Option Int → Hp → VK → Prop} (h : SlR X r) (h' : SlR X r') : SlR X (fun x lo hi H Z => r x lo hi H Z ∨ r' x lo hi H Z) := by
  intro pk s τ H x v vl vu lo hi sl Z I rx hst pl pu q
  rcases q with q | q
  · exact h pk s τ H x v vl vu lo hi sl Z I rx hst pl pu q
  · exact h' pk s τ H x v vl vu lo hi sl Z I rx hst pl pu q
theorem PI.or {tg iter : Expr} {w w' : TI} (h : PI X tg iter w) (h' : PI X tg iter w') : PI X tg iter (fun τ H R => w τ H R ∨ w' τ H R) :=
  ⟨fun pk s τ H R I q => q.elim (h.run pk s τ H R I) (h'.run pk s τ H R I)⟩
/-! ### unions: the reading chooses -/
def rAddI : R2 := rI0 fun i j => .int (i + j)
def rAddS : R2 := fun x y H Z => ∃ i j, x = .str i ∧ y = .str j ∧ i.length + j.length ≤ sizeLine ∧ Z (.str (i ++ j)) H
def rAdd (K : PySem.W.Frag) : R2 := fun x y H Z => rAddI x y H Z ∨ rAddS x y H Z ∨ rCat x y H Z ∨ rCatA K x y H Z
theorem opAdd : OpR X (binaryOp .Add) (rAdd X.K) := OpR.or op_add (OpR.or op_add_str (OpR.or op_cat op_catA))
def rMulI : R2 := rI CMul fun i j => .int (i * j)
def rMul : R2 := fun x y H Z => rMulI x y H Z ∨ rRep x y H Z
theorem opMul : OpR X (binaryOp .Mult) rMul := OpR.or op_mul op_rep
def rEqA (K : PySem.W.Frag) : R2 := fun x y H Z => rEq x y H Z ∨ rEqD K x y H Z
def rNeA (K : PySem.W.Frag) : R2 := fun x y H Z => rNe x y H Z ∨ rNeD K x y H Z
theorem opEq {k : Nat} (hr : Room k X.A) : OpR X (compareOp .Eq) (rEqA X.K) := OpR.or op_eq (op_eqD hr.units)
theorem opNe {k : Nat} (hr : Room k X.A) : OpR X (compareOp .NotEq) (rNeA X.K) := OpR.or op_ne (op_neD hr.units)
def rLtI : R2 := rI0 fun i j => .bl (decide (i < j))
def rLeI : R2 := rI0 fun i j => .bl (decide (i ≤ j))
def rGtI : R2 := rI0 fun i j => .bl (decide (j < i))
def rGeI : R2 := rI0 fun i j => .bl (decide (j ≤ i))
theorem opLt : OpR X (compareOp .Lt) rLtI := op_lt
theorem opLe : OpR X (compareOp .LtE) rLeI := op_le
theorem opGt : OpR X (compareOp .Gt) rGtI := op_gt
theorem opGe : OpR X (compareOp .GtE) rGeI := op_ge
def rInS : R2 := fun x y H Z => ∃ i j, x = .str i ∧ y = .str j ∧ Z (.bl (!(Builtin.Str.occurrences j i 0 j.length 1).isEmpty)) H
def rNotInS : R2 := fun x y H Z => ∃ i j, x = .str i ∧ y = .str j ∧ Z (.bl (!(!(Builtin.Str.occurrences j i 0 j.length 1).isEmpty))) H
def rInA (K : PySem.W.Frag) : R2 := fun x y H Z => rIn K false x y H Z ∨ rInS x y H Z
def rNotInA (K : PySem.W.Frag) : R2 := fun x y H Z => rIn K true x y H Z ∨ rNotInS x y H Z
theorem opIn : OpR X (compareOp .In) (rInA X.K) := OpR.or op_in_seq op_in_str
theorem opNotIn : OpR X (compareOp .NotIn) (rNotInA X.K) := OpR.or op_notIn_seq L2.op_notin_str
def rIxA (K : PySem.W.Frag) (w : World) : R2 := fun x y H Z => rIxL K x y H Z ∨ rIxT K x y H Z ∨ rIxS x y H Z ∨ rIxD K w x y H Z
theorem ixAny : IxR X (rIxA X.K X.w) := IxR.or ix_list (IxR.or ix_tup (IxR.or ix_str ix_kdict))
def rSlAny (K : PySem.W.Frag) : V → Option Int → Option Int → Hp → VK → Prop := fun x lo hi H Z => rSlL K x lo hi H Z ∨ rSlA K x lo hi H Z ∨ rSlS x lo hi H Z
theorem slAny : SlR X (rSlAny X.K) := SlR.or sl_list (SlR.or sl_tupA sl_str)
def iAny (K : PySem.W.Frag) (tl : TE) : TI := fun τ H R => iList K tl τ H R ∨ iTup K tl τ H R ∨ iStr tl τ H R
theorem piAny {tg l : Expr} {tl : TE} (hlen : PE X l tl) : PI X tg l (iAny X.K tl) := PI.or (pi_list hlen) (PI.or (pi_tup hlen) (pi_str hlen))
def rLenA (K : PySem.W.Frag) : List V → Hp → VK → Prop := fun xs H Z => (∃ p ys, xs = [.ref p] ∧ (SqL K H p ys ∨ SqT K H p ys) ∧ Z (.int ys.length) H) ∨ (∃ z, xs = [.str z] ∧ z.length ≤ sizeLine ∧ Z (.int z.length) H)
theorem callLen : CallR X (.builtin "len") (rLenA X.K) := CallR.or call_len_seq call_len_str
theorem pgetL : PGet X (rIxL X.K) := by
  intro pk s τ H x y v u Z I rx ry h
  obtain ⟨p, xs, i, z, rfl, rfl, hsq, hes, q⟩ := h
  cases rx
  obtain ⟨t, rfl⟩ := ry
  obtain ⟨gs, r, pl, hz⟩ := I.list hsq
  obtain ⟨j, h1, h2, h3, h4, h5⟩ := atI_get hes
  obtain ⟨w, ew, rw'⟩ := r.get h2
  have hlen := r.length
  have hn := line63
  have ready : EP X pk τ Z w s := ⟨z, H, I, rw', q⟩
  by_cases h0 : 0 ≤ i
  · have hj : i.toNat = j := by
      rw [seqIndex_of h0 h5] at h1
      exact Option.some.inj h1
    exact wpAny_getItem_list pl.isList h0 (by omega) (by rw [hj]; simpa using ew) ready
  · have hj : (i + (gs.toArray.size : Int)).toNat = j := by
      rw [seqIndex_neg (by omega) h4] at h1
      rw [List.size_toArray, ← hlen]
      exact Option.some.inj h1
    exact wpAny_getItem_list_neg pl.isList (by omega) (by rw [List.size_toArray] <;> omega) (by omega) (by rw [hj]; simpa using ew) ready
/-- repr of data -/
def rRepr (K : PySem.W.Frag) : List V → Hp → VK → Prop := fun xs H Z => ∃ a d, xs = [.ref a] ∧ Dp K H (.ref a) d ∧ d.showable = true ∧ d.hasDict = false ∧ d.depth ≤ 20 ∧ d.shown.length ≤ sizeLine ∧ Z (.str d.shown) H
theorem callRepr {k : Nat} (hg : X.A.guards = some []) (hr : Room k X.A) : CallR X (.builtin "repr") (rRepr X.K) := by
  intro pk s τ H xs us Z I r h
  obtain ⟨a, d, rfl, hd, hst, hn, hz, hlen, q⟩ := h
  rw [Vals.ref1 r]
  obtain ⟨as, rd⟩ := Dp.reads I d _ _ hd rfl
  have hu := hr.units
  exact repr_of_reads' rd hst (fun e => by rw [hn] at e; cases e) hg (by omega) (fun _ _ e => e) (fun h' u tk hkp => ⟨.str d.shown, H, I.kept (h' := h') (t' := tk) hkp, ⟨_, rfl⟩, q⟩) hlen
end
/-! ### defs that are called where no container is being shown -/
structure FnG (P : Program) (w : World) (K : PySem.W.Frag) (mg : Str → Option Value) (base : Heap) (k : Nat) (f : Addr) (fd : FuncData) (ps : List Str) (sp : Sp) : Prop where
  len : ∀ vs H Z EE, sp vs H Z EE → vs.length = ps.length
  run : ∀ (A : Around) (outer : List Env) (s : Shared) (H : Hp) (args : Args) (us : List Value) (vs : List V) (Z : VK) (EE : XK), Room k A → A.guards = some [] → Env0 P w K mg base A outer s H → BindsTo s fd args (ps.zip us) → Vals vs us → sp vs H Z EE →
    codeAny (model P w) A (.call (.ref f) args) (CR CX0 outer P w H s Z EE) s
structure CalG (P : Program) (w : World) (K : PySem.W.Frag) (mg : Str → Option Value) (base : Heap) (k : Nat) (x : Str) (sp : Sp) : Prop where
  ex : ∃ (f : Addr) (fd : FuncData) (ps : List Str), FnG P w K mg base k f fd ps sp ∧ mg x = some (.ref f) ∧ PySem.W.keepIn K (.ref f) = true ∧ Binds K fd ps []
structure Df (K : PySem.W.Frag) (mg : Str → Option Value) (x : Str) (st : Stmt) : Prop where
  ex : ∃ (f : Addr) (fd : FuncData), mg x = some (.ref f) ∧ Fun K x x st f fd
section
variable {P : Program} {w : World} {K : PySem.W.Frag} {mg : Str → Option Value} {base : Heap}
theorem CalG.imp {k : Nat} {x : Str} {sp sp' : Sp} (c : CalG P w K mg base k x sp) (h : ∀ vs H Z EE, sp' vs H Z EE → sp vs H Z EE) : CalG P w K mg base k x sp' := by
  obtain ⟨f, fd, ps, F, a, b, d⟩ := c.ex
  exact ⟨f, fd, ps, ⟨fun vs H Z EE q => F.len vs H Z EE (h _ _ _ _ q), fun A outer s H args us vs Z EE hr hg hes hbd hv hst => F.run A outer s H args us vs Z EE hr hg hes hbd hv (h _ _ _ _ hst)⟩, a, b, d⟩
theorem fn_mk {x : Str} {f : Addr} {fd : FuncData} {st : Stmt} {N ps : List Str} {k : Nat} {sp : Sp} (F : Fun K x x st f fd) (S : FnScope N ps (defScope st))
    (len : ∀ vs H Z EE, sp vs H Z EE → vs.length = ps.length)
    (hbody : ∀ (cdv : Value) (A : Around) (outer : List Env) (s : Shared) (H : Hp) (vs : List V) (Z : VK) (EE : XK), Room k (A.deeper (envOfC x (defScope st) s.heap.objs.size f cdv)) → (A.deeper (envOfC x (defScope st) s.heap.objs.size f cdv)).guards = some [] → sp vs H Z EE →
      ∃ t, PSs (cxOf CX0 P w K mg base N x (defScope st) f cdv A outer s H EE).nox (defBody st) t ∧ t { nx := fun _ H' => Z .non H', rt := Z } (start N vs) H) : FnG P w K mg base (k + 1) f fd ps sp := by
  obtain ⟨oc, od, kV, doc, pm, an, cdv, ct, sl, rfl, lkp, hcd⟩ := F.ex
  refine ⟨len, fun A outer s H args us vs Z EE hr hg e0 hbt r hsp => ?_⟩
  have body : ∀ (A : Around) (outer : List Env) (s : Shared) (H : Hp) (vs : List V) (Z : VK) (EE : XK), Room k (A.deeper (envOfC x (defScope st) s.heap.objs.size f cdv)) → A.guards = some [] → sp vs H Z EE →
      ∃ t, PSs (cxOf CX0 P w K mg base N x (defScope st) f cdv A outer s H EE) (defBody st) t ∧ t { nx := fun _ H' => Z .non H', rt := Z } (start N vs) H := fun A outer s H vs Z EE hr hg hsp => by
    obtain ⟨t, h, q⟩ := hbody cdv A outer s H vs Z EE hr hg hsp
    exact ⟨t, h.nox, q⟩
  have hlen := len _ _ _ _ hsp
  have KI : K.In s.heap := e0.mod.kin.keeps fun b o e => (e0.bs b o e).1
  have nlm : s.heap.NoLimit := e0.mod.nolimit.keeps fun b o e => (e0.bs b o e).1
  have hkind : ∀ y ∈ ps.zip us, (defScope st).names.lookup y.1 = some .local ∨ ((defScope st).names.lookup y.1 = some .cell ∧ ((cellsFrom (s.heap.objs.size + 1) (defScope st).names []).lookup y.1).isSome = true) := fun ⟨n, v⟩ hyy => by
    rcases S.par n (List.of_mem_zip hyy).1 with q | q
    · exact .inl q
    · exact .inr ⟨q, PySem.W.cellsFrom_some _ _ _ (.inl q)⟩
  refine codeAny_call_function hr.depth (KI _ _ lkp) rfl S.co S.gen rfl (PySem.W.codeRec_of KI hcd) (hbt _ _ _ _ ?_)
  refine wpAny_newFunctionEnv_cells S.kind hkind fun env hes st1 xx => ?_
  subst hes
  refine ⟨nlm.keeps xx.toInCall.keep, codeAny_func ?_⟩
  obtain ⟨t, ht, hsq⟩ := body A outer s H vs Z EE (hr.deeper _) hg hsp
  have I : Inv (cxOf CX0 P w K mg base N x (defScope st) f cdv A outer s H EE) [] (start N vs) H st1 := inv_start S hr.hd e0 hlen r xx
  refine wpAny_mono (ht.run [] st1 (start N vs) H _ I hsq) (fun fl s' hst => ?_) fun e s' hst => hst
  have ready : ∀ {τ' : L2.St} {H' : Hp} {v : V} {u : Value}, Inv (cxOf CX0 P w K mg base N x (defScope st) f cdv A outer s H EE) [] τ' H' s' → RelV v u → Z v H' → CE outer P w H s Z u s' :=
    fun {τ' H' v u} J rv q => ⟨v, H', J.os, J.bare, J.base, J.hok, rv, q⟩
  cases fl with
  | ret u =>
    obtain ⟨v, τ', H', J, rv, q⟩ := hst
    exact ready J rv q
  | next =>
    obtain ⟨τ', H', J, q⟩ := hst
    exact ready (v := V.non) (u := Value.none) J rfl q
  | brk =>
    obtain ⟨_, _, _, q⟩ := hst
    exact False.elim q
  | cont =>
    obtain ⟨_, _, _, q⟩ := hst
    exact False.elim q
theorem cal_mk {x : Str} {st : Stmt} {N ps : List Str} {k : Nat} {sp : Sp} (D : Df K mg x st) (S : FnScope N ps (defScope st))
    (hbd : ∀ (kV doc pm : Value) (an : Option Addr) (cdv ct : Value) (us : List Value), us.length = ps.length → bindArgs (PySem.W.fnOf x x (defArgs st) (defBody st) (defScope st) .none kV doc pm an cdv ct) ⟨us, []⟩ = pure (ps.zip us))
    (len : ∀ vs H Z EE, sp vs H Z EE → vs.length = ps.length)
    (hbody : ∀ (f : Addr) (cdv : Value) (A : Around) (outer : List Env) (s : Shared) (H : Hp) (vs : List V) (Z : VK) (EE : XK), Room k (A.deeper (envOfC x (defScope st) s.heap.objs.size f cdv)) → (A.deeper (envOfC x (defScope st) s.heap.objs.size f cdv)).guards = some [] → sp vs H Z EE →
      ∃ t, PSs (cxOf CX0 P w K mg base N x (defScope st) f cdv A outer s H EE).nox (defBody st) t ∧ t { nx := fun _ H' => Z .non H', rt := Z } (start N vs) H) : CalG P w K mg base (k + 1) x sp := by
  obtain ⟨f, fd, hmg, F⟩ := D.ex
  exact ⟨f, fd, ps, fn_mk F S len (hbody f), hmg, F.kp, F.binds hbd⟩
end
section
variable {X : Cx} {pk : List (Addr × Obj)} {τ : L2.St} {H : Hp} {s : Shared} {k j : Nat} {sp : Sp} {f : Addr} {fd : FuncData} {ps : List Str} {Z : VK} {us : List Value} {vs : List V} {x : Str} {p pos : Pos} {e : Expr} {es : List Expr} {t : TA}
theorem run_fnG (F : FnG X.prog X.w X.K X.mg X.base k f fd ps sp) (hr : Room k X.A) (hg : X.A.guards = some []) (hbd : Binds X.K fd ps [])
    (I : Inv X pk τ H s) (r : Vals vs us) (h : sp vs H Z E0) : wpAny (model X.prog X.w) X.A (call (.ref f) us) (EP X pk τ Z) X.xe s := by
  have hlen : us.length = ps.length := by rw [← r.length]; exact F.len _ _ _ _ h
  have e1 : us ++ [] = us := List.append_nil us
  refine wpAny_call (codeAny_mono (F.run X.A X.stack s H ⟨us, []⟩ us vs Z E0 hr hg I.env0 (by have q := hbd s us I.kIn (by rw [e1]; exact hlen); rw [e1] at q; exact q) r h) fun r s' hsq => ?_)
  cases r with
  | error e => exact (show False from hsq).elim
  | ok fl =>
    cases fl with
    | ret u => exact I.after hsq
    | next => exact False.elim hsq
    | brk => exact False.elim hsq
    | cont => exact False.elim hsq
theorem pe_cG (c : CalG X.prog X.w X.K X.mg X.base k x sp) (hr : Room j X.A) (hg0 : X.A.guards = some []) (hkp : k ≤ j) (hg : Gl X x) (ha : PA X (e :: es) t)
    (hdb : (x == ("__debug__" : Str)) = false := by decide) (hes : starEach (e :: es) X.env = (false, eval e X.env) :: starEach es X.env := by rfl) (hpl : (backTo pos (starEach es X.env)).any (·.1) = false := by rfl) :
    PE X (.Call (.Name x p) (e :: es) [] pos) (tCall sp [] E0 t) := by
  obtain ⟨f, fd, ps, F, hmg, kp, b⟩ := c.ex
  refine ⟨fun pk s τ H Z I h => ?_⟩
  refine wpAny_Call_Name_kw (ld_glob I hg hmg ?_ hdb)
  refine PySem.W.callWith_K (h₀ := X.base) I.ok.mod.kin kp (thn (ha.run pos pk s τ H _ I h) fun us st1 ⟨vs, H1, I1, r, q⟩ => ⟨I1.kIn, ?_⟩) hes hpl
  have q : sp (vs ++ []) H1 Z E0 := q
  rw [List.append_nil] at q
  exact run_fnG F (hr.mono hkp) hg0 b I1 r q
end
end Own

namespace Own
open PySem PySem.Spec PyProof.Rows L2 Evl
theorem up_old {H : Hp} {p q : Addr} {o u : HO} (hp : H p = none) (h : H q = some u) : upd H p o q = some u := by
  rw [upd_ne (ne_of_none h hp)]
  exact h
theorem gen1 {H H1 : Hp} {p : Addr} {o : HO} (hq : upd H p o = H1) (hp : H p = none) : Ex H H1 ∧ H1 p = some o := by
  subst hq
  exact ⟨Ex.new hp, upd_same⟩
/-! ### tuples never change -/
def TEx (H H' : Hp) : Prop := ∀ a xs, H a = some (.tup xs) → H' a = some (.tup xs)
theorem TEx.refl (H : Hp) : TEx H H := fun _ _ h => h
theorem TEx.trans {H H1 H2 : Hp} (a : TEx H H1) (b : TEx H1 H2) : TEx H H2 := fun x o h => b x o (a x o h)
theorem TEx.of {H H' : Hp} (e : Ex H H') : TEx H H' := fun a _ h => e a _ h
theorem TEx.lst {H : Hp} {D : Addr} {xs : List V} {o : HO} (h : H D = some (.lst xs)) : TEx H (upd H D o) := fun a ys q => by
  rw [upd_ne (fun z => by rw [z, h] at q; cases q)]
  exact q
/-- two tuples, zipped -/
theorem walk_zipT {K : PySem.W.Frag} {a b : Addr} {xs ys : List V} {n : Nat} (hn : n = min xs.length ys.length) :
    Walk (RZ.ItzT K a b) n (fun H => SqT K H a xs ∧ SqT K H b ys) (YPair (fun i => xs[i]?) (fun i => ys[i]?)) := by
  refine ⟨fun i H hi h => ?_, fun H h => ⟨xs, ys, h.1, h.2, by omega⟩, fun i H x H' hi h y => ?_⟩
  · exact ⟨xs, ys, xs[i], ys[i], h.1, h.2, List.getElem?_eq_getElem (by omega), List.getElem?_eq_getElem (by omega)⟩
  · obtain ⟨T, u, v, rfl, h1, h2, h3, h4⟩ := y
    exact ⟨T, u, v, rfl, h1, h2, h3 _ h.1, h4 _ h.2⟩
/-- what is left of a comprehension, of a for, behind its source -/
def LcRest (g : TG) (tt : TT) (te : TE) (vs : List Nat) (σ : L2.St) (Q : VK) : It → Hp → Prop := fun J H1 => tLc (fun _ _ R => R J H1) g tt te vs σ H1 Q
def tLcO (wi : TI) (g : TG) (tt : TT) (te : TE) (vs : List Nat) : TE := fun σ H Q => wi σ H (LcRest g tt te vs σ Q)
def ForRest (g : TG) (tb : TS) (D : Ends) : L2.St → It → Hp → Prop := fun σ J H1 => tFor (fun _ _ R => R J H1) g tb D σ H1
def tForO (wi : TI) (g : TG) (tb : TS) : TS := fun D σ H => wi σ H (ForRest g tb D σ)
theorem pe_lcO {X : Cx} {e : Expr} {wi : TI} {g : TG} {tt : TT} {te : TE} {vs : List Nat} (h : PE X e (tLc wi g tt te vs)) : PE X e (tLcO wi g tt te vs) := h
theorem ps_setLcO {X : Cx} {st : Stmt} {wi : TI} {g k : TG} {tt : TT} {te : TE} {vs : List Nat} (h : PS X st (tAsg (tLc wi g tt te vs) k)) : PS X st (tAsg (tLcO wi g tt te vs) k) := h
theorem ps_forO {X : Cx} {st : Stmt} {wi : TI} {g : TG} {tb : TS} (h : PS X st (tFor wi g tb)) : PS X st (tForO wi g tb) := h
/-! ### the unions within a comprehension -/
section
variable {X : Cx} {s : Shared} {H : Hp} {sc : Scope} {ce : Env} {fp : List Addr} {s' : Shared} {H' : Hp} {sc' : Scope} {ce' : Env} {fp' : List Addr}
theorem pg_tupB {es : List Expr} {k n : Nat} {pos : Pos} {t : TGs} (hc : X.calm = true) (h : PGs (X.blk s H sc ce fp) es t) (hn : (assignEach es (X.blk s H sc ce fp).env).length = n := by rfl)
    (hst : (assignEach es (X.blk s H sc ce fp).env).findIdx? (·.1) = none := by rfl) : PG (X.blk s H sc ce fp) (.Tuple es k pos) (gTup X.K n t) := pg_tup (X := X.blk s H sc ce fp) hc h hn hst
theorem opAddB : OpR (X.blk s H sc ce fp) (binaryOp .Add) (rAdd X.K) := opAdd
theorem opEqB {k : Nat} (hr : Room k X.A) : OpR (X.blk s H sc ce fp) (compareOp .Eq) (rEqA X.K) := opEq hr
theorem opNeB {k : Nat} (hr : Room k X.A) : OpR (X.blk s H sc ce fp) (compareOp .NotEq) (rNeA X.K) := opNe hr
theorem opInB : OpR (X.blk s H sc ce fp) (compareOp .In) (rInA X.K) := opIn
theorem opNotInB : OpR (X.blk s H sc ce fp) (compareOp .NotIn) (rNotInA X.K) := opNotIn
theorem ixAnyB : IxR (X.blk s H sc ce fp) (rIxA X.K X.w) := ixAny
theorem slAnyB : SlR (X.blk s H sc ce fp) (rSlAny X.K) := slAny
theorem callLenB : CallR (X.blk s H sc ce fp) (.builtin "len") (rLenA X.K) := callLen
theorem opAddBB : OpR ((X.blk s H sc ce fp).blk s' H' sc' ce' fp') (binaryOp .Add) (rAdd X.K) := opAdd
theorem opEqBB {k : Nat} (hr : Room k X.A) : OpR ((X.blk s H sc ce fp).blk s' H' sc' ce' fp') (compareOp .Eq) (rEqA X.K) := opEq hr
theorem opNeBB {k : Nat} (hr : Room k X.A) : OpR ((X.blk s H sc ce fp).blk s' H' sc' ce' fp') (compareOp .NotEq) (rNeA X.K) := opNe hr
theorem opInBB : OpR ((X.blk s H sc ce fp).blk s' H' sc' ce' fp') (compareOp .In) (rInA X.K) := opIn
theorem opNotInBB : OpR ((X.blk s H sc ce fp).blk s' H' sc' ce' fp') (compareOp .NotIn) (rNotInA X.K) := opNotIn
theorem ixAnyBB : IxR ((X.blk s H sc ce fp).blk s' H' sc' ce' fp') (rIxA X.K X.w) := ixAny
theorem slAnyBB : SlR ((X.blk s H sc ce fp).blk s' H' sc' ce' fp') (rSlAny X.K) := slAny
theorem callLenBB : CallR ((X.blk s H sc ce fp).blk s' H' sc' ce' fp') (.builtin "len") (rLenA X.K) := callLen
end
/-- a for: Pv by the turn, the slots and the heap -/
theorem frG {J : It} {n : Nat} {G : Hp → Prop} {Y : Nat → Hp → V → Hp → Prop} (w : Walk J n G Y) {g : TG} {tb : TS} {D : Ends} {σ : L2.St} {H : Hp} (Pv : Nat → L2.St → Hp → Prop) (h0 : Pv 0 σ H) (hG : ∀ i σ H, i ≤ n → Pv i σ H → G H)
    (hs : ∀ i x σ H H', i < n → Pv i σ H → Y i H x H' → g x σ H' fun σ2 H2 => tb { D with nx := Pv (i + 1), ct := Pv (i + 1), bk := D.nx } σ2 H2) (hd : ∀ σ H, Pv n σ H → D.nx σ H) : ForRest g tb D σ J H := for_it w Pv h0 hG hs hd
/-- a comprehension whose turns may give anything: Pa speaks of the turn, what has been given, and tuples -/
theorem lcG {J : It} {n : Nat} {G : Hp → Prop} {Y : Nat → Hp → V → Hp → Prop} (w : Walk J n G Y) {g : TG} {tt : TT} {te : TE} {vs : List Nat} {σ : L2.St} {H1 : Hp} {Q : VK} (hn : n ≤ 40000) (hG0 : G H1) (hGm : ∀ H H', Ex H H' → G H → G H') (hY : ∀ i H x H', Y i H x H' → Ex H H')
    (Pa : Nat → List V → Hp → Prop) (hm : ∀ i ys H H', TEx H H' → Pa i ys H → Pa i ys H') (p0 : Pa 0 [] H1)
    (hs : ∀ i x H H' ys, i < n → Ex H1 H → Y i H x H' → Pa i ys H' → ∀ (N : V → Hp → Prop) (N0 : Hp → Prop), (∀ y H4, Ex H' H4 → Pa (i + 1) (ys ++ [y]) H4 → N y H4) → (∀ H3, Ex H' H3 → Pa (i + 1) ys H3 → N0 H3) →
      g x (wipe σ vs) H' fun σ2 H2 => wipe σ2 vs = wipe σ vs ∧ tt σ2 H2 fun b H3 => if b = true then te σ2 H3 N else N0 H3)
    (k : ∀ D H2 ys, H1 D = none → Ex H1 H2 → H2 D = some (.lst ys) → ys.length ≤ n → Pa n ys H2 → Q (.ref D) H2) :
    LcRest g tt te vs σ Q J H1 := by
  intro D hD
  refine lc_it w (fun i H => ∃ ys, Ex H1 H ∧ H D = some (.lst ys) ∧ ys.length ≤ i ∧ Pa i ys H) ⟨[], Ex.new hD, upd_same, Nat.zero_le _, hm _ _ _ _ (TEx.of (Ex.new hD)) p0⟩ (fun i H hi ⟨ys, e, _⟩ => hGm _ _ e hG0) ?_ ?_
  · rintro i x H H' hi ⟨ys, e, hd, hl, hp⟩ hy
    have e' := hY _ _ _ _ hy
    refine hs i x H H' ys hi e hy (hm _ _ _ _ (TEx.of e') hp) _ _ (fun y H4 e4 p4 => ?_) (fun H3 e3 p3 => ?_)
    · have d4 := e4 _ _ (e' _ _ hd)
      refine ⟨ys, d4, sz_lt (by omega), ys ++ [y], Ex.mut ((e.trans e').trans e4) hD, upd_same, ?_, hm _ _ _ _ (TEx.lst d4) p4⟩
      rw [List.length_append]
      show ys.length + 1 ≤ i + 1
      omega
    · exact ⟨ys, (e.trans e').trans e3, e3 _ _ (e' _ _ hd), by omega, p3⟩
  · rintro H ⟨ys, e, hd, hl, hp⟩
    exact k D H ys hD e hd hl hp
theorem ex_eq {H H' : Hp} (h : H' = H) : Ex H H' := by
  subst h
  exact Ex.refl _
theorem yAt_ex {xs : List V} : ∀ i H x H', YAt xs i H x H' → Ex H H' := fun _ _ _ _ h => ex_eq h.1
theorem yFn_ex {f : Nat → V} : ∀ i H x H', YFn f i H x H' → Ex H H' := fun _ _ _ _ h => ex_eq h.1
theorem yPair_ex {xs ys : Nat → Option V} : ∀ i H x H', YPair xs ys i H x H' → Ex H H' := fun _ _ _ _ h => by
  obtain ⟨T, u, v, _, h1, rfl, _, _⟩ := h
  exact Ex.new h1
/-! ### texts by their signs -/
def cs (z : Str) : List Nat := z.cps.toList
theorem cs_ext {a b : Str} (h : cs a = cs b) : a = b := PyProof.Rows.ext_toList h
theorem cs_len (z : Str) : z.length = (cs z).length := by simp [cs, Str.length]
theorem cs_add (a b : Str) : cs (a ++ b) = cs a ++ cs b := TL.tl_append a b
theorem cs_one (c : Nat) : cs ⟨#[c]⟩ = [c] := rfl
theorem cut_from (xs : List V) (j : Nat) : cutV xs (some (j : Int)) none = xs.drop j := by
  unfold cutV
  rw [HT.sIx_nat, HT.sIx_none]
  by_cases h : j ≤ xs.length
  · rw [Nat.min_eq_left h]
    apply List.take_of_length_le
    rw [List.length_drop]
    exact Nat.le_refl _
  · rw [Nat.min_eq_right (by omega), Nat.sub_self, List.take_zero, List.drop_of_length_le (by omega)]
theorem joinL_one : ∀ l : List Nat, TL.joinL [] (l.map fun c => [c]) = l
  | [] => rfl
  | [c] => rfl
  | c :: d :: r => by
    show [c] ++ ([] ++ TL.joinL [] ((d :: r).map fun c => [c])) = c :: d :: r
    rw [joinL_one (d :: r)]
    rfl
def sgn (c : Nat) : Str := ⟨#[c]⟩
theorem sum_sgn : ∀ cr : List Nat, ((cr.map sgn).map (·.length)).sum = cr.length
  | [] => rfl
  | c :: r => by
    rw [List.map_cons, List.map_cons, List.sum_cons, sum_sgn r, List.length_cons]
    show 1 + r.length = r.length + 1
    omega
theorem join_sgn (l : List Nat) : Txt.join ("" : Str) (l.map sgn) = SX.S l := by
  have e : l.map sgn = (l.map fun c => [c]).map SX.S := by
    rw [List.map_map]
    rfl
  rw [e]
  have q := SX.join_S [] (l.map fun c => [c])
  rw [joinL_one] at q
  exact q
theorem in_strs (z : Str) : ∀ ns : List Str, inV (.str z) (ns.map V.str) = decide (z ∈ ns)
  | [] => rfl
  | n :: ns => by
    have ih := in_strs z ns
    unfold inV at ih ⊢
    rw [List.map_cons, List.any_cons, ih]
    show ((n == z) || decide (z ∈ ns)) = decide (z ∈ n :: ns)
    by_cases h : n = z
    · subst h
      simp
    · have h2 : ¬ z = n := fun e => h e.symm
      have h3 : (n == z) = false := beq_eq_false_iff_ne.mpr h
      rw [h3, Bool.false_or]
      simp [h2]
theorem flat_strs (ns : List Str) : (ns.map V.str).all flatV = true := by
  rw [List.all_eq_true]
  intro x hx
  obtain ⟨y, _, rfl⟩ := List.mem_map.mp hx
  rfl
theorem str_at {ns : List Str} {i : Nat} {x : V} (h : (ns.map V.str)[i]? = some x) : ∃ z, ns[i]? = some z ∧ x = .str z := by
  rw [List.getElem?_map] at h
  cases e : ns[i]? with
  | none => rw [e] at h; cases h
  | some z => rw [e] at h; exact ⟨z, rfl, (Option.some.inj h).symm⟩
end Own

namespace Own
open PySem PySem.Spec PyProof.Rows L2 Evl
theorem listText_le (ts : List Str) : (listText ts).length ≤ piled ts + 3 := by
  unfold listText
  rw [strLen_append]
  cases ts with
  | nil => decide
  | cons t r =>
    show (textFrom 1 (("[" : Str) ++ ("" : Str) ++ t) r).length + 1 ≤ _
    rw [textFrom_length_pos _ _ _ (by decide), piled_cons, strLen_append, strLen_append]
    show 1 + 0 + t.length + piled r + 1 ≤ _
    omega
theorem tupleText_le (ts : List Str) : (tupleText ts).length ≤ piled ts + 3 := by
  unfold tupleText
  rw [strLen_append, strLen_append]
  have e3 : (((if ts.length == 1 then ",)" else ")" : String) : Str)).length ≤ 2 := by split <;> decide
  have e1 : ((("(" : String) : Str)).length = 1 := rfl
  by_cases h : ts = []
  · subst h
    decide
  · have := join_length_add ts h
    omega
mutual
/-- no text of d is longer -/
def wt : PyData → Nat
  | .none => 4
  | .bool _ => 5
  | .int _ => 1921
  | .str x => 10 * x.length + 2
  | .list xs => wts xs + 3
  | .tuple xs => wts xs + 3
  | .dict _ => 0
def wts : List PyData → Nat
  | [] => 0
  | x :: xs => wt x + 2 + wts xs
end
mutual
theorem shown_le : ∀ d : PyData, d.canLay0 = true → d.showable = true → d.shown.length ≤ wt d
  | .none, _, _ => by decide
  | .bool b, _, _ => by cases b <;> decide
  | .int i, _, h => int_text_len_1921 (of_decide_eq_true h)
  | .str x, h, _ => by
    refine StrLaws.reprText_len x fun c hc => ?_
    have h2 : x.cps.all (· < 0x110000) = true := h
    rw [← Array.all_toList] at h2
    have q := of_decide_eq_true ((List.all_eq_true.mp h2) c hc)
    exact Nat.lt_trans q (by decide)
  | .list xs, h, h2 => by
    have q := shownAll_le xs h h2
    have z := listText_le (PyData.shownAll xs)
    show (listText (PyData.shownAll xs)).length ≤ wts xs + 3
    omega
  | .tuple xs, h, h2 => by
    have q := shownAll_le xs h h2
    have z := tupleText_le (PyData.shownAll xs)
    show (tupleText (PyData.shownAll xs)).length ≤ wts xs + 3
    omega
  | .dict _, h, _ => by cases h
theorem shownAll_le : ∀ ds : List PyData, PyData.canLayAll0 ds = true → PyData.showableAll ds = true → piled (PyData.shownAll ds) ≤ wts ds
  | [], _, _ => Nat.le_refl _
  | d :: ds, h, h2 => by
    have h' : (d.canLay0 && PyData.canLayAll0 ds) = true := h
    have h2' : (d.showable && PyData.showableAll ds) = true := h2
    rw [Bool.and_eq_true] at h' h2'
    have q1 := shown_le d h'.1 h2'.1
    have q2 := shownAll_le ds h'.2 h2'.2
    show piled (d.shown :: PyData.shownAll ds) ≤ wt d + 2 + wts ds
    rw [piled_cons]
    omega
end
/-- data that may be shown and compared -/
def fine (d : PyData) : Prop := d.canLay0 = true ∧ d.showable = true ∧ d.depth ≤ 20 ∧ wt d ≤ 16000000
theorem fine.noDict {d : PyData} (h : fine d) : d.hasDict = false := PyData.hasDict_of_canLay d h.1
theorem fine.shp {d : PyData} (h : fine d) : SeqAt.shaped d = true := by
  unfold SeqAt.shaped
  rw [h.1, Bool.true_and]
  exact decide_eq_true (Nat.le_trans h.2.2.1 (by decide))
theorem fine.len {d : PyData} (h : fine d) : d.shown.length ≤ sizeLine := Nat.le_trans (shown_le d h.1 h.2.1) (Nat.le_trans h.2.2.2 (by decide))
/-- repr of any data -/
def rReprA (K : PySem.W.Frag) : List V → Hp → VK → Prop := fun xs H Q => ∃ v d, xs = [v] ∧ Dp K H v d ∧ fine d ∧ Q (.str d.shown) H
theorem callReprA {X : Cx} {k : Nat} (hg : X.A.guards = some []) (hr : Room k X.A) : CallR X (.builtin "repr") (rReprA X.K) := by
  intro pk s τ H xs us Q I r h
  obtain ⟨v, d, rfl, hd, hf, q⟩ := h
  cases hd with
  | lst h1 h2 => exact callRepr hg hr pk s τ H _ us Q I r ⟨_, _, rfl, .lst h1 h2, hf.2.1, hf.noDict, hf.2.2.1, hf.len, q⟩
  | tup h1 h2 => exact callRepr hg hr pk s τ H _ us Q I r ⟨_, _, rfl, .tup h1 h2, hf.2.1, hf.noDict, hf.2.2.1, hf.len, q⟩
  | non =>
    obtain ⟨u, rfl, ru⟩ := vals1 r
    cases ru
    exact PySem.P.repr_of_none ⟨.str "None", H, I.tok _, ⟨_, rfl⟩, q⟩
  | bl b =>
    obtain ⟨u, rfl, ru⟩ := vals1 r
    cases ru
    exact PySem.P.repr_of_bool ⟨.str (if b then "True" else "False"), H, I.tok _, ⟨_, by cases b <;> rfl⟩, by cases b <;> exact q⟩
  | int i =>
    obtain ⟨u, rfl, t, rfl⟩ := vals1 r
    exact PySem.P.repr_of_int (of_decide_eq_true hf.2.1) ⟨.str (toString i), H, I.tok _, ⟨_, rfl⟩, q⟩
  | str x =>
    obtain ⟨u, rfl, t, rfl⟩ := vals1 r
    exact PySem.P.repr_of_str ⟨.str (reprText x), H, I.tok _, ⟨_, rfl⟩, q⟩ hf.len
def spAlike (K : PySem.W.Frag) : Sp := fun vs H Q _ => ∃ (x y : V) (d : PyData), vs = [x, y] ∧ Dp K H x d ∧ Dp K H y d ∧ fine d ∧ Q (.bl true) H
/-- bounds by parts -/
def fin (n W : Nat) (d : PyData) : Prop := d.canLay0 = true ∧ d.showable = true ∧ d.depth ≤ n ∧ wt d ≤ W
theorem fin.fine {n W : Nat} {d : PyData} (h : fin n W d) (h1 : n ≤ 20) (h2 : W ≤ 16000000) : fine d := ⟨h.1, h.2.1, Nat.le_trans h.2.2.1 h1, Nat.le_trans h.2.2.2 h2⟩
theorem fin.mono {n W n' W' : Nat} {d : PyData} (h : fin n W d) (h1 : n ≤ n') (h2 : W ≤ W') : fin n' W' d := ⟨h.1, h.2.1, Nat.le_trans h.2.2.1 h1, Nat.le_trans h.2.2.2 h2⟩
theorem fin_all {n W : Nat} : ∀ {ds : List PyData}, (∀ d ∈ ds, fin n W d) → PyData.canLayAll0 ds = true ∧ PyData.showableAll ds = true ∧ PyData.depthAll ds ≤ n ∧ wts ds ≤ ds.length * (W + 2)
  | [], _ => ⟨rfl, rfl, Nat.zero_le _, Nat.zero_le _⟩
  | d :: ds, h => by
    obtain ⟨a1, a2, a3, a4⟩ := h d List.mem_cons_self
    obtain ⟨b1, b2, b3, b4⟩ := fin_all fun x hx => h x (List.mem_cons_of_mem _ hx)
    refine ⟨?_, ?_, ?_, ?_⟩
    · show (d.canLay0 && PyData.canLayAll0 ds) = true
      rw [a1, b1]
      rfl
    · show (d.showable && PyData.showableAll ds) = true
      rw [a2, b2]
      rfl
    · show max d.depth (PyData.depthAll ds) ≤ n
      omega
    · show wt d + 2 + wts ds ≤ (ds.length + 1) * (W + 2)
      rw [Nat.add_mul]
      omega
theorem fin_list {n W m : Nat} {ds : List PyData} (h : ∀ d ∈ ds, fin n W d) (hm : ds.length ≤ m) : fin (n + 1) (m * (W + 2) + 3) (.list ds) := by
  obtain ⟨b1, b2, b3, b4⟩ := fin_all h
  refine ⟨b1, b2, Nat.succ_le_succ b3, ?_⟩
  show wts ds + 3 ≤ _
  have q := Nat.mul_le_mul_right (W + 2) hm
  omega
theorem fin_tup {n W m : Nat} {ds : List PyData} (h : ∀ d ∈ ds, fin n W d) (hm : ds.length ≤ m) : fin (n + 1) (m * (W + 2) + 3) (.tuple ds) := by
  obtain ⟨b1, b2, b3, b4⟩ := fin_all h
  refine ⟨b1, b2, Nat.succ_le_succ b3, ?_⟩
  show wts ds + 3 ≤ _
  have q := Nat.mul_le_mul_right (W + 2) hm
  omega
theorem fin_str {z : Str} {L : Nat} (h : (PyData.str z).canLay0 = true) (hl : z.length ≤ L) : fin 0 (10 * L + 2) (.str z) := by
  refine ⟨h, rfl, Nat.le_refl _, ?_⟩
  show 10 * z.length + 2 ≤ _
  omega
theorem fin_bool (b : Bool) : fin 0 5 (.bool b) := ⟨rfl, rfl, Nat.le_refl _, Nat.le_refl _⟩
theorem fin_none : fin 0 5 .none := ⟨rfl, rfl, Nat.le_refl _, by show 4 ≤ 5; decide⟩
theorem fin_int {i : Int} (h : i.natAbs.log2 < 1920) : fin 0 1921 (.int i) := ⟨rfl, decide_eq_true h, Nat.le_refl _, Nat.le_refl _⟩
/-- a text times 0 or 1 -/
def rMulS : R2 := fun x y H Q => ∃ (z : Str) (k : Bool), x = .str z ∧ y = .int (if k then 1 else 0) ∧ z.length ≤ 100000 ∧ Q (.str (if k then z else Str.empty)) H
theorem op_mulS {X : Cx} : OpR X (binaryOp .Mult) rMulS := by
  intro pk s τ H x y v u Q I rx ry h
  obtain ⟨z, k, rfl, rfl, hl, q⟩ := h
  obtain ⟨t, rfl⟩ := rx
  cases k with
  | false =>
    obtain ⟨t', rfl⟩ := ry
    exact PySem.P.mul_str_none (by decide) (by decide) ⟨.str _, H, I.tok _, ⟨_, rfl⟩, q⟩
  | true =>
    obtain ⟨t', rfl⟩ := ry
    have z : EP X pk τ Q (.str z t) s := ⟨.str _, H, I, ⟨_, rfl⟩, q⟩
    refine PySem.P.mul_str (by decide) (fun _ h => absurd h (by simp)) (fun _ h => absurd h (by simp)) ?_
    rw [if_neg (by decide), if_pos (by simp)]
    exact z
end Own

namespace Own
open PySem PySem.Spec PyProof.Rows L2 Evl
/-! ### two sources in one comprehension -/
def Lc2Rest (g : TG) (tt : TT) (wi1 : TI) (g1 : TG) (tt1 : TT) (te : TE) (vs vs1 : List Nat) (σ : L2.St) (Q : VK) : It → Hp → Prop := fun J H1 => tLc2 (fun _ _ R => R J H1) g tt wi1 g1 tt1 te vs vs1 σ H1 Q
def tLc2O (wi : TI) (g : TG) (tt : TT) (wi1 : TI) (g1 : TG) (tt1 : TT) (te : TE) (vs vs1 : List Nat) : TE := fun σ H Q => wi σ H (Lc2Rest g tt wi1 g1 tt1 te vs vs1 σ Q)
theorem pe_lc2O {X : Cx} {e : Expr} {wi wi1 : TI} {g g1 : TG} {tt tt1 : TT} {te : TE} {vs vs1 : List Nat} (h : PE X e (tLc2 wi g tt wi1 g1 tt1 te vs vs1)) : PE X e (tLc2O wi g tt wi1 g1 tt1 te vs vs1) := h
theorem ps_setLc2O {X : Cx} {st : Stmt} {wi wi1 : TI} {g g1 k : TG} {tt tt1 : TT} {te : TE} {vs vs1 : List Nat} (h : PS X st (tAsg (tLc2 wi g tt wi1 g1 tt1 te vs vs1) k)) : PS X st (tAsg (tLc2O wi g tt wi1 g1 tt1 te vs vs1) k) := h
theorem piAnyB {X : Cx} {s : Shared} {H : Hp} {sc : Scope} {ce : Env} {fp : List Addr} {tg l : Expr} {tl : TE} (hl : PE (X.blk s H sc ce fp) l tl) : PI (X.blk s H sc ce fp) tg l (iAny X.K tl) := piAny hl
/-- what is left of the second source's loop -/
def InRest (D : Addr) (Nx : Hp → Prop) (g1 : TG) (tt1 : TT) (te : TE) (vs1 : List Nat) (σ2 : L2.St) : It → Hp → Prop := fun J1 H4 => ∃ W1 : Nat → Nat → Hp → Prop, (∃ m, W1 0 m H4) ∧ ∀ j k H, W1 j k H →
  (J1.stop j H ∧ Nx H) ∨ (J1.go j H ∧ ∃ Nx1 : Hp → Prop, (∀ H', Nx1 H' → ∃ k', k' < k ∧ W1 (j + 1) k' H') ∧ ∀ x H', J1.yld j H x H' → g1 x (wipe σ2 vs1) H' fun σ3 H5 => wipe σ3 vs1 = wipe σ2 vs1 ∧ tt1 σ3 H5 fun b H6 =>
    if b = true then te σ3 H6 fun y H7 => ∃ acc, H7 D = some (.lst acc) ∧ acc.length < sizeLine ∧ Nx1 (upd H7 D (.lst (acc ++ [y]))) else Nx1 H6)
theorem inG {J1 : It} {n1 : Nat} {G1 : Hp → Prop} {Y1 : Nat → Hp → V → Hp → Prop} (w1 : Walk J1 n1 G1 Y1) {D : Addr} {Nx : Hp → Prop} {g1 : TG} {tt1 : TT} {te : TE} {vs1 : List Nat} {σ2 : L2.St} {H1 H4 : Hp} {ys : List V}
    (hD : H1 D = none) (e0 : Ex H1 H4) (hd : H4 D = some (.lst ys)) (hG1 : ∀ H, Ex H1 H → TEx H4 H → G1 H) (hY1 : ∀ i H x H', Y1 i H x H' → Ex H H') (Pb : Nat → List V → Hp → Prop) (hm : ∀ j zs H H', TEx H H' → Pb j zs H → Pb j zs H') (hl : ∀ j zs H, Pb j zs H → zs.length ≤ 40000) (p0 : Pb 0 ys H4)
    (hs : ∀ j x H5 H6 zs, j < n1 → Ex H1 H5 → TEx H4 H5 → Y1 j H5 x H6 → Pb j zs H6 → ∀ (N : V → Hp → Prop) (N1 : Hp → Prop), (∀ y H7, Ex H6 H7 → Pb (j + 1) (zs ++ [y]) H7 → N y H7) → (∀ H7, Ex H6 H7 → Pb (j + 1) zs H7 → N1 H7) →
      g1 x (wipe σ2 vs1) H6 fun σ3 H7 => wipe σ3 vs1 = wipe σ2 vs1 ∧ tt1 σ3 H7 fun b H8 => if b = true then te σ3 H8 N else N1 H8)
    (hend : ∀ zs H, Ex H1 H → TEx H4 H → H D = some (.lst zs) → Pb n1 zs H → Nx H) : InRest D Nx g1 tt1 te vs1 σ2 J1 H4 := by
  refine ⟨fun j k H => k = n1 - j ∧ j ≤ n1 ∧ ∃ zs, Ex H1 H ∧ TEx H4 H ∧ H D = some (.lst zs) ∧ Pb j zs H, ⟨n1, by simp, Nat.zero_le _, ys, e0, TEx.refl _, hd, p0⟩, ?_⟩
  rintro j k H ⟨rfl, hj, zs, e, t, d, p⟩
  have hg := hG1 H e t
  by_cases hlt : j < n1
  · refine .inr ⟨w1.goes j H hlt hg, fun H' => ∃ zs, Ex H1 H' ∧ TEx H4 H' ∧ H' D = some (.lst zs) ∧ Pb (j + 1) zs H', fun H' q => ⟨n1 - (j + 1), by omega, rfl, hlt, q⟩, fun x H' y => ?_⟩
    have hy := w1.yields j H x H' hlt hg y
    have e' := hY1 _ _ _ _ hy
    refine hs j x H H' zs hlt e t hy (hm _ _ _ _ (TEx.of e') p) _ _ (fun v H7 e7 p7 => ?_) (fun H7 e7 p7 => ?_)
    · have d7 := e7 _ _ (e' _ _ d)
      have b := hl _ _ _ p
      exact ⟨zs, d7, sz_lt (by omega), zs ++ [v], Ex.mut ((e.trans e').trans e7) hD, (t.trans (TEx.of (e'.trans e7))).trans (TEx.lst d7), upd_same, hm _ _ _ _ (TEx.lst d7) p7⟩
    · exact ⟨zs, (e.trans e').trans e7, t.trans (TEx.of (e'.trans e7)), e7 _ _ (e' _ _ d), p7⟩
  · have ej : j = n1 := by omega
    subst ej
    exact .inl ⟨w1.stops H hg, hend zs H e t d p⟩
/-- a comprehension over two sources whose turns may give anything -/
theorem lc2G {J : It} {n : Nat} {G : Hp → Prop} {Y : Nat → Hp → V → Hp → Prop} (w : Walk J n G Y) {g : TG} {tt : TT} {wi1 : TI} {g1 : TG} {tt1 : TT} {te : TE} {vs vs1 : List Nat} {σ : L2.St} {H1 : Hp} {Q : VK} (hG0 : G H1) (hGm : ∀ H H', Ex H H' → G H → G H') (hY : ∀ i H x H', Y i H x H' → Ex H H')
    (Pa : Nat → List V → Hp → Prop) (hm : ∀ i ys H H', TEx H H' → Pa i ys H → Pa i ys H') (p0 : Pa 0 [] H1)
    (hs : ∀ i x H H' ys, i < n → Ex H1 H → Y i H x H' → Pa i ys H' → ∀ (D : Addr) (Nx : Hp → Prop), H1 D = none → H' D = some (.lst ys) → (∀ zs H3, Ex H1 H3 → H3 D = some (.lst zs) → Pa (i + 1) zs H3 → Nx H3) →
      g x (wipe σ vs) H' fun σ2 H2 => wipe σ2 vs = wipe σ vs ∧ tt σ2 H2 fun b H3 => if b = true then wi1 σ2 H3 (InRest D Nx g1 tt1 te vs1 σ2) else Nx H3)
    (k : ∀ D H2 ys, H1 D = none → Ex H1 H2 → H2 D = some (.lst ys) → Pa n ys H2 → Q (.ref D) H2) : Lc2Rest g tt wi1 g1 tt1 te vs vs1 σ Q J H1 := by
  intro D hD
  refine ⟨fun i m H => m = n - i ∧ i ≤ n ∧ ∃ ys, Ex H1 H ∧ H D = some (.lst ys) ∧ Pa i ys H, ⟨n, by simp, Nat.zero_le _, [], Ex.new hD, upd_same, hm _ _ _ _ (TEx.of (Ex.new hD)) p0⟩, ?_⟩
  rintro i m H ⟨rfl, hi, ys, e, d, p⟩
  have hg := hGm _ _ e hG0
  by_cases hlt : i < n
  · refine .inr ⟨w.goes i H hlt hg, fun H' => ∃ ys, Ex H1 H' ∧ H' D = some (.lst ys) ∧ Pa (i + 1) ys H', fun H' q => ⟨n - (i + 1), by omega, rfl, hlt, q⟩, fun x H' y => ?_⟩
    have hy := w.yields i H x H' hlt hg y
    have e' := hY _ _ _ _ hy
    exact hs i x H H' ys hlt e hy (hm _ _ _ _ (TEx.of e') p) D _ hD (e' _ _ d) fun zs H3 e3 d3 p3 => ⟨zs, e3, d3, p3⟩
  · have ej : i = n := by omega
    subst ej
    exact .inl ⟨w.stops H hg, k D H ys hD e d p⟩
/-! ### xs[::s], s being 1 or -1 -/
def tDirL (K : PySem.W.Frag) (te ts : TE) : TE := fun σ H Q => te σ H fun x H1 => tPart ts σ H1 fun o H2 => ∃ (a : Addr) (xs : List V) (i : Bool), x = .ref a ∧ SqL K H2 a xs ∧ o = some (if i = true then 1 else -1) ∧ ∀ p, H2 p = none → Q (.ref p) (upd H2 p (.lst (if i = true then xs else xs.reverse)))
theorem cut_all (xs : List V) : cutV xs none none = xs := by
  unfold cutV
  rw [HT.sIx_none, HT.sIx_none, List.drop_zero, Nat.sub_zero, List.take_length]
theorem pe_dirL {X : Cx} {e es : Expr} {te ts : TE} {p3 pos : Pos} (he : PE X e te) (hs : PE X es ts)
    (hsub : ∀ (a l : Addr), subscripted (.Slice none none (some es) p3) false (.ref a) (.ref l) = operate [.ref a, .ref l] (getItem (.ref a) (.ref l)) := by intro _ _; with_unfolding_all rfl) : PE X (.Subscript e (.Slice none none (some es) p3) pos) (tDirL X.K te ts) := by
  refine ⟨fun pins s σ H Q I h => ?_⟩
  refine Subscript_ (thn (he.run pins s σ H _ I h) fun v s1 ⟨x, H1, I1, r1, q1⟩ => ?_)
  refine wpAny_Slice (thn (po_none.run pins s1 σ H1 (fun o H2 => o = none ∧ H2 = H1) I1 ⟨rfl, rfl⟩) fun vl s2 ⟨l, H2, I2, pl, el, e2⟩ => ?_)
  subst el e2
  refine thn (po_none.run pins s2 σ H2 (fun o H3 => o = none ∧ H3 = H2) I2 ⟨rfl, rfl⟩) fun vu s3 ⟨u, H3, I3, pu, eu, e3⟩ => ?_
  subst eu e3
  have hst : PO X (some es) (tPart ts) := po_some hs
  refine thn (hst.run pins s3 σ H3 _ I3 q1) fun vs s4 ⟨o, H4, I4, ps, a, xs, ib, ex, hx, eo, q⟩ => ?_
  subst ex
  cases r1
  subst eo
  have I5 : Inv X pins σ H4 { s4 with heap := s4.heap.push { cls := .type "slice", data := .fields #[vl, vu, vs] } } := I4.kept (t' := s4.toks) fun b ob q => Heap.get?_push_of_some _ q
  obtain ⟨its, r, ht, hz⟩ := I5.list hx
  have hlen := r.length
  show wpAny (model X.prog X.w) X.A (subscriptTail e (.Slice none none (some es) p3) (.ref a) (.ref s4.heap.objs.size)) (EP X pins σ Q) X.xe { s4 with heap := s4.heap.push { cls := .type "slice", data := .fields #[vl, vu, vs] } }
  refine tail_any (ops := [.ref a, .ref s4.heap.objs.size]) ht.isList.typeIs (PySem.slot_list_getitem.lookup) ?_ (hsub _ _)
  cases ib with
  | true =>
    simp only [if_true] at q ps ⊢
    refine wpAny_getItem_list_slice ht.isList (Heap.IsSliceOf.new _ vl vu vs) pl pu ps (by decide) ?_ (by rw [List.size_toArray]; omega)
    rw [show slicePick its.toArray none none (some 1) = slicePick its.toArray none none none from rfl, slicePick_cut, HT.sIx_none, HT.sIx_none, List.drop_zero, Nat.sub_zero, List.take_length]
    exact ⟨.ref _, _, I5.laid (t' := s4.toks) (o := .lst xs) (fun b ob q => Heap.get?_push_of_some _ q) (Nat.le_refl _) ⟨hz, _, 0, r, Heap.get?_push_size _ rfl⟩, rfl, q _ (I5.hok.fresh (Nat.le_refl _))⟩
  | false =>
    simp only [Bool.false_eq_true, if_false] at q ps ⊢
    refine wpAny_getItem_list_slice ht.isList (Heap.IsSliceOf.new _ vl vu vs) pl pu ps (by decide) ?_ (by rw [List.size_toArray]; omega)
    rw [PySem.W.krv_pick]
    exact ⟨.ref _, _, I5.laid (t' := s4.toks) (o := .lst xs.reverse) (fun b ob q => Heap.get?_push_of_some _ q) (Nat.le_refl _) ⟨by rw [List.length_reverse]; exact hz, _, 0, r.reverse, Heap.get?_push_size _ rfl⟩, rfl, q _ (I5.hok.fresh (Nat.le_refl _))⟩
theorem ifT {b : Bool} {p q : Prop} (h : b = true) (x : p) : if b = true then p else q := by
  rw [h]
  exact iteT x
theorem ifF {b : Bool} {p q : Prop} (h : b = false) (x : q) : if b = true then p else q := by
  rw [h]
  exact iteF x
theorem cut_to (xs : List V) (j : Nat) : cutV xs none (some (j : Int)) = xs.take j := by
  unfold cutV
  rw [HT.sIx_nat, HT.sIx_none, List.drop_zero, Nat.sub_zero]
  by_cases h : j ≤ xs.length
  · rw [Nat.min_eq_left h]
  · rw [Nat.min_eq_right (by omega), List.take_of_length_le (Nat.le_refl _), List.take_of_length_le (by omega)]
/-! ### repr of a dict of texts and ints -/
def kvV (p : Str × Int) : Key × V := (Sum.inr p.1, .int p.2)
def kvP (p : Str × Int) : PyData × PyData := (.str p.1, .int p.2)
def dcD (kv : List (Str × Int)) : PyData := .dict (kv.map kvP)
theorem dc_reads {P : Program} {w : World} {h : Heap} : ∀ {kv : List (Str × Int)} {us : List (Key × Value)} {es : List DictEntry}, KV (kv.map kvV) us → Pairs (mixKind P w) es us →
    ReadsAll h (es.map (·.key)) ((kv.map kvP).map (·.1)) [] ∧ ReadsAll h (es.map (·.val)) ((kv.map kvP).map (·.2)) []
  | [], _, _, .nil, .nil => ⟨.nil, .nil⟩
  | p :: kv, u :: us, e :: es, .cons a b, .cons c d f => by
    obtain ⟨q1, q2⟩ := dc_reads b f
    obtain ⟨a1, t, a2⟩ := a
    have a1 : Sum.inr p.1 = u.1 := a1
    rcases keyIs_shape (show keyIs u.1 e.key = true from c) with ⟨i, t', e1, e2⟩ | ⟨x, t', e1, e2⟩
    · rw [← a1] at e1
      cases e1
    · rw [← a1] at e1
      cases e1
      refine ⟨?_, ?_⟩
      · show ReadsAll h (e.key :: es.map (·.key)) (PyData.str p.1 :: (kv.map kvP).map (·.1)) ([] ++ [])
        rw [e2]
        exact .cons (.str _ _) q1
      · show ReadsAll h (e.val :: es.map (·.val)) (PyData.int p.2 :: (kv.map kvP).map (·.2)) ([] ++ [])
        rw [d, a2]
        exact .cons (.int _ _) q2
def kvOk (p : Str × Int) : Prop := (PyData.str p.1).canLay0 = true ∧ p.1.length ≤ 100 ∧ p.2.natAbs.log2 < 1920
theorem dc_depth : ∀ kv : List (Str × Int), PyData.depthKv (kv.map kvP) = 0
  | [] => rfl
  | p :: kv => by
    show max (max 0 0) (PyData.depthKv (kv.map kvP)) = 0
    rw [dc_depth kv]
    rfl
theorem dc_show : ∀ {kv : List (Str × Int)}, (∀ p ∈ kv, kvOk p) → PyData.showableKv (kv.map kvP) = true ∧ ((PyData.shownKv (kv.map kvP)).map (·.length)).sum ≤ kv.length * 3000 ∧ (PyData.shownKv (kv.map kvP)).length = kv.length
  | [], _ => ⟨rfl, Nat.le_refl _, rfl⟩
  | p :: kv, h => by
    obtain ⟨a1, a2, a3⟩ := dc_show fun q hq => h q (List.mem_cons_of_mem _ hq)
    obtain ⟨b1, b2, b3⟩ := h p List.mem_cons_self
    have s1 := shown_le (.str p.1) b1 rfl
    have s2 := shown_le (.int p.2) rfl (decide_eq_true b3)
    have s1 : (PyData.shown (.str p.1)).length ≤ 10 * p.1.length + 2 := s1
    have s2 : (PyData.shown (.int p.2)).length ≤ 1921 := s2
    refine ⟨?_, ?_, ?_⟩
    · show ((PyData.str p.1).showable && (PyData.int p.2).showable && PyData.showableKv (kv.map kvP)) = true
      rw [a1, show (PyData.str p.1).showable = true from rfl, show (PyData.int p.2).showable = true from decide_eq_true b3]
      rfl
    · show ((PyData.shownKv ((PyData.str p.1, PyData.int p.2) :: kv.map kvP)).map (·.length)).sum ≤ (kv.length + 1) * 3000
      rw [PyData.shownKv_cons, List.map_cons, List.sum_cons, strLen_append, strLen_append]
      have : (": " : Str).length = 2 := rfl
      omega
    · show (PyData.shownKv ((PyData.str p.1, PyData.int p.2) :: kv.map kvP)).length = kv.length + 1
      rw [PyData.shownKv_cons, List.length_cons, a3]
def rReprK : List V → Hp → VK → Prop := fun xs H Q => ∃ (a : Addr) (kv : List (Str × Int)), xs = [.ref a] ∧ H a = some (.dK (kv.map kvV)) ∧ (∀ p ∈ kv, kvOk p) ∧ kv.length ≤ 1000 ∧ Q (.str (dcD kv).shown) H
theorem callReprK {X : Cx} {k : Nat} (hg : X.A.guards = some []) (hr : Room k X.A) : CallR X (.builtin "repr") rReprK := by
  intro pk s τ H xs us Q I r h
  obtain ⟨a, kv, rfl, ha, hok, hl, q⟩ := h
  rw [Vals.ref1 r]
  obtain ⟨hz, hsm, vs, rel, o, es, ep, ho, hex, hdat, hko, hp, hn⟩ := dk_of I.hok ha
  obtain ⟨r1, r2⟩ := dc_reads (h := s.heap) rel hp
  obtain ⟨s1, s2, s3⟩ := dc_show hok
  have rd : Reads s.heap (.ref a) (dcD kv) (a :: [] ++ []) := Reads.dict ho hex.1 hdat r1 r2
  have hu := hr.units
  have hlen : (dcD kv).shown.length ≤ sizeLine := by
    show (dictText (PyData.shownKv (kv.map kvP))).length ≤ sizeLine
    have z := dictText_len_le (PyData.shownKv (kv.map kvP))
    rw [s3] at z
    have := line63
    have z2 : (dictText (PyData.shownKv (kv.map kvP))).length ≤ 4000000 := by
      have := Nat.mul_le_mul_right 3000 hl
      omega
    exact Nat.le_trans z2 (by decide)
  have hdep : (dcD kv).depth = 1 := by
    show PyData.depthKv (kv.map kvP) + 1 = 1
    rw [dc_depth]
  refine repr_of_reads' rd s1 (fun _ hm => ?_) hg (by omega) (fun _ _ e => e) (fun h' u tk hkp => ⟨.str (dcD kv).shown, H, I.kept (h' := h') (t' := tk) hkp, ⟨_, rfl⟩, q⟩) hlen
  have hm : sysModules ∈ [a] := hm
  rw [List.mem_singleton] at hm
  rw [← hm] at hsm
  exact absurd hsm (by decide)
end Own

namespace Own
open PySem PySem.Spec PyProof.Rows L2 Evl
/-! ### values of all kinds -/
mutual
/-- data that is tracked; dicts of texts and ints may stand in it -/
inductive Da (H : Hp) : V → PyData → Prop
  | non : Da H .non .none
  | bl (b : Bool) : Da H (.bl b) (.bool b)
  | int (i : Int) : Da H (.int i) (.int i)
  | str (z : Str) : Da H (.str z) (.str z)
  | lst {a : Addr} {xs : List V} {ds : List PyData} : H a = some (.lst xs) → DaAll H xs ds → Da H (.ref a) (.list ds)
  | tup {a : Addr} {xs : List V} {ds : List PyData} : H a = some (.tup xs) → DaAll H xs ds → Da H (.ref a) (.tuple ds)
  | dct {a : Addr} {kv : List (Str × Int)} {ks : List (PyData × PyData)} : H a = some (.dK (kv.map kvV)) → ks = kv.map kvP → Da H (.ref a) (.dict ks)
inductive DaAll (H : Hp) : List V → List PyData → Prop
  | nil : DaAll H [] []
  | cons {v : V} {vs : List V} {d : PyData} {ds : List PyData} : Da H v d → DaAll H vs ds → DaAll H (v :: vs) (d :: ds)
end
mutual
theorem Da.ex {H H' : Hp} (e : Ex H H') : ∀ (d : PyData) {v : V}, Da H v d → Da H' v d
  | .none, _, h => by cases h; exact .non
  | .bool _, _, h => by cases h; exact .bl _
  | .int _, _, h => by cases h; exact .int _
  | .str _, _, h => by cases h; exact .str _
  | .list ds, _, h => by
    cases h with
    | lst h1 h2 => exact .lst (e _ _ h1) (DaAll.ex e ds h2)
  | .tuple ds, _, h => by
    cases h with
    | tup h1 h2 => exact .tup (e _ _ h1) (DaAll.ex e ds h2)
  | .dict _, _, h => by
    cases h with
    | dct h1 h2 => exact .dct (e _ _ h1) h2
theorem DaAll.ex {H H' : Hp} (e : Ex H H') : ∀ (ds : List PyData) {vs : List V}, DaAll H vs ds → DaAll H' vs ds
  | [], _, h => by cases h; exact .nil
  | d :: ds, _, h => by
    cases h with
    | cons h1 h2 => exact .cons (Da.ex e d h1) (DaAll.ex e ds h2)
end
theorem DaAll.len {H : Hp} : ∀ {vs : List V} {ds : List PyData}, DaAll H vs ds → vs.length = ds.length
  | _, _, .nil => rfl
  | _, _, .cons _ h => by rw [List.length_cons, List.length_cons, h.len]
theorem DaAll.at {H : Hp} : ∀ {vs : List V} {ds : List PyData} {i : Nat} {v : V}, DaAll H vs ds → vs[i]? = some v → ∃ d, ds[i]? = some d ∧ Da H v d
  | _, _, _, _, .nil, e => by simp at e
  | _, _, 0, _, .cons h _, e => by cases e; exact ⟨_, rfl, h⟩
  | _, _, i + 1, _, .cons _ h, e => DaAll.at (i := i) h e
theorem DaAll.at2 {H : Hp} : ∀ {vs : List V} {ds : List PyData} {i : Nat} {d : PyData}, DaAll H vs ds → ds[i]? = some d → ∃ v, vs[i]? = some v ∧ Da H v d
  | _, _, _, _, .nil, e => by simp at e
  | _, _, 0, _, .cons h _, e => by cases e; exact ⟨_, rfl, h⟩
  | _, _, i + 1, _, .cons _ h, e => DaAll.at2 (i := i) h e
theorem DaAll.app {H : Hp} : ∀ {vs ws : List V} {ds es : List PyData}, DaAll H vs ds → DaAll H ws es → DaAll H (vs ++ ws) (ds ++ es)
  | _, _, _, _, .nil, k => k
  | _, _, _, _, .cons h t, k => .cons h (t.app k)
theorem DaAll.take {H : Hp} : ∀ {vs : List V} {ds : List PyData} (n : Nat), DaAll H vs ds → DaAll H (vs.take n) (ds.take n)
  | _, _, 0, _ => .nil
  | _, _, _ + 1, .nil => .nil
  | _, _, n + 1, .cons h t => .cons h (t.take n)
theorem DaAll.drop {H : Hp} : ∀ {vs : List V} {ds : List PyData} (n : Nat), DaAll H vs ds → DaAll H (vs.drop n) (ds.drop n)
  | _, _, 0, h => h
  | _, _, _ + 1, .nil => .nil
  | _, _, n + 1, .cons _ t => t.drop n
theorem DaAll.put {H : Hp} {v : V} {d : PyData} (hv : Da H v d) : ∀ {vs : List V} {ds : List PyData} {i : Nat}, DaAll H vs ds → DaAll H (vs.set i v) (ds.set i d)
  | _, _, _, .nil => .nil
  | _, _, 0, .cons _ t => .cons hv t
  | _, _, i + 1, .cons h t => .cons h (DaAll.put hv (i := i) t)
theorem DaAll.snoc {H : Hp} {v : V} {d : PyData} {vs : List V} {ds : List PyData} (h : DaAll H vs ds) (hv : Da H v d) : DaAll H (vs ++ [v]) (ds ++ [d]) := h.app (.cons hv .nil)
/-! kinds -/
def tyD : PyData → String
  | .none => "NoneType"
  | .bool _ => "bool"
  | .int _ => "int"
  | .str _ => "str"
  | .list _ => "list"
  | .tuple _ => "tuple"
  | .dict _ => "dict"
theorem Da.ty {K : PySem.W.Frag} {H : Hp} {v : V} {d : PyData} (h : Da H v d) : TyX K H v (.type (tyD d)) := by
  cases h with
  | non => exact .base .non
  | bl b => exact .base (.bl b)
  | int i => exact .base (.int i)
  | str z => exact .base (.str z)
  | lst h1 h2 => exact .base (.lst h1)
  | tup h1 h2 => exact .base (.tup h1)
  | dct h1 h2 => exact .base (.dK h1)
def isStrD : PyData → Bool | .str _ => true | _ => false
def isTupD : PyData → Bool | .tuple _ => true | _ => false
def isLstD : PyData → Bool | .list _ => true | _ => false
def isBoolD : PyData → Bool | .bool _ => true | _ => false
def isIntD : PyData → Bool | .int _ => true | .bool _ => true | _ => false
theorem kit7 {T : String} {a b c e f g i : Bool} (h1 : kitB "NoneType" T = some a) (h2 : kitB "bool" T = some b) (h3 : kitB "int" T = some c) (h4 : kitB "str" T = some e) (h5 : kitB "list" T = some f) (h6 : kitB "tuple" T = some g) (h7 : kitB "dict" T = some i)
    {p : PyData → Bool} (q1 : p .none = a) (q2 : ∀ x, p (.bool x) = b) (q3 : ∀ x, p (.int x) = c) (q4 : ∀ x, p (.str x) = e) (q5 : ∀ x, p (.list x) = f) (q6 : ∀ x, p (.tuple x) = g) (q7 : ∀ x, p (.dict x) = i) : ∀ d, kitB (tyD d) T = some (p d)
  | .none => by rw [q1]; exact h1
  | .bool x => by rw [q2]; exact h2
  | .int x => by rw [q3]; exact h3
  | .str x => by rw [q4]; exact h4
  | .list x => by rw [q5]; exact h5
  | .tuple x => by rw [q6]; exact h6
  | .dict x => by rw [q7]; exact h7
theorem kit_str : ∀ d, kitB (tyD d) "str" = some (isStrD d) := kit7 (a := false) (b := false) (c := false) (e := true) (f := false) (g := false) (i := false) (by decide +kernel) (by decide +kernel) (by decide +kernel) (by decide +kernel) (by decide +kernel) (by decide +kernel) (by decide +kernel) rfl (fun _ => rfl) (fun _ => rfl) (fun _ => rfl) (fun _ => rfl) (fun _ => rfl) (fun _ => rfl)
theorem kit_tuple : ∀ d, kitB (tyD d) "tuple" = some (isTupD d) := kit7 (a := false) (b := false) (c := false) (e := false) (f := false) (g := true) (i := false) (by decide +kernel) (by decide +kernel) (by decide +kernel) (by decide +kernel) (by decide +kernel) (by decide +kernel) (by decide +kernel) rfl (fun _ => rfl) (fun _ => rfl) (fun _ => rfl) (fun _ => rfl) (fun _ => rfl) (fun _ => rfl)
theorem kit_list : ∀ d, kitB (tyD d) "list" = some (isLstD d) := kit7 (a := false) (b := false) (c := false) (e := false) (f := true) (g := false) (i := false) (by decide +kernel) (by decide +kernel) (by decide +kernel) (by decide +kernel) (by decide +kernel) (by decide +kernel) (by decide +kernel) rfl (fun _ => rfl) (fun _ => rfl) (fun _ => rfl) (fun _ => rfl) (fun _ => rfl) (fun _ => rfl)
theorem kit_bool : ∀ d, kitB (tyD d) "bool" = some (isBoolD d) := kit7 (a := false) (b := true) (c := false) (e := false) (f := false) (g := false) (i := false) (by decide +kernel) (by decide +kernel) (by decide +kernel) (by decide +kernel) (by decide +kernel) (by decide +kernel) (by decide +kernel) rfl (fun _ => rfl) (fun _ => rfl) (fun _ => rfl) (fun _ => rfl) (fun _ => rfl) (fun _ => rfl)
theorem kit_int : ∀ d, kitB (tyD d) "int" = some (isIntD d) := kit7 (a := false) (b := true) (c := true) (e := false) (f := false) (g := false) (i := false) (by decide +kernel) (by decide +kernel) (by decide +kernel) (by decide +kernel) (by decide +kernel) (by decide +kernel) (by decide +kernel) rfl (fun _ => rfl) (fun _ => rfl) (fun _ => rfl) (fun _ => rfl) (fun _ => rfl) (fun _ => rfl)
section
variable {K : PySem.W.Frag} {H : Hp} {v : V} {d : PyData} {Q : VK}
theorem isi_str (h : Da H v d) (q : Q (.bl (isStrD d)) H) : rIsi K [v, .ty "str"] H Q :=
  ⟨v, .ty "str", _, _, isStrD d, rfl, .ty _, h.ty, kit_ty (kit_str d), q⟩
theorem isi_tup (h : Da H v d) (q : Q (.bl (isTupD d)) H) : rIsi K [v, .ty "tuple"] H Q :=
  ⟨v, .ty "tuple", _, _, isTupD d, rfl, .ty _, h.ty, kit_ty (kit_tuple d), q⟩
theorem isi_lst (h : Da H v d) (q : Q (.bl (isLstD d)) H) : rIsi K [v, .ty "list"] H Q :=
  ⟨v, .ty "list", _, _, isLstD d, rfl, .ty _, h.ty, kit_ty (kit_list d), q⟩
theorem isi_bool (h : Da H v d) (q : Q (.bl (isBoolD d)) H) : rIsi K [v, .ty "bool"] H Q :=
  ⟨v, .ty "bool", _, _, isBoolD d, rfl, .ty _, h.ty, kit_ty (kit_bool d), q⟩
theorem isi_int (h : Da H v d) (q : Q (.bl (isIntD d)) H) : rIsi K [v, .ty "int"] H Q :=
  ⟨v, .ty "int", _, _, isIntD d, rfl, .ty _, h.ty, kit_ty (kit_int d), q⟩
theorem isi_two {a b : String} {r1 r2 : Bool} {tp : Addr} (h : Da H v d) (ht : H tp = some (.tup [.ty a, .ty b])) (h1 : PySem.W.kitOne K (.type (tyD d)) (.type a) = some r1) (h2 : PySem.W.kitOne K (.type (tyD d)) (.type b) = some r2) (q : Q (.bl (r1 || r2)) H) : rIsiT K [v, .ref tp] H Q := by
  refine ⟨v, tp, _, _, [.type a, .type b], r1 || r2, rfl, ht, .cons (.ty _) (.cons (.ty _) .nil), h.ty, ?_, q⟩
  refine kitAny_cons h1 (fun e => ?_) (fun e => by rw [e]; rfl)
  rw [e, Bool.false_or]
  exact kitAny_cons h2 (fun e => by rw [e]; exact kitAny_nil) (fun e => by rw [e])
theorem isi_tl {tp : Addr} (h : Da H v d) (ht : H tp = some (.tup [.ty "tuple", .ty "list"])) (q : Q (.bl (isTupD d || isLstD d)) H) : rIsiT K [v, .ref tp] H Q :=
  isi_two h ht (r1 := isTupD d) (r2 := isLstD d) (kit_ty (kit_tuple d)) (kit_ty (kit_list d)) q
theorem isi_lt {tp : Addr} (h : Da H v d) (ht : H tp = some (.tup [.ty "list", .ty "tuple"])) (q : Q (.bl (isLstD d || isTupD d)) H) : rIsiT K [v, .ref tp] H Q :=
  isi_two h ht (r1 := isLstD d) (r2 := isTupD d) (kit_ty (kit_list d)) (kit_ty (kit_tuple d)) q
end
/-! a list beside the empty one -/
def rEq0 (K : PySem.W.Frag) : R2 := fun x y H Q => ∃ (a b : Addr) (xs : List V), x = .ref a ∧ y = .ref b ∧ SqL K H a xs ∧ SqL K H b [] ∧ Q (.bl xs.isEmpty) H
def rNe0 (K : PySem.W.Frag) : R2 := fun x y H Q => ∃ (a b : Addr) (xs : List V), x = .ref a ∧ y = .ref b ∧ SqL K H a xs ∧ SqL K H b [] ∧ Q (.bl (!xs.isEmpty)) H
theorem op_eq0 {X : Cx} {k : Nat} (hr : Room k X.A) : OpR X (compareOp .Eq) (rEq0 X.K) := by
  intro pk s τ H x y v u Q I rx ry h
  obtain ⟨a, b, xs, rfl, rfl, h1, h2, q⟩ := h
  cases rx
  cases ry
  obtain ⟨its, r, pl, hz⟩ := I.list h1
  obtain ⟨its2, r2, pl2, hz2⟩ := I.list h2
  cases r2
  have hu : X.A.units < cLine := by
    have := hr.units
    omega
  have hlen := r.length
  cases xs with
  | nil =>
    cases r
    exact SeqAt.eq_listAt (e := fun _ => true) pl.isList pl2.isList rfl hu (fun j h1 => absurd h1 (by simp)) ⟨.bl true, H, I, rfl, q⟩
  | cons z zs =>
    refine SeqAt.eq_list_lengthsAt pl.isList pl2.isList ?_ hu ⟨.bl false, H, I, rfl, q⟩
    rw [List.length_cons] at hlen
    simp only [List.size_toArray, List.length_nil, bne_iff_ne, ne_eq]
    omega
theorem op_ne0 {X : Cx} {k : Nat} (hr : Room k X.A) : OpR X (compareOp .NotEq) (rNe0 X.K) := by
  intro pk s τ H x y v u Q I rx ry h
  obtain ⟨a, b, xs, rfl, rfl, h1, h2, q⟩ := h
  cases rx
  cases ry
  obtain ⟨its, r, pl, hz⟩ := I.list h1
  obtain ⟨its2, r2, pl2, hz2⟩ := I.list h2
  cases r2
  have hu : X.A.units < cLine := by
    have := hr.units
    omega
  have hlen := r.length
  cases xs with
  | nil =>
    cases r
    exact SeqAt.RcNeAt.lists (e := fun _ => true) pl.isList pl2.isList rfl hu (fun j h1 => absurd h1 (by simp)) _ _ _ _ ⟨.bl false, H, I, rfl, q⟩
  | cons z zs =>
    refine SeqAt.RcNeAt.lists_lengths pl.isList pl2.isList ?_ hu _ _ _ _ ⟨.bl true, H, I, rfl, q⟩
    rw [List.length_cons] at hlen
    simp only [List.size_toArray, List.length_nil, bne_iff_ne, ne_eq]
    omega
theorem op_eq0B {X : Cx} {k : Nat} {s : Shared} {H : Hp} {sc : Scope} {ce : Env} {fp : List Addr} (hr : Room k X.A) : OpR (X.blk s H sc ce fp) (compareOp .Eq) (rEq0 X.K) := op_eq0 hr
theorem op_ne0B {X : Cx} {k : Nat} {s : Shared} {H : Hp} {sc : Scope} {ce : Env} {fp : List Addr} (hr : Room k X.A) : OpR (X.blk s H sc ce fp) (compareOp .NotEq) (rNe0 X.K) := op_ne0 hr
/-! sizes -/
mutual
def gD : PyData → Bool
  | .none => true
  | .bool _ => true
  | .int i => decide (i.natAbs.log2 < 1920)
  | .str x => x.cps.all (· < 0x110000)
  | .list xs => gDs xs
  | .tuple xs => gDs xs
  | .dict ks => gDk ks
def gDs : List PyData → Bool
  | [] => true
  | x :: xs => gD x && gDs xs
def gDk : List (PyData × PyData) → Bool
  | [] => true
  | (k, v) :: r => gD k && (gD v && gDk r)
end
mutual
/-- no text of d is longer -/
def wd : PyData → Nat
  | .none => 5
  | .bool _ => 5
  | .int _ => 1921
  | .str x => 10 * x.length + 5
  | .list xs => wds xs + 3
  | .tuple xs => wds xs + 3
  | .dict ks => wdk ks + 3
def wds : List PyData → Nat
  | [] => 0
  | x :: xs => wd x + 2 + wds xs
def wdk : List (PyData × PyData) → Nat
  | [] => 0
  | (k, v) :: r => wd k + wd v + 4 + wdk r
end
theorem str_wd {x : Str} (h : x.cps.all (· < 0x110000) = true) : (PyData.shown (.str x)).length ≤ 10 * x.length + 5 := by
  have z : (PyData.shown (.str x)).length ≤ 10 * x.length + 2 := by
    refine StrLaws.reprText_len x fun c hc => ?_
    rw [← Array.all_toList] at h
    have q := of_decide_eq_true ((List.all_eq_true.mp h) c hc)
    exact Nat.lt_trans q (by decide)
  omega
mutual
theorem shownD : ∀ d : PyData, gD d = true → d.showable = true ∧ d.shown.length ≤ wd d
  | .none, _ => ⟨rfl, by decide⟩
  | .bool b, _ => ⟨rfl, by cases b <;> decide⟩
  | .int i, h => ⟨h, int_text_len_1921 (of_decide_eq_true h)⟩
  | .str x, h => ⟨rfl, str_wd h⟩
  | .list xs, h => by
    obtain ⟨q1, q2⟩ := shownDs xs h
    have z := listText_le (PyData.shownAll xs)
    refine ⟨q1, ?_⟩
    show (listText (PyData.shownAll xs)).length ≤ wds xs + 3
    omega
  | .tuple xs, h => by
    obtain ⟨q1, q2⟩ := shownDs xs h
    have z := tupleText_le (PyData.shownAll xs)
    refine ⟨q1, ?_⟩
    show (tupleText (PyData.shownAll xs)).length ≤ wds xs + 3
    omega
  | .dict ks, h => by
    obtain ⟨q1, q2⟩ := shownDk ks h
    refine ⟨q1, ?_⟩
    show (dictText (PyData.shownKv ks)).length ≤ wdk ks + 3
    have z := dictText_len_le (PyData.shownKv ks)
    omega
theorem shownDs : ∀ ds : List PyData, gDs ds = true → PyData.showableAll ds = true ∧ piled (PyData.shownAll ds) ≤ wds ds
  | [], _ => ⟨rfl, Nat.le_refl _⟩
  | d :: ds, h => by
    have h' : (gD d && gDs ds) = true := h
    rw [Bool.and_eq_true] at h'
    obtain ⟨a1, a2⟩ := shownD d h'.1
    obtain ⟨b1, b2⟩ := shownDs ds h'.2
    refine ⟨?_, ?_⟩
    · show (d.showable && PyData.showableAll ds) = true
      rw [a1, b1]
      rfl
    · show piled (d.shown :: PyData.shownAll ds) ≤ wd d + 2 + wds ds
      rw [piled_cons]
      omega
theorem shownDk : ∀ ks : List (PyData × PyData), gDk ks = true → PyData.showableKv ks = true ∧ ((PyData.shownKv ks).map (·.length)).sum + 2 * (PyData.shownKv ks).length ≤ wdk ks
  | [], _ => ⟨rfl, Nat.le_refl _⟩
  | (k, v) :: r, h => by
    have h' : (gD k && (gD v && gDk r)) = true := h
    rw [Bool.and_eq_true, Bool.and_eq_true] at h'
    obtain ⟨a1, a2⟩ := shownD k h'.1
    obtain ⟨b1, b2⟩ := shownD v h'.2.1
    obtain ⟨c1, c2⟩ := shownDk r h'.2.2
    refine ⟨?_, ?_⟩
    · show (k.showable && v.showable && PyData.showableKv r) = true
      rw [a1, b1, c1]
      rfl
    · rw [PyData.shownKv_cons, List.map_cons, List.sum_cons, List.length_cons, strLen_append, strLen_append]
      show _ ≤ wd k + wd v + 4 + wdk r
      have : (": " : Str).length = 2 := rfl
      omega
end
end Own

namespace Own
open PySem PySem.Spec PyProof.Rows L2 Evl
/-- the base knows the table of modules (so no tracked list lies there) -/
def SysAt (base : Heap) : Prop := ∃ mm, base.Ns sysModules mm
section
variable {X : Cx} {pins : List (Addr × Obj)} {σ : L2.St} {H : Hp} {s : Shared}
theorem not_sys (I : Inv X pins σ H s) (hs : SysAt X.base) {a : Addr} {o : Obj} {vs : Array Value} {n : Nat} (h : s.heap.get? a = some o) (hd : o.data = .seq vs n) : a ≠ sysModules := by
  intro e
  subst e
  obtain ⟨mm, o2, es, ep, h2, hd2, _⟩ := hs
  have h3 := I.bk _ _ h2
  rw [h] at h3
  cases h3
  rw [hd] at hd2
  cases hd2
mutual
theorem Da.reads (I : Inv X pins σ H s) (hs : SysAt X.base) : ∀ (d : PyData) (v : V) (u : Value), Da H v d → RelV v u → ∃ as, Reads s.heap u d as ∧ sysModules ∉ as
  | .none, _, _, h, r => by
    cases h
    cases r
    exact ⟨_, Reads.none, by simp⟩
  | .bool b, _, _, h, r => by
    cases h
    cases r
    exact ⟨_, Reads.bool b, by simp⟩
  | .int i, _, _, h, r => by
    cases h
    obtain ⟨t, rfl⟩ := r
    exact ⟨_, Reads.int i t, by simp⟩
  | .str x, _, _, h, r => by
    cases h
    obtain ⟨t, rfl⟩ := r
    exact ⟨_, Reads.str x t, by simp⟩
  | .list ds, _, _, h, r => by
    cases h with
    | lst hh ha =>
      cases r
      obtain ⟨its, rv, ⟨o, n, ho, hc, _, hd⟩, _⟩ := I.list (sq_of hh)
      obtain ⟨as, hr, hn⟩ := DaAll.reads I hs ds _ its ha rv
      refine ⟨_, Reads.list ho hc hd hr, ?_⟩
      rw [List.mem_cons, not_or]
      exact ⟨(not_sys I hs ho hd).symm, hn⟩
  | .tuple ds, _, _, h, r => by
    cases h with
    | tup hh ha =>
      cases r
      obtain ⟨its, rv, ⟨o, ho, hc, n, hd⟩, _⟩ := I.tuple (st_of hh)
      obtain ⟨as, hr, hn⟩ := DaAll.reads I hs ds _ its ha rv
      exact ⟨_, Reads.tuple ho hc hd hr, hn⟩
  | .dict ks, _, _, h, r => by
    cases h with
    | dct hh e =>
      cases r
      obtain ⟨hz, hsm, vs, rel, o, es, ep, ho, hex, hdat, hko, hp, hn⟩ := dk_of I.hok hh
      obtain ⟨r1, r2⟩ := dc_reads (h := s.heap) rel hp
      subst e
      refine ⟨_, Reads.dict ho hex.1 hdat r1 r2, ?_⟩
      intro hm
      have hm : sysModules ∈ [_] := hm
      rw [List.mem_singleton] at hm
      rw [← hm] at hsm
      exact absurd hsm (by decide)
theorem DaAll.reads (I : Inv X pins σ H s) (hs : SysAt X.base) : ∀ (ds : List PyData) (vs : List V) (us : List Value), DaAll H vs ds → Vals vs us → ∃ as, ReadsAll s.heap us ds as ∧ sysModules ∉ as
  | [], _, _, h, r => by
    cases h
    cases r
    exact ⟨_, ReadsAll.nil, by simp⟩
  | d :: ds, _, _, h, r => by
    cases h with
    | cons h1 h2 =>
      cases r with
      | cons r1 r2 =>
        obtain ⟨as, q1, n1⟩ := Da.reads I hs d _ _ h1 r1
        obtain ⟨bs, q2, n2⟩ := DaAll.reads I hs ds _ _ h2 r2
        refine ⟨_, ReadsAll.cons q1 q2, ?_⟩
        rw [List.mem_append, not_or]
        exact ⟨n1, n2⟩
end
end
/-- data that may be shown -/
def okD (n W : Nat) (d : PyData) : Prop := gD d = true ∧ d.depth ≤ n ∧ wd d ≤ W
theorem okD.mono {n W n' W' : Nat} {d : PyData} (h : okD n W d) (h1 : n ≤ n') (h2 : W ≤ W') : okD n' W' d := ⟨h.1, Nat.le_trans h.2.1 h1, Nat.le_trans h.2.2 h2⟩
def rReprX : List V → Hp → VK → Prop := fun xs H Q => ∃ v d, xs = [v] ∧ Da H v d ∧ okD 40 16000000 d ∧ Q (.str d.shown) H
theorem callReprX {X : Cx} {k : Nat} (hs : SysAt X.base) (hg : X.A.guards = some []) (hr : Room k X.A) : CallR X (.builtin "repr") rReprX := by
  intro pk s τ H xs us Q I r h
  obtain ⟨v, d, rfl, hd, ⟨g1, g2, g3⟩, q⟩ := h
  obtain ⟨s1, s2⟩ := shownD d g1
  have hlen : d.shown.length ≤ sizeLine := Nat.le_trans s2 (Nat.le_trans g3 (by decide))
  have hu := hr.units
  obtain ⟨u, eu, ru⟩ := vals1 r
  subst eu
  obtain ⟨as, rd, hn⟩ := Da.reads I hs d v u hd ru
  cases hd with
  | lst h1 h2 =>
    cases ru
    exact repr_of_reads' rd s1 (fun _ => hn) hg (by omega) (fun _ _ e => e) (fun h' u tk hkp => ⟨.str _, H, I.kept (h' := h') (t' := tk) hkp, ⟨_, rfl⟩, q⟩) hlen
  | tup h1 h2 =>
    cases ru
    exact repr_of_reads' rd s1 (fun _ => hn) hg (by omega) (fun _ _ e => e) (fun h' u tk hkp => ⟨.str _, H, I.kept (h' := h') (t' := tk) hkp, ⟨_, rfl⟩, q⟩) hlen
  | dct h1 h2 =>
    cases ru
    exact repr_of_reads' rd s1 (fun _ => hn) hg (by omega) (fun _ _ e => e) (fun h' u tk hkp => ⟨.str _, H, I.kept (h' := h') (t' := tk) hkp, ⟨_, rfl⟩, q⟩) hlen
  | non =>
    cases ru
    exact PySem.P.repr_of_none ⟨.str "None", H, I.tok _, ⟨_, rfl⟩, q⟩
  | bl b =>
    cases ru
    exact PySem.P.repr_of_bool ⟨.str (if b then "True" else "False"), H, I.tok _, ⟨_, by cases b <;> rfl⟩, by cases b <;> exact q⟩
  | int i =>
    obtain ⟨t, rfl⟩ := ru
    exact PySem.P.repr_of_int (of_decide_eq_true g1) ⟨.str (toString i), H, I.tok _, ⟨_, rfl⟩, q⟩
  | str x =>
    obtain ⟨t, rfl⟩ := ru
    exact PySem.P.repr_of_str ⟨.str (reprText x), H, I.tok _, ⟨_, rfl⟩, q⟩ hlen
/-! making and taking apart -/
theorem gDs_iff : ∀ {ds : List PyData}, gDs ds = true ↔ ∀ d ∈ ds, gD d = true
  | [] => ⟨fun _ d h => by (cases h), fun _ => rfl⟩
  | x :: xs => by
    show (gD x && gDs xs) = true ↔ _
    rw [Bool.and_eq_true, gDs_iff (ds := xs)]
    refine ⟨fun h d hd => ?_, fun h => ⟨h x List.mem_cons_self, fun d hd => h d (List.mem_cons_of_mem _ hd)⟩⟩
    rcases List.mem_cons.mp hd with e | hd
    · rw [e]
      exact h.1
    · exact h.2 d hd
theorem depthAll_le {n : Nat} : ∀ {ds : List PyData}, PyData.depthAll ds ≤ n ↔ ∀ d ∈ ds, d.depth ≤ n
  | [] => ⟨fun _ d h => by (cases h), fun _ => Nat.zero_le _⟩
  | x :: xs => by
    show max x.depth (PyData.depthAll xs) ≤ n ↔ _
    rw [Nat.max_le, depthAll_le (ds := xs)]
    refine ⟨fun h d hd => ?_, fun h => ⟨h x List.mem_cons_self, fun d hd => h d (List.mem_cons_of_mem _ hd)⟩⟩
    rcases List.mem_cons.mp hd with e | hd
    · rw [e]
      exact h.1
    · exact h.2 d hd
theorem wds_app : ∀ (xs ys : List PyData), wds (xs ++ ys) = wds xs + wds ys
  | [], ys => (Nat.zero_add _).symm
  | x :: xs, ys => by
    show wd x + 2 + wds (xs ++ ys) = wd x + 2 + wds xs + wds ys
    rw [wds_app xs ys]
    omega
theorem wd_mem {d : PyData} : ∀ {ds : List PyData}, d ∈ ds → wd d + 2 ≤ wds ds
  | x :: xs, h => by
    show _ ≤ wd x + 2 + wds xs
    rcases List.mem_cons.mp h with e | h
    · rw [e]
      omega
    · have := wd_mem h
      omega
theorem wds_take (n : Nat) (xs : List PyData) : wds (xs.take n) ≤ wds xs := by
  have h := wds_app (xs.take n) (xs.drop n)
  rw [List.take_append_drop] at h
  omega
theorem wds_drop (n : Nat) (xs : List PyData) : wds (xs.drop n) ≤ wds xs := by
  have h := wds_app (xs.take n) (xs.drop n)
  rw [List.take_append_drop] at h
  omega
theorem wd_pos : ∀ d : PyData, 3 ≤ wd d
  | .none => by show 3 ≤ 5; decide
  | .bool _ => by show 3 ≤ 5; decide
  | .int _ => by show 3 ≤ 1921; decide
  | .str x => by show 3 ≤ 10 * x.length + 5; omega
  | .list xs => by show 3 ≤ wds xs + 3; omega
  | .tuple xs => by show 3 ≤ wds xs + 3; omega
  | .dict ks => by show 3 ≤ wdk ks + 3; omega
theorem len_wds : ∀ ds : List PyData, 5 * ds.length ≤ wds ds
  | [] => Nat.le_refl _
  | x :: xs => by
    have := len_wds xs
    have := wd_pos x
    show 5 * (xs.length + 1) ≤ wd x + 2 + wds xs
    omega
end Own

namespace Own
open PySem PySem.Spec PyProof.Rows L2 Evl
/-! ### data that lies within A -/
theorem none_of {H H' : Hp} {l : Addr} (e : Ex H H') (h : H' l = none) : H l = none := by
  cases hx : H l with
  | none => rfl
  | some o => rw [e _ _ hx] at h; cases h
mutual
inductive DaA (A : Addr → Prop) (H : Hp) : V → PyData → Prop
  | non : DaA A H .non .none
  | bl (b : Bool) : DaA A H (.bl b) (.bool b)
  | int (i : Int) : DaA A H (.int i) (.int i)
  | str (z : Str) : DaA A H (.str z) (.str z)
  | lst {a : Addr} {xs : List V} {ds : List PyData} : A a → H a = some (.lst xs) → DaAA A H xs ds → DaA A H (.ref a) (.list ds)
  | tup {a : Addr} {xs : List V} {ds : List PyData} : A a → H a = some (.tup xs) → DaAA A H xs ds → DaA A H (.ref a) (.tuple ds)
  | dct {a : Addr} {kv : List (Str × Int)} {ks : List (PyData × PyData)} : A a → H a = some (.dK (kv.map kvV)) → ks = kv.map kvP → DaA A H (.ref a) (.dict ks)
inductive DaAA (A : Addr → Prop) (H : Hp) : List V → List PyData → Prop
  | nil : DaAA A H [] []
  | cons {v : V} {vs : List V} {d : PyData} {ds : List PyData} : DaA A H v d → DaAA A H vs ds → DaAA A H (v :: vs) (d :: ds)
end
mutual
theorem DaA.move {A A' : Addr → Prop} {H H' : Hp} (e : ∀ a o, A a → H a = some o → H' a = some o) (w : ∀ a, A a → A' a) : ∀ (d : PyData) {v : V}, DaA A H v d → DaA A' H' v d
  | .none, _, h => by cases h; exact .non
  | .bool _, _, h => by cases h; exact .bl _
  | .int _, _, h => by cases h; exact .int _
  | .str _, _, h => by cases h; exact .str _
  | .list ds, _, h => by
    cases h with
    | lst h0 h1 h2 => exact .lst (w _ h0) (e _ _ h0 h1) (DaAA.move e w ds h2)
  | .tuple ds, _, h => by
    cases h with
    | tup h0 h1 h2 => exact .tup (w _ h0) (e _ _ h0 h1) (DaAA.move e w ds h2)
  | .dict _, _, h => by
    cases h with
    | dct h0 h1 h2 => exact .dct (w _ h0) (e _ _ h0 h1) h2
theorem DaAA.move {A A' : Addr → Prop} {H H' : Hp} (e : ∀ a o, A a → H a = some o → H' a = some o) (w : ∀ a, A a → A' a) : ∀ (ds : List PyData) {vs : List V}, DaAA A H vs ds → DaAA A' H' vs ds
  | [], _, h => by cases h; exact .nil
  | d :: ds, _, h => by
    cases h with
    | cons h1 h2 => exact .cons (DaA.move e w d h1) (DaAA.move e w ds h2)
end
mutual
theorem DaA.da {A : Addr → Prop} {H : Hp} : ∀ (d : PyData) {v : V}, DaA A H v d → Da H v d
  | .none, _, h => by cases h; exact .non
  | .bool _, _, h => by cases h; exact .bl _
  | .int _, _, h => by cases h; exact .int _
  | .str _, _, h => by cases h; exact .str _
  | .list ds, _, h => by
    cases h with
    | lst h0 h1 h2 => exact .lst h1 (DaAA.da ds h2)
  | .tuple ds, _, h => by
    cases h with
    | tup h0 h1 h2 => exact .tup h1 (DaAA.da ds h2)
  | .dict _, _, h => by
    cases h with
    | dct h0 h1 h2 => exact .dct h1 h2
theorem DaAA.da {A : Addr → Prop} {H : Hp} : ∀ (ds : List PyData) {vs : List V}, DaAA A H vs ds → DaAll H vs ds
  | [], _, h => by cases h; exact .nil
  | d :: ds, _, h => by
    cases h with
    | cons h1 h2 => exact .cons (DaA.da d h1) (DaAA.da ds h2)
end
mutual
theorem Da.within {H : Hp} : ∀ (d : PyData) {v : V}, Da H v d → DaA (fun a => H a ≠ none) H v d
  | .none, _, h => by cases h; exact .non
  | .bool _, _, h => by cases h; exact .bl _
  | .int _, _, h => by cases h; exact .int _
  | .str _, _, h => by cases h; exact .str _
  | .list ds, _, h => by
    cases h with
    | lst h1 h2 => exact .lst (by rw [h1]; exact fun z => nomatch z) h1 (DaAll.within ds h2)
  | .tuple ds, _, h => by
    cases h with
    | tup h1 h2 => exact .tup (by rw [h1]; exact fun z => nomatch z) h1 (DaAll.within ds h2)
  | .dict _, _, h => by
    cases h with
    | dct h1 h2 => exact .dct (by rw [h1]; exact fun z => nomatch z) h1 h2
theorem DaAll.within {H : Hp} : ∀ (ds : List PyData) {vs : List V}, DaAll H vs ds → DaAA (fun a => H a ≠ none) H vs ds
  | [], _, h => by cases h; exact .nil
  | d :: ds, _, h => by
    cases h with
    | cons h1 h2 => exact .cons (Da.within d h1) (DaAll.within ds h2)
end
section
variable {A : Addr → Prop} {H : Hp}
theorem DaAA.len : ∀ {vs : List V} {ds : List PyData}, DaAA A H vs ds → vs.length = ds.length
  | _, _, .nil => rfl
  | _, _, .cons _ h => by rw [List.length_cons, List.length_cons, h.len]
theorem DaAA.at2 : ∀ {vs : List V} {ds : List PyData} {i : Nat} {d : PyData}, DaAA A H vs ds → ds[i]? = some d → ∃ v, vs[i]? = some v ∧ DaA A H v d
  | _, _, _, _, .nil, e => by simp at e
  | _, _, 0, _, .cons h _, e => by cases e; exact ⟨_, rfl, h⟩
  | _, _, i + 1, _, .cons _ h, e => DaAA.at2 (i := i) h e
theorem DaAA.at : ∀ {vs : List V} {ds : List PyData} {i : Nat} {v : V}, DaAA A H vs ds → vs[i]? = some v → ∃ d, ds[i]? = some d ∧ DaA A H v d
  | _, _, _, _, .nil, e => by simp at e
  | _, _, 0, _, .cons h _, e => by cases e; exact ⟨_, rfl, h⟩
  | _, _, i + 1, _, .cons _ h, e => DaAA.at (i := i) h e
theorem DaAA.app : ∀ {vs ws : List V} {ds es : List PyData}, DaAA A H vs ds → DaAA A H ws es → DaAA A H (vs ++ ws) (ds ++ es)
  | _, _, _, _, .nil, k => k
  | _, _, _, _, .cons h t, k => .cons h (t.app k)
theorem DaAA.take : ∀ {vs : List V} {ds : List PyData} (n : Nat), DaAA A H vs ds → DaAA A H (vs.take n) (ds.take n)
  | _, _, 0, _ => .nil
  | _, _, _ + 1, .nil => .nil
  | _, _, n + 1, .cons h t => .cons h (t.take n)
theorem DaAA.drop : ∀ {vs : List V} {ds : List PyData} (n : Nat), DaAA A H vs ds → DaAA A H (vs.drop n) (ds.drop n)
  | _, _, 0, h => h
  | _, _, _ + 1, .nil => .nil
  | _, _, n + 1, .cons _ t => t.drop n
theorem DaAA.put {v : V} {d : PyData} (hv : DaA A H v d) : ∀ {vs : List V} {ds : List PyData} {i : Nat}, DaAA A H vs ds → DaAA A H (vs.set i v) (ds.set i d)
  | _, _, _, .nil => .nil
  | _, _, 0, .cons _ t => .cons hv t
  | _, _, i + 1, .cons h t => .cons h (DaAA.put hv (i := i) t)
end
end Own

namespace Own
open PySem PySem.Spec PyProof.Rows L2 Evl
/-! ### a tuple that begins with a text, beside a tuple of one text -/
def rEqTs (K : PySem.W.Frag) : R2 := fun x y H Q => ∃ (a b : Addr) (z u : Str) (xs : List V), x = .ref a ∧ y = .ref b ∧ SqT K H a (.str z :: xs) ∧ SqT K H b [.str u] ∧ Q (.bl (decide (z = u) && xs.isEmpty)) H
theorem op_eqTs {X : Cx} {k : Nat} (hr : Room k X.A) : OpR X (compareOp .Eq) (rEqTs X.K) := by
  intro pk s τ H x y v v2 Q I rx ry h
  obtain ⟨a, b, z, u, xs, rfl, rfl, h1, h2, q⟩ := h
  cases rx
  cases ry
  obtain ⟨its, r, tp, hz⟩ := I.tuple h1
  obtain ⟨its2, r2, tp2, hz2⟩ := I.tuple h2
  cases r2 with
  | cons ru rn =>
    cases rn
    obtain ⟨tu, rfl⟩ := ru
    cases r with
    | @cons _ _ _ its0 rz rr =>
      obtain ⟨tz, rfl⟩ := rz
      have hu : X.A.units < cLine := by
        have := hr.units
        omega
      refine SeqAt.eq_tupleAt (e := fun _ => decide (z = u)) tp tp2 hu (fun j h1 h2 => ?_) ⟨.bl _, H, I, rfl, ?_⟩
      · have hj : j = 0 := by
          have : j < 1 := h2
          omega
        subst hj
        have e : (z == u) = decide (z = u) := by
          by_cases h : z = u
          · rw [h]
            simp
          · rw [decide_eq_false h]
            exact beq_eq_false_iff_ne.mpr h
        rw [← e]
        exact SeqAt.EqAt.str_str z tz u tu
      · have hm : min (Value.str z tz :: its0).toArray.size [Value.str u tu].toArray.size = 1 := by simp
        have hs : ((Value.str z tz :: its0).toArray.size == [Value.str u tu].toArray.size) = xs.isEmpty := by
          have hlen := rr.length
          cases xs with
          | nil => cases rr; rfl
          | cons x xs =>
            rw [List.length_cons] at hlen
            show ((its0.length + 1) == 1) = false
            exact beq_eq_false_iff_ne.mpr (by omega)
        rw [hm, hs]
        show Q (.bl ((decide (z = u) && true) && xs.isEmpty)) H
        rw [Bool.and_true]
        exact q
def rEqB (K : PySem.W.Frag) : R2 := fun x y H Z => rEqA K x y H Z ∨ rEqTs K x y H Z
theorem opEqT {X : Cx} {k : Nat} (hr : Room k X.A) : OpR X (compareOp .Eq) (rEqB X.K) := OpR.or (opEq hr) (op_eqTs hr)
end Own

namespace Own
open PySem PySem.Spec PyProof.Rows L2 Evl
/-! ### a tuple beside the empty one -/
def rEqT0 (K : PySem.W.Frag) : R2 := fun x y H Q => ∃ (a b : Addr) (xs : List V), x = .ref a ∧ y = .ref b ∧ SqT K H a xs ∧ SqT K H b [] ∧ Q (.bl xs.isEmpty) H
theorem op_eqT0 {X : Cx} {k : Nat} (hr : Room k X.A) : OpR X (compareOp .Eq) (rEqT0 X.K) := by
  intro pk s τ H x y v v2 Q I rx ry h
  obtain ⟨a, b, xs, rfl, rfl, h1, h2, q⟩ := h
  cases rx
  cases ry
  obtain ⟨its, r, tp, hz⟩ := I.tuple h1
  obtain ⟨its2, r2, tp2, hz2⟩ := I.tuple h2
  cases r2
  have hu : X.A.units < cLine := by
    have := hr.units
    omega
  refine SeqAt.eq_tupleAt (e := fun _ => true) tp tp2 hu (fun j h1 h2 => absurd h2 (by simp)) ⟨.bl _, H, I, rfl, ?_⟩
  have hm : min its.toArray.size ([] : List Value).toArray.size = 0 := by simp
  have hs : (its.toArray.size == ([] : List Value).toArray.size) = xs.isEmpty := by
    have hlen := r.length
    cases xs with
    | nil => cases r; rfl
    | cons x xs =>
      rw [List.length_cons] at hlen
      show (its.toArray.size == 0) = false
      rw [List.size_toArray]
      exact beq_eq_false_iff_ne.mpr (by omega)
  rw [hm, hs]
  exact q
/-! ### what a dict of the written part has of a text -/
def IsKD (K : PySem.W.Frag) (w : World) (a : Addr) : Prop := ∃ es n, K.lookup a = some ⟨.type "dict", none, .dict es n, #[]⟩ ∧ PySem.W.KeysLit w.params es.toList ∧ (a == sysModules) = false
def tKGet2 (K : PySem.W.Frag) (w : World) (td ty tx : TE) : TE := fun σ H Q => td σ H fun x H1 => ∃ a, x = .ref a ∧ IsKD K w a ∧ ty σ H1 fun y H2 => tx σ H2 fun z H3 => ∃ (k : Str) (v : V), y = .str k ∧ ((∃ u, PySem.W.nsIn K a k = some (some u) ∧ RelV v u) ∨ (PySem.W.nsIn K a k = some none ∧ v = z)) ∧ Q v H3
theorem pe_kget2 {X : Cx} {o e f : Expr} {apos cpos : Pos} {td ty tx : TE} (ho : PE X o td) (he : PE X e ty) (hf : PE X f tx) (m : M2 X o "get" apos e f cpos) : PE X (.Call (.Attribute o "get" apos) [e, f] [] cpos) (tKGet2 X.K X.w td ty tx) := by
  refine ⟨fun pins s σ H Q I h => ?_⟩
  refine wpAny_Call_method m.base m.few m.line PySem.F.plainAttrs_dict PySem.F.slot_dict_get PySem.F.type_dict_get (thn (ho.run pins s σ H _ I h) fun u s1 ⟨x, H1, I1, rx, a, ex, d, q1⟩ => ?_)
  subst ex
  obtain rfl : u = Value.ref a := rx
  obtain ⟨es, n, hl, hk, hd⟩ := d
  refine ⟨(PySem.W.mapOf_K (prog := X.prog) (w := X.w) I1.kIn hl hk).typeIs, fun b q => ?_, ?_⟩
  · cases q
    exact ⟨_, I1.kIn _ _ hl, rfl⟩
  rw [m.trees]
  refine Calls.callWith_builtin rfl (Calls.evalArgs_plain (Calls.spliced_cons (thn (he.run pins s1 σ H1 _ I1 q1) fun iv s2 ⟨y, H2, I2, ry, q2⟩ =>
    Calls.spliced_cons (thn (hf.run pins s2 σ H2 _ I2 q2) fun fv s3 ⟨z, H3, I3, rz, k, v, ey, g, q3⟩ => Calls.spliced_nil ?_))))
  subst ey
  obtain ⟨t, rfl⟩ := (show ∃ t, iv = Value.str k t from ry)
  have hm := PySem.W.mapOf_K (prog := X.prog) (w := X.w) I3.kIn hl hk
  refine call_meetsIn PySem.F.slot_dict_get hm.typeIs PySem.F.entry_dict_get (PySem.F.args_dict_get_3 _ _ _) (meets_dict_get_default (strKind X.prog X.w) a (strKind_is X.prog X.w k t) hd fv) ⟨_, hm, ?_⟩
  rcases g with ⟨u, hn, hv⟩ | ⟨hn, rfl⟩
  · rw [PySem.W.find_K hl hn]
    exact ⟨v, H3, I3.tok _, hv, q3⟩
  · rw [PySem.W.find_K hl hn]
    exact ⟨v, H3, I3.tok _, rz, q3⟩
/-! ### t[::-1], t being a tuple -/
theorem sliceApplied_rev {prog : Program} {w : World} {A : Around} {E : Value → Shared → Prop} {s : Shared} {sl : Addr} {vl vu vs : Value} {n : Nat} {Q : Int × Int × Nat → Shared → Prop} (hs : s.heap.IsSliceOf sl vl vu vs) (pl : IsPart vl none) (pu : IsPart vu none) (ps : IsPart vs (some (-1)))
    (h : Q ((n : Int) - 1, -1, n) s) : wpAny (model prog w) A (Builtin.Slice.sliceApplied (.ref sl) (pure (n : Int))) Q E s := by
  obtain ⟨os, hos, hcs, hds⟩ := id hs
  unfold Builtin.Slice.sliceApplied Builtin.Slice.sliceFields
  refine wpAny_bind (wpAny_bind (wpAny_field hos hds (x := vl) rfl (wpAny_bind (wpAny_field hos hds (x := vu) rfl (wpAny_bind (wpAny_field hos hds (x := vs) rfl (wpAny_pure ?_)))))))
  refine wpAny_bind (HT.slicePart_ ps ?_)
  show wpAny _ _ (if ((-1 : Int) == 0) = true then _ else _) _ _ s
  rw [if_neg (by decide)]
  refine wpAny_bind (HT.slicePart_ pl (wpAny_bind (HT.slicePart_ pu (wpAny_bind (wpAny_pure ?_)))))
  show wpAny _ _ (match Builtin.Slice.sliceAdjust none none (-1) (n : Int) with | (lo, hi) => pure (lo, (-1 : Int), Builtin.Slice.slicePlaces lo hi (-1))) _ _ s
  have e1 : Builtin.Slice.sliceAdjust none none (-1) (n : Int) = ((n : Int) - 1, -1) := rfl
  rw [e1]
  show wpAny _ _ (pure ((n : Int) - 1, (-1 : Int), Builtin.Slice.slicePlaces ((n : Int) - 1) (-1) (-1))) _ _ s
  have e2 : Builtin.Slice.slicePlaces ((n : Int) - 1) (-1) (-1) = n := by
    unfold Builtin.Slice.slicePlaces
    have h1 : ¬ ((-1 : Int) > 0) := by decide
    simp only [h1, if_false]
    split
    · rw [show (- -1 : Int) = 1 by decide, Int.ediv_one]
      omega
    · omega
  rw [e2]
  exact wpAny_pure h
theorem fm_congr {α β : Type} {f g : α → Option β} : ∀ {l : List α}, (∀ x ∈ l, f x = g x) → l.filterMap f = l.filterMap g
  | [], _ => rfl
  | x :: l, h => by
    rw [List.filterMap_cons, List.filterMap_cons, h x List.mem_cons_self, fm_congr fun y hy => h y (List.mem_cons_of_mem _ hy)]
theorem pick_rev (xs : Array Value) : ((List.range xs.size).filterMap fun (m : Nat) => xs[(((xs.size : Int) - 1) + (m : Int) * -1).toNat]?).toArray = xs.toList.reverse.toArray := by
  have e : ((List.range xs.size).filterMap fun (m : Nat) => xs[(((xs.size : Int) - 1) + (m : Int) * -1).toNat]?) = ((List.range xs.size).map fun k => xs.size - 1 - k).filterMap (xs[·]?) := by
    rw [List.filterMap_map]
    refine fm_congr fun m hm => ?_
    have := List.mem_range.mp hm
    show xs[_]? = xs[_]?
    rw [show (((xs.size : Int) - 1) + (m : Int) * -1).toNat = xs.size - 1 - m by omega]
  rw [e, PySem.W.krv_range, List.filterMap_reverse, PySem.W.krv_all]
theorem getItem_tuple_rev {prog : Program} {w : World} {A : Around} {E : Value → Shared → Prop} {s : Shared} {t sl : Addr} {items : Array Value} {vl vu vs : Value} {Q : Value → Shared → Prop} (ht : IsTup s.heap t items) (hs : s.heap.IsSliceOf sl vl vu vs) (pl : IsPart vl none) (pu : IsPart vu none) (ps : IsPart vs (some (-1)))
    (h : Q (.ref s.heap.objs.size) { s with heap := s.heap.push { cls := .type "tuple", data := .seq items.toList.reverse.toArray } })
    (hsz : items.size ≤ sizeLine) : wpAny (model prog w) A (getItem (.ref t) (.ref sl)) Q E s := by
  have htake : sizeOk (.seq items.toList.reverse.toArray) := by
    show items.toList.reverse.toArray.size ≤ sizeLine
    rw [List.size_toArray, List.length_reverse, Array.length_toList]
    exact hsz
  obtain ⟨os, hos, hcs, hds⟩ := id hs
  have hTs : s.TypeIs (.ref sl) "slice" := ⟨os, hos, hcs⟩
  unfold getItem
  try with_reducible refine wpAny_holding ?_
  first | refine wpAny_bind (wpAny_pure ?_) | skip
  refine wpAny_bind (wpAny_sequenceKey ht.typeIs (by decide) ?_)
  refine wpAny_bind (wpAny_callSpecial?_slot (name := Str.ofString "__getitem__") ht.typeIs PyProof.Rows.slot_tuple_getitem
    (wpAny_call_entry PyProof.Rows.slot_tuple_getitem ht.typeIs entry_tuple_getitem ?_ (args_tuple_getitem _ _)))
  show wpAny _ _ (Builtin.Tuple.tupleItemsOf (.ref t) >>= _) _ _ s
  refine wpAny_bind (tupleItemsOf_ ht ?_)
  refine wpAny_bind (wpAny_typeOf hTs ?_)
  rw [if_pos (by decide)]
  refine wpAny_bind (sliceApplied_rev hs pl pu ps ?_)
  have hno : ¬ ((((items.size : Int) - 1) == 0 && (-1 : Int) == 1 && items.size == items.size) = true) := by
    intro q
    rw [Bool.and_eq_true, Bool.and_eq_true] at q
    exact absurd (eq_of_beq q.1.2) (by decide)
  show wpAny _ _ (if (((items.size : Int) - 1) == 0 && (-1 : Int) == 1 && items.size == items.size) = true then _ else _) _ _ s
  rw [if_neg hno, pick_rev]
  first
    | exact wpAny_bind (m := Builtin.Tuple.tupleExact _) (wpAny_newObj_type (wpAny_pure ⟨_, rfl, wpAny_pure h⟩) htake)
    | exact wpAny_bind (m := Builtin.Tuple.tupleExact _) (wpAny_newObj_type (wpAny_bind (wpAny_pure (wpAny_pure ⟨_, rfl, wpAny_pure h⟩))) htake)
    | exact wpAny_bind (wpAny_bind (m := Builtin.Tuple.tupleExact _) (wpAny_newObj_type (wpAny_pure (wpAny_pure ⟨_, rfl, wpAny_pure h⟩)) htake))
    | exact wpAny_bind (wpAny_bind (m := Builtin.Tuple.tupleExact _) (wpAny_newObj_type (wpAny_pure ⟨_, rfl, wpAny_pure h⟩) htake))
def tRevT (K : PySem.W.Frag) (te ts : TE) : TE := fun σ H Q => te σ H fun x H1 => tPart ts σ H1 fun o H2 => ∃ (a : Addr) (xs : List V), x = .ref a ∧ SqT K H2 a xs ∧ o = some (-1) ∧ ∀ p, H2 p = none → Q (.ref p) (upd H2 p (.tup xs.reverse))
theorem pe_revT {X : Cx} {e es : Expr} {te ts : TE} {p3 pos : Pos} (he : PE X e te) (hs : PE X es ts)
    (hsub : ∀ (a l : Addr), subscripted (.Slice none none (some es) p3) false (.ref a) (.ref l) = operate [.ref a, .ref l] (getItem (.ref a) (.ref l)) := by intro _ _; with_unfolding_all rfl) : PE X (.Subscript e (.Slice none none (some es) p3) pos) (tRevT X.K te ts) := by
  refine ⟨fun pins s σ H Q I h => ?_⟩
  refine Subscript_ (thn (he.run pins s σ H _ I h) fun v s1 ⟨x, H1, I1, r1, q1⟩ => ?_)
  refine wpAny_Slice (thn (po_none.run pins s1 σ H1 (fun o H2 => o = none ∧ H2 = H1) I1 ⟨rfl, rfl⟩) fun vl s2 ⟨l, H2, I2, pl, el, e2⟩ => ?_)
  subst el e2
  refine thn (po_none.run pins s2 σ H2 (fun o H3 => o = none ∧ H3 = H2) I2 ⟨rfl, rfl⟩) fun vu s3 ⟨u, H3, I3, pu, eu, e3⟩ => ?_
  subst eu e3
  have hst : PO X (some es) (tPart ts) := po_some hs
  refine thn (hst.run pins s3 σ H3 _ I3 q1) fun vs s4 ⟨o, H4, I4, ps, a, xs, ex, hx, eo, q⟩ => ?_
  subst ex
  cases r1
  subst eo
  have I5 : Inv X pins σ H4 { s4 with heap := s4.heap.push { cls := .type "slice", data := .fields #[vl, vu, vs] } } := I4.kept (t' := s4.toks) fun b ob q => Heap.get?_push_of_some _ q
  obtain ⟨its, r, ht, hz⟩ := I5.tuple hx
  have hlen := r.length
  show wpAny (model X.prog X.w) X.A (subscriptTail e (.Slice none none (some es) p3) (.ref a) (.ref s4.heap.objs.size)) (EP X pins σ Q) X.xe { s4 with heap := s4.heap.push { cls := .type "slice", data := .fields #[vl, vu, vs] } }
  refine tail_any (ops := [.ref a, .ref s4.heap.objs.size]) ht.typeIs (PyProof.Rows.slot_tuple_getitem.lookup) ?_ (hsub _ _)
  refine getItem_tuple_rev ht (Heap.IsSliceOf.new _ vl vu vs) pl pu ps ?_ (by rw [List.size_toArray]; omega)
  refine ⟨.ref _, _, I5.laid (t' := s4.toks) (o := .tup xs.reverse) (fun b ob q => Heap.get?_push_of_some _ q) (Nat.le_refl _) ?_, rfl, q _ (I5.hok.fresh (Nat.le_refl _))⟩
  exact ⟨by rw [List.length_reverse]; exact hz, _, r.reverse, ⟨_, Heap.get?_push_size _ rfl, rfl, _, rfl⟩⟩
/-! ### parts of tuples, and tuples behind one another, whatever is the whole -/
theorem sl_toG {K : PySem.W.Frag} {H : Hp} {Z : VK} {p : Addr} {xs : List V} {j : Nat} (hp : H p = some (.tup xs)) (z : ∀ (t : Addr) (H' : Hp), Ex H H' → H' t = some (.tup (xs.take j)) → Z (.ref t) H') : rSlAny K (.ref p) none (some (j : Int)) H Z := by
  refine .inr (.inl ⟨p, _, rfl, st_of hp, fun hz => ?_, fun hz t ht => ?_⟩)
  · have h1 := hz.2
    rw [HT.sIx_nat] at h1
    refine z p H (Ex.refl _) ?_
    rw [List.take_of_length_le (by omega)]
    exact hp
  · rw [cut_to]
    generalize hq2 : upd H t _ = H2
    obtain ⟨e2, h2⟩ := gen1 hq2 ht
    exact z t _ e2 h2
theorem sl_fromG {K : PySem.W.Frag} {H : Hp} {Z : VK} {p : Addr} {xs : List V} {j : Nat} (hp : H p = some (.tup xs)) (z : ∀ (t : Addr) (H' : Hp), Ex H H' → H' t = some (.tup (xs.drop j)) → Z (.ref t) H') : rSlAny K (.ref p) (some (j : Int)) none H Z := by
  refine .inr (.inl ⟨p, _, rfl, st_of hp, fun hz => ?_, fun hz t ht => ?_⟩)
  · have h1 := hz.1
    rw [HT.sIx_nat] at h1
    refine z p H (Ex.refl _) ?_
    have : j = 0 ∨ xs.length = 0 := by omega
    rcases this with rfl | h
    · exact hp
    · rw [List.drop_of_length_le (by omega)]
      rw [List.length_eq_zero_iff.mp h] at hp
      exact hp
  · rw [cut_from]
    generalize hq2 : upd H t _ = H2
    obtain ⟨e2, h2⟩ := gen1 hq2 ht
    exact z t _ e2 h2
theorem cat_G {K : PySem.W.Frag} {H : Hp} {Z : VK} {a b : Addr} {xs ys : List V} (ha : H a = some (.tup xs)) (hb : H b = some (.tup ys)) (hl : xs.length + ys.length ≤ 1000) (z : ∀ (t : Addr) (H' : Hp), Ex H H' → H' t = some (.tup (xs ++ ys)) → Z (.ref t) H') : rAdd K (.ref a) (.ref b) H Z := by
  refine .inr (.inr (.inr ⟨a, b, xs, ys, rfl, rfl, st_of ha, st_of hb, Nat.le_trans hl (by show 1000 ≤ sizeLine; decide), fun e => ?_, fun _ e => ?_, fun _ _ t ht => ?_⟩))
  · refine z b H (Ex.refl _) ?_
    rw [e, List.nil_append]
    exact hb
  · refine z a H (Ex.refl _) ?_
    rw [e, List.append_nil]
    exact ha
  · generalize hq2 : upd H t _ = H2
    obtain ⟨e2, h2⟩ := gen1 hq2 ht
    exact z t _ e2 h2
def rMulT (K : PySem.W.Frag) : R2 := fun x y H Z => rMul x y H Z ∨ rRepT K x y H Z
theorem opMulT {X : Cx} : OpR X (binaryOp .Mult) (rMulT X.K) := OpR.or opMul op_repT
theorem flat_one {α : Type} (x : α) : ∀ n : Nat, (List.replicate n [x]).flatten = List.replicate n x
  | 0 => rfl
  | n + 1 => by
    rw [List.replicate_succ, List.flatten_cons, flat_one x n]
    rfl
theorem DaAll.rep {H : Hp} {v : V} {d : PyData} (h : Da H v d) : ∀ n : Nat, DaAll H (List.replicate n v) (List.replicate n d)
  | 0 => .nil
  | n + 1 => .cons h (DaAll.rep h n)
end Own

namespace Own
open PySem PySem.Spec PyProof.Rows L2 Evl
/-- a statement that is never reached -/
theorem ps_dead {X : Cx} {st : Stmt} : PS X st (fun _ _ _ => False) := ⟨fun _ _ _ _ _ _ z => z.elim⟩
/-- a class whose instances are made by an __init__ with sp -/
structure MakG (P : Program) (w : World) (K : PySem.W.Frag) (mg : Str → Option Value) (base : Heap) (k : Nat) (x : Str) (C : Addr) (sp : Sp) : Prop where
  at_ : mg x = some (.ref C)
  ex : ∃ (f : Addr) (fd : FuncData) (ps : List Str), FnG P w K mg base k f fd ps sp ∧ Mk K C f ∧ Binds K fd ps []
/-- a method with sp -/
structure MetG (P : Program) (w : World) (K : PySem.W.Frag) (mg : Str → Option Value) (base : Heap) (k : Nat) (C : Addr) (m : Str) (sp : Sp) : Prop where
  cl : Cls K C
  ex : ∃ (f : Addr) (fd : FuncData) (ps : List Str), FnG P w K mg base k f fd ps sp ∧ Meth K C m f ∧ Binds K fd ps []
section
variable {X : Cx} {pk : List (Addr × Obj)} {τ : L2.St} {H : Hp} {s : Shared} {k j : Nat} {sp : Sp} {f C : Addr} {fd : FuncData} {ps : List Str} {Z : VK} {us : List Value} {vs : List V} {x m : Str} {p pos apos : Pos} {e o : Expr} {es : List Expr} {t : TA} {ta : TE}
theorem run_mkG (M : Mk X.K C f) (F : FnG X.prog X.w X.K X.mg X.base k f fd ps sp) (hr : Room (k + 1) X.A) (hg : X.A.guards = some []) (hbd : Binds X.K fd ps []) (I : Inv X pk τ H s) (r : Vals vs us)
    (h : ∀ y d, H y = none → H d = none → d ≠ y → sp (.ref y :: vs) (upd (upd H d (.own y)) y (.ins C d [])) (fun v H2 => v = .non ∧ Z (.ref y) H2) E0) : wpAny (model X.prog X.w) X.A (call (.ref C) us) (EP X pk τ Z) X.xe s := by
  have q0 := h (s.heap.objs.size + 1) s.heap.objs.size (I.hok.fresh (Nat.le_succ _)) (I.hok.fresh (Nat.le_refl _)) (Nat.ne_of_lt (Nat.lt_succ_self _))
  have J := Inv.made (C := C) I
  obtain ⟨n, hn⟩ : ∃ n : Addr, s.heap.objs.size + 1 = n := ⟨_, rfl⟩
  have rr : Vals (V.ref (s.heap.objs.size + 1) :: vs) (Value.ref (s.heap.objs.size + 1) :: us) := .cons rfl r
  have hl : ((Value.ref (s.heap.objs.size + 1) :: us) ++ []).length = ps.length := by
    rw [List.append_nil, ← rr.length]
    exact F.len _ _ _ _ q0
  have hb := hbd _ (Value.ref (s.heap.objs.size + 1) :: us) J.kIn hl
  rw [List.append_nil] at hb
  have run := F.run (X.A.under (.builtin "type.__call__" ⟨.ref C :: us, []⟩)) X.stack _ _ ⟨Value.ref (s.heap.objs.size + 1) :: us, []⟩ _ _ _ E0 (hr.make C us []) hg (J.env0.make C us []) hb rr q0
  refine wpAny_call (make_map (f := f) I.kIn M.makes M.init (beq_iff_eq.mp M.fn) (codeAny_mono run fun res s' hsq => ?_))
  match res, hsq with
  | .error _, hsq => exact (show False from hsq).elim
  | .ok (.ret u), hsq =>
    obtain ⟨v, H4, J4, rv, ev, q4⟩ := J.after hsq
    subst ev
    exact ⟨rv, ⟨V.ref (s.heap.objs.size + 1), H4, J4, rfl, q4⟩⟩
  | .ok .next, hsq => exact False.elim hsq
  | .ok .brk, hsq => exact False.elim hsq
  | .ok .cont, hsq => exact False.elim hsq
theorem pe_mkG (c : MakG X.prog X.w X.K X.mg X.base k x C sp) (hr : Room j X.A) (hg0 : X.A.guards = some []) (hkp : k + 1 ≤ j) (hg : Gl X x) (ha : PA X (e :: es) t)
    (hdb : (x == ("__debug__" : Str)) = false := by decide) (hes : starEach (e :: es) X.env = (false, eval e X.env) :: starEach es X.env := by rfl) (hpl : (backTo pos (starEach es X.env)).any (·.1) = false := by rfl) :
    PE X (.Call (.Name x p) (e :: es) [] pos) (tMake C sp [] E0 t) := by
  obtain ⟨f, fd, ps, F, M, b⟩ := c.ex
  refine ⟨fun pk s τ H Z I h => ?_⟩
  refine wpAny_Call_Name_kw (ld_glob I hg c.at_ ?_ hdb)
  refine PySem.W.callWith_K (h₀ := X.base) I.ok.mod.kin M.kp (thn (ha.run pos pk s τ H _ I h) fun us st1 ⟨vs, H1, I1, r, q⟩ => ⟨I1.kIn, ?_⟩) hes hpl
  refine run_mkG M F (hr.mono hkp) hg0 b I1 r fun y d h1 h2 h3 => ?_
  have q := q y d h1 h2 h3
  rw [List.append_nil] at q
  exact q
theorem pe_mtG0 {pl : Sem Bool} (c : MetG X.prog X.w X.K X.mg X.base k C m sp) (he : PE X o ta) (hr : Room j X.A) (hg0 : X.A.guards = some []) (hkp : k ≤ j)
    (hte : eval (.Call (.Attribute o m apos) [] [] pos) X.env = (do
      let ov ← eval o X.env
      standAt apos.atName
      let (g, first) ← holding [ov] (getMethod ov m pl)
      callWith pos g first (backTo pos (starEach [] X.env)) (backToKw pos (keywordEach [] X.env))) := by rfl) :
    PE X (.Call (.Attribute o m apos) [] [] pos) (tMeth C m sp [] E0 ta tNil) := by
  obtain ⟨f, fd, ps, F, M, b⟩ := c.ex
  refine ⟨fun pk s τ H Z I h => PySem.W.methodCall_KW (pl := pl) (thn (he.run pk s τ H _ I h) fun u st1 ⟨y, H1, I1, ry, a, d, fs, ey, ea, l, q⟩ => ?_) hte⟩
  subst ey
  have eu : u = Value.ref a := ry
  subst eu
  refine getmeth_ok I1 ea c.cl M l (PySem.W.callWith_K0 (first := [.ref a]) I1.kIn M.kp ?_)
  exact run_fnG (us := [.ref a]) (vs := [.ref a]) F (hr.mono hkp) hg0 b I1 (.cons rfl .nil) q
theorem pe_mtG {pl : Sem Bool} (c : MetG X.prog X.w X.K X.mg X.base k C m sp) (he : PE X o ta) (hr : Room j X.A) (hg0 : X.A.guards = some []) (hkp : k ≤ j) (ha : PA X (e :: es) t)
    (hes : starEach (e :: es) X.env = (false, eval e X.env) :: starEach es X.env := by rfl) (hpl : (backTo pos (starEach es X.env)).any (·.1) = false := by rfl)
    (hte : eval (.Call (.Attribute o m apos) (e :: es) [] pos) X.env = (do
      let ov ← eval o X.env
      standAt apos.atName
      let (g, first) ← holding [ov] (getMethod ov m pl)
      callWith pos g first (backTo pos (starEach (e :: es) X.env)) (backToKw pos (keywordEach [] X.env))) := by rfl) :
    PE X (.Call (.Attribute o m apos) (e :: es) [] pos) (tMeth C m sp [] E0 ta t) := by
  obtain ⟨f, fd, ps, F, M, b⟩ := c.ex
  refine ⟨fun pk s τ H Z I h => PySem.W.methodCall_KW (pl := pl) (thn (he.run pk s τ H _ I h) fun u st1 ⟨y, H1, I1, ry, a, d, fs, ey, ea, l, q⟩ => ?_) hte⟩
  subst ey
  have eu : u = Value.ref a := ry
  subst eu
  refine getmeth_ok I1 ea c.cl M l ?_
  refine PySem.W.callWith_K (first := [.ref a]) (h₀ := X.base) I1.ok.mod.kin M.kp (thn (ha.run pos pk st1 τ H1 _ I1 q) fun us st2 ⟨vs, H2, I2, r, q2⟩ => ⟨I2.kIn, ?_⟩) hes hpl
  have q2 : sp (.ref a :: (vs ++ [])) H2 Z E0 := q2
  rw [List.append_nil] at q2
  exact run_fnG (us := .ref a :: us) (vs := .ref a :: vs) F (hr.mono hkp) hg0 b I2 (.cons rfl r) q2
end
end Own

namespace Own
open PySem PySem.Spec PyProof.Rows L2 Evl
/-! ### methods: the name and the long name -/
section
variable {P : Program} {w : World} {K : PySem.W.Frag} {mg : Str → Option Value} {base : Heap}
theorem fn_mkQ {x q : Str} {f : Addr} {fd : FuncData} {st : Stmt} {N ps : List Str} {k : Nat} {sp : Sp} (F : Fun K x q st f fd) (S : FnScope N ps (defScope st))
    (len : ∀ vs H Z EE, sp vs H Z EE → vs.length = ps.length)
    (hbody : ∀ (cdv : Value) (A : Around) (outer : List Env) (s : Shared) (H : Hp) (vs : List V) (Z : VK) (EE : XK), Room k (A.deeper (envOfC q (defScope st) s.heap.objs.size f cdv)) → (A.deeper (envOfC q (defScope st) s.heap.objs.size f cdv)).guards = some [] → sp vs H Z EE →
      ∃ t, PSs (cxOf CX0 P w K mg base N q (defScope st) f cdv A outer s H EE).nox (defBody st) t ∧ t { nx := fun _ H' => Z .non H', rt := Z } (start N vs) H) : FnG P w K mg base (k + 1) f fd ps sp := by
  obtain ⟨oc, od, kV, doc, pm, an, cdv, ct, sl, rfl, lkp, hcd⟩ := F.ex
  refine ⟨len, fun A outer s H args us vs Z EE hr hg e0 hbt r hsp => ?_⟩
  have body : ∀ (A : Around) (outer : List Env) (s : Shared) (H : Hp) (vs : List V) (Z : VK) (EE : XK), Room k (A.deeper (envOfC q (defScope st) s.heap.objs.size f cdv)) → A.guards = some [] → sp vs H Z EE →
      ∃ t, PSs (cxOf CX0 P w K mg base N q (defScope st) f cdv A outer s H EE) (defBody st) t ∧ t { nx := fun _ H' => Z .non H', rt := Z } (start N vs) H := fun A outer s H vs Z EE hr hg hsp => by
    obtain ⟨t, h, qq⟩ := hbody cdv A outer s H vs Z EE hr hg hsp
    exact ⟨t, h.nox, qq⟩
  have hlen := len _ _ _ _ hsp
  have KI : K.In s.heap := e0.mod.kin.keeps fun b o e => (e0.bs b o e).1
  have nlm : s.heap.NoLimit := e0.mod.nolimit.keeps fun b o e => (e0.bs b o e).1
  have hkind : ∀ y ∈ ps.zip us, (defScope st).names.lookup y.1 = some .local ∨ ((defScope st).names.lookup y.1 = some .cell ∧ ((cellsFrom (s.heap.objs.size + 1) (defScope st).names []).lookup y.1).isSome = true) := fun ⟨n, v⟩ hyy => by
    rcases S.par n (List.of_mem_zip hyy).1 with qq | qq
    · exact .inl qq
    · exact .inr ⟨qq, PySem.W.cellsFrom_some _ _ _ (.inl qq)⟩
  refine codeAny_call_function hr.depth (KI _ _ lkp) rfl S.co S.gen rfl (PySem.W.codeRec_of KI hcd) (hbt _ _ _ _ ?_)
  refine wpAny_newFunctionEnv_cells S.kind hkind fun env hes st1 xx => ?_
  subst hes
  refine ⟨nlm.keeps xx.toInCall.keep, codeAny_func ?_⟩
  obtain ⟨t, ht, hsq⟩ := body A outer s H vs Z EE (hr.deeper _) hg hsp
  have I : Inv (cxOf CX0 P w K mg base N q (defScope st) f cdv A outer s H EE) [] (start N vs) H st1 := inv_start S hr.hd e0 hlen r xx
  refine wpAny_mono (ht.run [] st1 (start N vs) H _ I hsq) (fun fl s' hst => ?_) fun e s' hst => hst
  have ready : ∀ {τ' : L2.St} {H' : Hp} {v : V} {u : Value}, Inv (cxOf CX0 P w K mg base N q (defScope st) f cdv A outer s H EE) [] τ' H' s' → RelV v u → Z v H' → CE outer P w H s Z u s' :=
    fun {τ' H' v u} J rv qq => ⟨v, H', J.os, J.bare, J.base, J.hok, rv, qq⟩
  cases fl with
  | ret u =>
    obtain ⟨v, τ', H', J, rv, qq⟩ := hst
    exact ready J rv qq
  | next =>
    obtain ⟨τ', H', J, qq⟩ := hst
    exact ready (v := V.non) (u := Value.none) J rfl qq
  | brk =>
    obtain ⟨_, _, _, qq⟩ := hst
    exact False.elim qq
  | cont =>
    obtain ⟨_, _, _, qq⟩ := hst
    exact False.elim qq
end
/-- the type of a value beside an own object -/
inductive TyE (H : Hp) : V → Value → Prop where
  | non : TyE H .non (.type "NoneType")
  | int (i : Int) : TyE H (.int i) (.type "int")
  | lst {a : Addr} {xs : List V} (e : H a = some (.lst xs)) : TyE H (.ref a) (.type "list")
  | tup {a : Addr} {xs : List V} (e : H a = some (.tup xs)) : TyE H (.ref a) (.type "tuple")
  | ins {a C d : Addr} {fs : List (Str × V)} (e : H a = some (.ins C d fs)) : TyE H (.ref a) (.ref C)
section
variable {X : Cx} {pk : List (Addr × Obj)} {τ : L2.St} {H : Hp} {s : Shared} {M : Model} {v : V} {u tb : Value} {k j : Nat} {C : Addr} {sp : Sp}
theorem TyE.looks (I : Inv X pk τ H s) (r : RelV v u) (t : TyE H v tb) : PySem.W.Looks M s.heap (typeOf u) tb := by
  cases t with
  | non => cases (show u = Value.none from r); exact .now
  | int i => obtain ⟨t, q⟩ := (show ∃ t, u = Value.int i t from r); cases q; exact .now
  | @lst a xs ea =>
    cases (show u = Value.ref a from r)
    obtain ⟨_, _, n, _, h1⟩ := (show ObjOk X.prog X.w H s.heap a (.lst xs) from I.hok a _ ea)
    exact (PySem.W.Looks.ld h1).andThen .now
  | @tup a xs ea =>
    cases (show u = Value.ref a from r)
    obtain ⟨_, _, _, p⟩ := (show ObjOk X.prog X.w H s.heap a (.tup xs) from I.hok a _ ea)
    obtain ⟨o, h1, h2, _⟩ := p
    exact h2 ▸ (PySem.W.Looks.ld h1).andThen .now
  | @ins a C d fs ea =>
    cases (show u = Value.ref a from r)
    obtain ⟨mA, J, _⟩ := ins_get I.hok ea
    obtain ⟨od, J, _⟩ := J.look
    exact J.type
def rOwn (K : PySem.W.Frag) (C : Addr) (sp : Sp) : R2 := fun x y H Q => ∃ (a d : Addr) (fs : List (Str × V)) (tb : Value), x = .ref a ∧ H a = some (.ins C d fs) ∧ TyE H y tb ∧ PySem.W.notFirst K C tb = true ∧ sp [x, y] H (fun v H' => (∃ b, v = .bl b) ∧ Q v H') E0
theorem op_own (c : MetG X.prog X.w X.K X.mg X.base k C "__eq__" sp) (hr : Room j X.A) (hg0 : X.A.guards = some []) (hkp : k ≤ j) : OpR X (compareOp .Eq) (rOwn X.K C sp) := by
  intro pins s σ H x y u v Q I rx ry hq
  obtain ⟨f, fd, ps, F, M, b⟩ := c.ex
  obtain ⟨a, d, fs, tb, rfl, ha, ht, hn, q⟩ := hq
  cases rx
  show wpAny (model X.prog X.w) X.A (richCompare .Eq (.ref a) v) (EP X pins σ Q) X.xe s
  obtain ⟨mA, J, _⟩ := ins_get I.hok ha
  obtain ⟨od, J, _⟩ := J.look
  obtain ⟨m, hF⟩ := I.fr
  refine PySem.W.cmp_K (op := .Eq) (tb := tb) hr.units0 hF I.ok.mod.kin J (ht.looks I ry) hn M.at_ M.fn ?_
  refine wpAny_mono (run_fnG (us := [.ref a, v]) (vs := [.ref a, y]) F (hr.mono hkp) hg0 b I (.cons rfl (.cons ry .nil)) q) (fun w s' z => ?_) (fun _ _ e => e)
  obtain ⟨z, H', I', rz, ⟨bb, eb⟩, q'⟩ := z
  subst eb
  cases rz
  exact ⟨.bl bb, H', I', rfl, q'⟩
end
section
variable {prog : Program} {w : World} {A : Around} {E : Value → Shared → Prop} {s : Shared} {K : PySem.W.Frag} {x C L f : Addr} {h₀ : Heap} {m : Str → Option Value} {ox : Obj} {od : Option Obj} {b tb : Value}
theorem ifBound_B {M : Model} {name : Str} {id : String} {args : List Value} {Q : Option Value → Shared → Prop} (X : K.In s.heap) (I : PySem.W.InstAt s.heap x ox C od) (hs : PySem.W.findIn K (.ref C) name = some (some (.builtin id)))
    (hbd : ∀ self, bindSpecial (.builtin id) self = pure (.builtin id, [self]))
    (h : wpAny M A (call (.builtin id) (.ref x :: args)) (fun v => Q (some v)) E s) : wpAny M A (callSpecialIfBound? (.ref x) name args) Q E s := by
  simp only [callSpecialIfBound?, bindSpecialIfBound?]
  refine wpAny_holding (wpAny_bind (wpAny_bind (wpAny_bind (I.type.here ((PySem.W.looks_findIn X hs).here ?_)))))
  simp only [hbd]
  refine wpAny_bind (wpAny_askSetting (wpAny_ite ?_))
  have fin : wpAny M A (call (.builtin id) ([.ref x] ++ args) >>= fun v => pure (some v)) Q E s := wpAny_bind (wpAny_mono h (fun v s' h' => wpAny_pure h') fun _ _ h' => h')
  split
  · exact wpAny_bind (wpAny_pure (wpAny_pure fin))
  · exact wpAny_tryCatch (wpAny_bind (wpAny_pure (wpAny_pure fin)))
theorem ne_entry {Q : Fin → Shared → Prop} (X : K.In s.heap) (I : PySem.W.InstAt s.heap x ox C od) (hs : PySem.W.findIn K (.ref C) "__eq__" = some (some (.ref f))) (hf : PySem.W.isFn K (.ref f) = true) (hu : A.units < cLine)
    (hcall : wpAny (model prog w) A (call (.ref f) [.ref x, b]) (fun v s' => ∃ r, v = .bool r ∧ Q (.done (.ret (.bool (!r)))) s') E s) :
    wpAny (model prog w) A (Builtin.«object.__ne__» ⟨[.ref x, b], []⟩) Q E s := by
  obtain ⟨h, g, d, t, os⟩ := s
  unfold Builtin.«object.__ne__»
  repeat (first
    | with_reducible refine wpAny_cRoomFor hu ?_
    | (refine wpAny_bind (m := callSpecialIfBound? (.ref x) (Str.ofString "__eq__") [b])
        (PySem.W.ifBound_K X I hs hf (wpAny_mono hcall (fun r s' hr => by
          obtain ⟨b, rfl, hq⟩ := hr
          repeat (first | exact hq | exact wpAny_pure hq | exact wpAny_truthy_bool hq | (refine wpAny_bind (m := truthy (.bool _)) (wpAny_truthy_bool ?_)) | wp_step)) fun _ _ e => e)))
    | wp_step)
theorem ne_K {Q : Value → Shared → Prop} (hu : A.units + 1 < cLine) (F : Fr h₀ L s.heap m) (X₀ : K.In h₀) (I : PySem.W.InstAt s.heap x ox C od) (hb : PySem.W.Looks (model prog w) s.heap (typeOf b) tb) (hn : PySem.W.notFirst K C tb = true)
    (hne : PySem.W.findIn K (.ref C) "__ne__" = some (some (.builtin "object.__ne__"))) (hob : PySem.W.subIn K (.ref C) (.type "object") = some true)
    (hs : PySem.W.findIn K (.ref C) "__eq__" = some (some (.ref f))) (hf : PySem.W.isFn K (.ref f) = true)
    (h : wpAny (model prog w) A.in1 (call (.ref f) [.ref x, b]) (fun v s' => ∃ r, v = .bool r ∧ Q (.bool (!r)) s') E s) : wpAny (model prog w) A (richCompare .NotEq (.ref x) b) Q E s := by
  have X := X₀.keeps F.keep
  have one : wpAny (model prog w) A (tryCompare (.ref x) (cmpInfo .NotEq).2.1 b) (fun r s' => ∃ v, r = some v ∧ Q v s') E s := by
    unfold tryCompare
    refine wpAny_bind (ifBound_B X I (name := (cmpInfo .NotEq).2.1) hne (fun self => PySem.F.cmp_object.ne.bind self) (wpAny_call (codeAny_call_builtin PySem.F.cmp_object.ne.plain PySem.F.cmpEntry_ne
      (PySem.W.check_slot PySem.F.cmpKind_ne PySem.F.cmpSplit_ne (I.type.andThen (PySem.W.looks_subIn X hob)) (PySem.F.cmpArgs_ne _ _) (ne_entry (A := A.in1) X I hs hf (Nat.lt_of_succ_le hu) (wpAny_mono h (fun v s' hv => ?_) fun _ _ e => e))))))
    obtain ⟨r, rfl, q⟩ := hv
    first | exact ⟨r, rfl, ⟨_, rfl, q⟩⟩ | exact ⟨r, rfl, wpAny_pure ⟨_, rfl, q⟩⟩ | exact ⟨r, rfl, wpAny_pure (wpAny_pure ⟨_, rfl, q⟩)⟩
  unfold richCompare
  simp only [oneThing_ref]
  refine wpAny_holding (wpAny_bind (wpAny_cRoomFor (Nat.lt_of_succ_lt hu) ?_))
  refine wpAny_bind (I.type.here (wpAny_bind (hb.here ?_)))
  split
  · rename_i q
    have e : PySem.W.subIn K tb (.ref C) = some false := by
      rcases Bool.or_eq_true_iff.mp hn with e | e
      · rw [beq_iff_eq.mp e] at q; simp at q
      · exact beq_iff_eq.mp e
    refine wpAny_bind ((PySem.W.looks_subIn X e).here ?_)
    simp only [Bool.false_eq_true, if_false]
    refine wpAny_bind (wpAny_mono one (fun r s' z => ?_) fun _ _ e => e)
    obtain ⟨v, rfl, hq⟩ := z
    exact wpAny_pure hq
  · refine wpAny_bind (wpAny_pure ?_)
    simp only [Bool.false_eq_true, if_false]
    refine wpAny_bind (wpAny_mono one (fun r s' z => ?_) fun _ _ e => e)
    obtain ⟨v, rfl, hq⟩ := z
    exact wpAny_pure hq
end
/-- what of the text != by an own == wants -/
structure NeOwn (K : PySem.W.Frag) (C : Addr) : Prop where
  ne : PySem.W.findIn K (.ref C) "__ne__" = some (some (.builtin "object.__ne__"))
  ob : PySem.W.subIn K (.ref C) (.type "object") = some true
section
variable {X : Cx} {k j : Nat} {C : Addr} {sp : Sp}
def rOwnN (K : PySem.W.Frag) (C : Addr) (sp : Sp) : R2 := fun x y H Q => ∃ (a d : Addr) (fs : List (Str × V)) (tb : Value), x = .ref a ∧ H a = some (.ins C d fs) ∧ TyE H y tb ∧ PySem.W.notFirst K C tb = true ∧ sp [x, y] H (fun v H' => ∃ b, v = .bl b ∧ Q (.bl (!b)) H') E0
theorem op_ownN (c : MetG X.prog X.w X.K X.mg X.base k C "__eq__" sp) (N : NeOwn X.K C) (hr : Room j X.A) (hg0 : X.A.guards = some []) (hkp : k + 1 ≤ j) : OpR X (compareOp .NotEq) (rOwnN X.K C sp) := by
  intro pins s σ H x y u v Q I rx ry hq
  obtain ⟨f, fd, ps, F, M, b⟩ := c.ex
  obtain ⟨a, d, fs, tb, rfl, ha, ht, hn, q⟩ := hq
  cases rx
  show wpAny (model X.prog X.w) X.A (richCompare .NotEq (.ref a) v) (EP X pins σ Q) X.xe s
  obtain ⟨mA, J, _⟩ := ins_get I.hok ha
  obtain ⟨od, J, _⟩ := J.look
  obtain ⟨m, hF⟩ := I.fr
  have r1 : Room (k + 1) X.A := hr.mono hkp
  refine ne_K (tb := tb) (by have z := r1.un; omega) hF I.ok.mod.kin J (ht.looks I ry) hn N.ne N.ob M.at_ M.fn ?_
  have hq' : sp [.ref a, y] H (fun v H' => ∃ b, v = .bl b ∧ Q (.bl (!b)) H') E0 := q
  have hlen : [Value.ref a, v].length = ps.length := F.len _ _ _ _ hq'
  refine wpAny_call (codeAny_mono (F.run X.A.in1 X.stack s H ⟨[.ref a, v], []⟩ [.ref a, v] [.ref a, y] _ E0 r1.in1 hg0 I.env0.in1 (by have q := b s [.ref a, v] I.kIn hlen; exact q) (.cons rfl (.cons ry .nil)) hq') fun r s' hsq => ?_)
  cases r with
  | error e => exact (show False from hsq).elim
  | ok fl =>
    cases fl with
    | ret u =>
      obtain ⟨z, H', I', rz, bb, eb, q'⟩ := I.after hsq
      subst eb
      cases rz
      exact ⟨bb, rfl, .bl (!bb), H', I', rfl, q'⟩
    | next => exact False.elim hsq
    | brk => exact False.elim hsq
    | cont => exact False.elim hsq
end
end Own

namespace Own
open PySem PySem.Spec PyProof.Rows L2 Evl
/-! ### defs that may raise, called where no container is being shown -/
structure FnX (P : Program) (w : World) (K : PySem.W.Frag) (mg : Str → Option Value) (base : Heap) (k : Nat) (f : Addr) (fd : FuncData) (ps : List Str) (sp : Sp) : Prop where
  len : ∀ vs H Z EE, sp vs H Z EE → vs.length = ps.length
  run : ∀ (A : Around) (outer : List Env) (s : Shared) (H : Hp) (args : Args) (us : List Value) (vs : List V) (Z : VK) (EE : XK), Room k A → A.guards = some [] → Env0 P w K mg base A outer s H → BindsTo s fd args (ps.zip us) → Vals vs us → sp vs H Z EE →
    codeAny (model P w) A (.call (.ref f) args) (CR (L2.CX P w) outer P w H s Z EE) s
section
variable {P : Program} {w : World} {K : PySem.W.Frag} {mg : Str → Option Value} {base : Heap}
theorem fn_mkX {x q : Str} {f : Addr} {fd : FuncData} {st : Stmt} {N ps : List Str} {k : Nat} {sp : Sp} (F : Fun K x q st f fd) (S : FnScope N ps (defScope st))
    (len : ∀ vs H Z EE, sp vs H Z EE → vs.length = ps.length)
    (hbody : ∀ (cdv : Value) (A : Around) (outer : List Env) (s : Shared) (H : Hp) (vs : List V) (Z : VK) (EE : XK), Room k (A.deeper (envOfC q (defScope st) s.heap.objs.size f cdv)) → (A.deeper (envOfC q (defScope st) s.heap.objs.size f cdv)).guards = some [] → sp vs H Z EE →
      ∃ t, PSs (cxOf (L2.CX P w) P w K mg base N q (defScope st) f cdv A outer s H EE) (defBody st) t ∧ t { nx := fun _ H' => Z .non H', rt := Z } (start N vs) H) : FnX P w K mg base (k + 1) f fd ps sp := by
  obtain ⟨oc, od, kV, doc, pm, an, cdv, ct, sl, rfl, lkp, hcd⟩ := F.ex
  refine ⟨len, fun A outer s H args us vs Z EE hr hg e0 hbt r hsp => ?_⟩
  have body : ∀ (A : Around) (outer : List Env) (s : Shared) (H : Hp) (vs : List V) (Z : VK) (EE : XK), Room k (A.deeper (envOfC q (defScope st) s.heap.objs.size f cdv)) → A.guards = some [] → sp vs H Z EE →
      ∃ t, PSs (cxOf (L2.CX P w) P w K mg base N q (defScope st) f cdv A outer s H EE) (defBody st) t ∧ t { nx := fun _ H' => Z .non H', rt := Z } (start N vs) H := fun A outer s H vs Z EE hr hg hsp => by
    obtain ⟨t, h, qq⟩ := hbody cdv A outer s H vs Z EE hr hg hsp
    exact ⟨t, h, qq⟩
  have hlen := len _ _ _ _ hsp
  have KI : K.In s.heap := e0.mod.kin.keeps fun b o e => (e0.bs b o e).1
  have nlm : s.heap.NoLimit := e0.mod.nolimit.keeps fun b o e => (e0.bs b o e).1
  have hkind : ∀ y ∈ ps.zip us, (defScope st).names.lookup y.1 = some .local ∨ ((defScope st).names.lookup y.1 = some .cell ∧ ((cellsFrom (s.heap.objs.size + 1) (defScope st).names []).lookup y.1).isSome = true) := fun ⟨n, v⟩ hyy => by
    rcases S.par n (List.of_mem_zip hyy).1 with qq | qq
    · exact .inl qq
    · exact .inr ⟨qq, PySem.W.cellsFrom_some _ _ _ (.inl qq)⟩
  refine codeAny_call_function hr.depth (KI _ _ lkp) rfl S.co S.gen rfl (PySem.W.codeRec_of KI hcd) (hbt _ _ _ _ ?_)
  refine wpAny_newFunctionEnv_cells S.kind hkind fun env hes st1 xx => ?_
  subst hes
  refine ⟨nlm.keeps xx.toInCall.keep, codeAny_func ?_⟩
  obtain ⟨t, ht, hsq⟩ := body A outer s H vs Z EE (hr.deeper _) hg hsp
  have I : Inv (cxOf (L2.CX P w) P w K mg base N q (defScope st) f cdv A outer s H EE) [] (start N vs) H st1 := inv_start S hr.hd e0 hlen r xx
  refine wpAny_mono (ht.run [] st1 (start N vs) H _ I hsq) (fun fl s' hst => ?_) fun e s' hst => hst
  have ready : ∀ {τ' : L2.St} {H' : Hp} {v : V} {u : Value}, Inv (cxOf (L2.CX P w) P w K mg base N q (defScope st) f cdv A outer s H EE) [] τ' H' s' → RelV v u → Z v H' → CE outer P w H s Z u s' :=
    fun {τ' H' v u} J rv qq => ⟨v, H', J.os, J.bare, J.base, J.hok, rv, qq⟩
  cases fl with
  | ret u =>
    obtain ⟨v, τ', H', J, rv, qq⟩ := hst
    exact ready J rv qq
  | next =>
    obtain ⟨τ', H', J, qq⟩ := hst
    exact ready (v := V.non) (u := Value.none) J rfl qq
  | brk =>
    obtain ⟨_, _, _, qq⟩ := hst
    exact False.elim qq
  | cont =>
    obtain ⟨_, _, _, qq⟩ := hst
    exact False.elim qq
end
/-- a class whose instances are made by an __init__ with sp that may raise -/
structure MakX (P : Program) (w : World) (K : PySem.W.Frag) (mg : Str → Option Value) (base : Heap) (k : Nat) (x : Str) (C : Addr) (sp : Sp) : Prop where
  at_ : mg x = some (.ref C)
  ex : ∃ (f : Addr) (fd : FuncData) (ps : List Str), FnX P w K mg base k f fd ps sp ∧ Mk K C f ∧ Binds K fd ps []
/-- a method with sp that may raise -/
structure MetX (P : Program) (w : World) (K : PySem.W.Frag) (mg : Str → Option Value) (base : Heap) (k : Nat) (C : Addr) (m : Str) (sp : Sp) : Prop where
  cl : Cls K C
  ex : ∃ (f : Addr) (fd : FuncData) (ps : List Str), FnX P w K mg base k f fd ps sp ∧ Meth K C m f ∧ Binds K fd ps []
/-- a def with sp that may raise -/
structure CalX (P : Program) (w : World) (K : PySem.W.Frag) (mg : Str → Option Value) (base : Heap) (k : Nat) (x : Str) (sp : Sp) : Prop where
  ex : ∃ (f : Addr) (fd : FuncData) (ps : List Str), FnX P w K mg base k f fd ps sp ∧ mg x = some (.ref f) ∧ PySem.W.keepIn K (.ref f) = true ∧ Binds K fd ps []
def tMakeX (C : Addr) (sp : Sp) (E : L2.St → XK) (t : TA) : TE := fun σ H Q => t σ H fun vs H1 => ∀ x dx, H1 x = none → H1 dx = none → dx ≠ x → sp (.ref x :: vs) (upd (upd H1 dx (.own x)) x (.ins C dx [])) (fun v H2 => v = .non ∧ Q (.ref x) H2) (E σ)
def tMethX (C : Addr) (m : Str) (sp : Sp) (E : L2.St → XK) (ta : TE) (t : TA) : TE := fun σ H Q => ta σ H fun x H1 => ∃ a d fs, x = .ref a ∧ H1 a = some (.ins C d fs) ∧ fs.lookup m = none ∧ t σ H1 fun vs H2 => sp (.ref a :: vs) H2 Q (E σ)
section
variable {X : Cx} {pk : List (Addr × Obj)} {τ : L2.St} {H : Hp} {s : Shared} {k j : Nat} {sp : Sp} {f C : Addr} {fd : FuncData} {ps : List Str} {Z : VK} {us : List Value} {vs : List V} {x m : Str} {p pos apos : Pos} {e o : Expr} {es : List Expr} {t : TA} {ta : TE} {E : L2.St → XK}
theorem run_fnX (F : FnX X.prog X.w X.K X.mg X.base k f fd ps sp) (hr : Room k X.A) (hg : X.A.guards = some []) (hbd : Binds X.K fd ps []) (hx : PassesAt (L2.CX X.prog X.w) X τ (E τ))
    (I : Inv X pk τ H s) (r : Vals vs us) (h : sp vs H Z (E τ)) : wpAny (model X.prog X.w) X.A (call (.ref f) us) (EP X pk τ Z) X.xe s := by
  have hlen : us.length = ps.length := by rw [← r.length]; exact F.len _ _ _ _ h
  refine wpAny_call (codeAny_mono (F.run X.A X.stack s H ⟨us, []⟩ us vs Z (E τ) hr hg I.env0 (by have q := hbd s us I.kIn (by rw [List.append_nil]; exact hlen); rw [List.append_nil] at q; exact q) r h) fun r s' hsq => ?_)
  cases r with
  | error e => exact hx pk H s e s' I hsq
  | ok fl =>
    cases fl with
    | ret u => exact I.after hsq
    | next => exact False.elim hsq
    | brk => exact False.elim hsq
    | cont => exact False.elim hsq
theorem run_mkX (M : Mk X.K C f) (F : FnX X.prog X.w X.K X.mg X.base k f fd ps sp) (hr : Room (k + 1) X.A) (hg : X.A.guards = some []) (hbd : Binds X.K fd ps []) (hx : PassesAt (L2.CX X.prog X.w) X τ (E τ)) (I : Inv X pk τ H s) (r : Vals vs us)
    (h : ∀ y d, H y = none → H d = none → d ≠ y → sp (.ref y :: vs) (upd (upd H d (.own y)) y (.ins C d [])) (fun v H2 => v = .non ∧ Z (.ref y) H2) (E τ)) : wpAny (model X.prog X.w) X.A (call (.ref C) us) (EP X pk τ Z) X.xe s := by
  have q0 := h (s.heap.objs.size + 1) s.heap.objs.size (I.hok.fresh (Nat.le_succ _)) (I.hok.fresh (Nat.le_refl _)) (Nat.ne_of_lt (Nat.lt_succ_self _))
  have J := Inv.made (C := C) I
  have rr : Vals (V.ref (s.heap.objs.size + 1) :: vs) (Value.ref (s.heap.objs.size + 1) :: us) := .cons rfl r
  have hl : ((Value.ref (s.heap.objs.size + 1) :: us) ++ []).length = ps.length := by
    rw [List.append_nil, ← rr.length]
    exact F.len _ _ _ _ q0
  have hb := hbd _ (Value.ref (s.heap.objs.size + 1) :: us) J.kIn hl
  rw [List.append_nil] at hb
  have run := F.run (X.A.under (.builtin "type.__call__" ⟨.ref C :: us, []⟩)) X.stack _ _ ⟨Value.ref (s.heap.objs.size + 1) :: us, []⟩ _ _ _ (E τ) (hr.make C us []) hg (J.env0.make C us []) hb rr q0
  refine wpAny_call (make_map (f := f) I.kIn M.makes M.init (beq_iff_eq.mp M.fn) (codeAny_mono run fun res s' hsq => ?_))
  match res, hsq with
  | .error e, hsq => exact hx pk _ _ e s' J hsq
  | .ok (.ret u), hsq =>
    obtain ⟨v, H4, J4, rv, ev, q4⟩ := J.after hsq
    subst ev
    exact ⟨rv, ⟨V.ref (s.heap.objs.size + 1), H4, J4, rfl, q4⟩⟩
  | .ok .next, hsq => exact False.elim hsq
  | .ok .brk, hsq => exact False.elim hsq
  | .ok .cont, hsq => exact False.elim hsq
theorem pe_mkX (c : MakX X.prog X.w X.K X.mg X.base k x C sp) (hr : Room j X.A) (hg0 : X.A.guards = some []) (hkp : k + 1 ≤ j) (hx : ∀ σ, PassesAt (L2.CX X.prog X.w) X σ (E σ)) (hg : Gl X x) (ha : PA X (e :: es) t)
    (hdb : (x == ("__debug__" : Str)) = false := by decide) (hes : starEach (e :: es) X.env = (false, eval e X.env) :: starEach es X.env := by rfl) (hpl : (backTo pos (starEach es X.env)).any (·.1) = false := by rfl) :
    PE X (.Call (.Name x p) (e :: es) [] pos) (tMakeX C sp E t) := by
  obtain ⟨f, fd, ps, F, M, b⟩ := c.ex
  refine ⟨fun pk s τ H Z I h => ?_⟩
  refine wpAny_Call_Name_kw (ld_glob I hg c.at_ ?_ hdb)
  refine PySem.W.callWith_K (h₀ := X.base) I.ok.mod.kin M.kp (thn (ha.run pos pk s τ H _ I h) fun us st1 ⟨vs, H1, I1, r, q⟩ => ⟨I1.kIn, ?_⟩) hes hpl
  exact run_mkX M F (hr.mono hkp) hg0 b (hx τ) I1 r q
theorem pe_cX (c : CalX X.prog X.w X.K X.mg X.base k x sp) (hr : Room j X.A) (hg0 : X.A.guards = some []) (hkp : k ≤ j) (hx : ∀ σ, PassesAt (L2.CX X.prog X.w) X σ (E σ)) (hg : Gl X x) (ha : PA X (e :: es) t)
    (hdb : (x == ("__debug__" : Str)) = false := by decide) (hes : starEach (e :: es) X.env = (false, eval e X.env) :: starEach es X.env := by rfl) (hpl : (backTo pos (starEach es X.env)).any (·.1) = false := by rfl) :
    PE X (.Call (.Name x p) (e :: es) [] pos) (tCallS sp E t) := by
  obtain ⟨f, fd, ps, F, hmg, kp, b⟩ := c.ex
  refine ⟨fun pk s τ H Z I h => ?_⟩
  refine wpAny_Call_Name_kw (ld_glob I hg hmg ?_ hdb)
  refine PySem.W.callWith_K (h₀ := X.base) I.ok.mod.kin kp (thn (ha.run pos pk s τ H _ I h) fun us st1 ⟨vs, H1, I1, r, q⟩ => ⟨I1.kIn, ?_⟩) hes hpl
  exact run_fnX F (hr.mono hkp) hg0 b (hx τ) I1 r q
theorem pe_mtX {pl : Sem Bool} (c : MetX X.prog X.w X.K X.mg X.base k C m sp) (he : PE X o ta) (hr : Room j X.A) (hg0 : X.A.guards = some []) (hkp : k ≤ j) (hx : ∀ σ, PassesAt (L2.CX X.prog X.w) X σ (E σ)) (ha : PA X (e :: es) t)
    (hes : starEach (e :: es) X.env = (false, eval e X.env) :: starEach es X.env := by rfl) (hpl : (backTo pos (starEach es X.env)).any (·.1) = false := by rfl)
    (hte : eval (.Call (.Attribute o m apos) (e :: es) [] pos) X.env = (do
      let ov ← eval o X.env
      standAt apos.atName
      let (g, first) ← holding [ov] (getMethod ov m pl)
      callWith pos g first (backTo pos (starEach (e :: es) X.env)) (backToKw pos (keywordEach [] X.env))) := by rfl) :
    PE X (.Call (.Attribute o m apos) (e :: es) [] pos) (tMethX C m sp E ta t) := by
  obtain ⟨f, fd, ps, F, M, b⟩ := c.ex
  refine ⟨fun pk s τ H Z I h => PySem.W.methodCall_KW (pl := pl) (thn (he.run pk s τ H _ I h) fun u st1 ⟨y, H1, I1, ry, a, d, fs, ey, ea, l, q⟩ => ?_) hte⟩
  subst ey
  have eu : u = Value.ref a := ry
  subst eu
  refine getmeth_ok I1 ea c.cl M l ?_
  refine PySem.W.callWith_K (first := [.ref a]) (h₀ := X.base) I1.ok.mod.kin M.kp (thn (ha.run pos pk st1 τ H1 _ I1 q) fun us st2 ⟨vs, H2, I2, r, q2⟩ => ⟨I2.kIn, ?_⟩) hes hpl
  exact run_fnX (us := .ref a :: us) (vs := .ref a :: vs) F (hr.mono hkp) hg0 b (hx τ) I2 (.cons rfl r) q2
end
/-- isinstance of the caught error of an own class, whatever its dict: what the class must say -/
structure ExcD (K : PySem.W.Frag) (D : Addr) : Prop where
  hc : (PySem.W.clsIn K D).isSome = true
  hg : PySem.W.findIn K (.ref D) "__getattribute__" = some (some (.builtin "BaseException.__getattribute__"))
  hk : PySem.W.findIn K (.ref D) "__getattr__" = some none
  hs : PySem.W.subIn K (.ref D) (.type "BaseException") = some true
  ha : PySem.W.findIn K (.ref D) "__class__" = some (some (.builtin "object.__class__"))
  hn : PySem.W.specialIn K (.builtin "object.__class__") "__get__" = some (some (.builtin "getset_descriptor.__get__"))
  ht : PySem.W.takesIn K (.builtin "object.__class__") = some true
  hm : PySem.W.mroIn K D (.type "object") = some true
theorem call_isD {X : Cx} {a D : Addr} {oe : Obj} {cls : Value} {d : Option Addr} {pn : List (Addr × Obj)} (hcls : cls = .ref D) (dd : Addr) (fs : List (Str × V)) (hd : d = some dd) (C : ExcD X.K D) (hz : Zc cls d oe) (hf : ∃ vs, oe.data = .fields vs) :
    CallR (X.suite a ((a, oe) :: pn)) (.builtin "isinstance") (fun xs H Q => H dd = some (.xd fs) ∧ rIsE X.K D a xs H Q) := by
  intro pins s σ H xs us Q I r h
  subst hcls hd
  obtain ⟨hx, c, cv, b, rfl, hcv, e, q⟩ := h
  cases r with
  | cons rx rr =>
    cases rr with
    | cons rt rr =>
      cases rr
      cases rx
      have ec := hcv _ rt
      subst ec
      obtain ⟨hget, _⟩ := I.pin (a, oe) (List.mem_append.mpr (.inl List.mem_cons_self))
      obtain ⟨vs, hv⟩ := hf
      have hx : ObjOk X.prog X.w H s.heap dd (.xd fs) := I.hok dd _ hx
      obtain ⟨mA, hns, hr⟩ := hx
      obtain ⟨od, ho, hl⟩ := lookIn_ns hns
      have J : PySem.W.InstAt s.heap a oe D (some od) := ⟨hget, hz.1, by unfold PySem.W.notCls; rw [hv] <;> rfl, by rw [hz.2]; exact ho⟩
      exact PySem.W.kia_one (PySem.W.kitx_exc C.hc C.hg C.hk C.hs C.ha C.hn C.ht C.hm) I.kIn J e (fun z => nomatch z) fun tk => ⟨.bl b, H, I.kept (t' := tk) fun _ _ z => z, rfl, q⟩
end Own

namespace Own
open PySem PySem.Spec PyProof.Rows L2 Evl L2H
/-! ### comprehensions where an exception is handled -/
abbrev hctx (X : Cx) (st : Shared) (G : Hp) (sco : Scope) (cen : Env) (fa : List Addr) : Cx := { X.blk st G sco cen fa with pn := X.pn }
section
variable {X : Cx} {st st' : Shared} {G G' : Hp} {sco : Scope} {cen : Env} {fa : List Addr} {τ τ' : L2.St} {pk pk' : List (Addr × Obj)}
theorem ok_hot (o : (X.blk st G sco cen fa).Ok) : (hctx X st G sco cen fa).Ok := ⟨o.mod, o.kind, o.glob, o.blt, o.above, o.inj, o.has, o.cab, o.hd, o.frames, o.stk, o.exf, o.bs, o.bsz, o.noex, o.exfs, o.funs, o.frf⟩
theorem ok_cool (o : (hctx X st G sco cen fa).Ok) : (X.blk st G sco cen fa).Ok := ⟨o.mod, o.kind, o.glob, o.blt, o.above, o.inj, o.has, o.cab, o.hd, o.frames, o.stk, o.exf, o.bs, o.bsz, o.noex, o.exfs, o.funs, o.frf⟩
theorem inv_hot (I0 : Inv X pk τ G st) (I : Inv (X.blk st G sco cen fa) [] τ' G' st') (hfa : ∀ b ∈ fa, ∀ p ∈ X.pn ++ pk, p.1 ≠ b) : Inv (hctx X st G sco cen fa) [] τ' G' st' := by
  refine ⟨ok_hot I.ok, I.os, I.bare, I.base, I.loc, I.cell, I.free, I.freeC, fun p hp => ?_, I.hok, I.len⟩
  have hp : p ∈ X.pn := by simpa using hp
  have hp2 := List.mem_append_left pk hp
  obtain ⟨z1, z2, z3, z4, z5⟩ := I0.pin p hp2
  have nf : p.1 ∉ frs X.stack := fun hm => (List.mem_cons.mp (I0.stkSub p.1 hm)).elim z3 z4
  have ne : p.1 ∉ fa := fun hm => hfa p.1 hm p hp2 rfl
  exact ⟨I.base.keep p.1 p.2 z1 z2 nf ne, I.base.free p.1 p.2 z1 z2 ne, Nat.ne_of_lt (Nat.lt_of_lt_of_le (Heap.lt_size z1) I.ok.above), nf, z5⟩
theorem inv_cool (I : Inv (hctx X st G sco cen fa) pk' τ' G' st') : Inv (X.blk st G sco cen fa) pk' τ' G' st' :=
  ⟨ok_cool I.ok, I.os, I.bare, I.base, I.loc, I.cell, I.free, I.freeC, fun p hp => I.pin p (List.mem_append_right _ (by simpa using hp)), I.hok, I.len⟩
theorem hotC_h (c : HotC X) : HotC (hctx X st G sco cen fa) := c
theorem pe_lcH {elt tg src : Expr} {conds : List Expr} {own : List (Str × Nat)} {pos : Pos} {wi : TI} {g : TG} {tt : TT} {te : TE} (hot : HotC X) (nd : X.N.Nodup) (hi : PIH X tg src wi) (ok : BlkOk X.N X.env.scope sco own)
    (hg : ∀ (s1 : Shared) (H1 : Hp) (c1 : Addr) (l1 : List (Str × Addr)) (b1 : List Addr), PG (X.blk s1 H1 sco (compEnvC sco l1 c1 X.env) b1) tg g)
    (ht : ∀ (s1 : Shared) (H1 : Hp) (c1 : Addr) (l1 : List (Str × Addr)) (b1 : List Addr), PTs (X.blk s1 H1 sco (compEnvC sco l1 c1 X.env) b1) conds tt)
    (he : ∀ (s1 : Shared) (H1 : Hp) (c1 : Addr) (l1 : List (Str × Addr)) (b1 : List Addr), PE (X.blk s1 H1 sco (compEnvC sco l1 c1 X.env) b1) elt te) (hsrc : ∀ x, foldedSetIterable src X.env x = pure x := by intro _; rfl) :
    PE X (.ListComp elt [⟨tg, src, conds, 0⟩] sco pos) (tLc wi g tt te (own.map (·.2))) := by
  refine ⟨fun pk s0 τ H0 Q I0 h0 => ?_⟩
  rw [eval_ListComp]
  have hcl : ∀ y ∈ sco.names, y.2 = .free → ∃ c, X.env.cells.lookup y.1 = some c := fun y hy e => (ok.free y hy e).elim (fun z => I0.ok.has _ (.inl z)) (fun z => I0.ok.has _ (.inr z))
  refine wpAny_comprehension_free (use := none) rfl hsrc (closure_ok hcl) ok.kind (fun y hy e => by rw [ok.uniq y hy, e]) (thn (hi.run pk s0 τ H0 _ I0 h0) fun xv sA hxv => thn hxv fun itv sB hB => ?_)
  obtain ⟨it, fa, tn, J, HB, e, IB, T, tB, fB, q⟩ := hB
  subst e
  refine wpAny_newObj_type (newEnv_comp ?_) (by show 0 ≤ sizeLine; decide)
  generalize hL : sB.heap.objs.size = L
  have nL : HB L = none := IB.hok.fresh (Nat.le_of_eq hL)
  obtain ⟨W, ⟨mm, wm⟩, turn⟩ := q L nL
  generalize hsC : ({ sB with heap := sB.heap.push { cls := .type "list", data := .seq ([] : List Value).toArray } } : Shared) = sC
  have IC : Inv X pk τ (upd HB L (.lst [])) sC := by
    rw [← hsC]
    refine IB.laid (t' := sB.toks) (fun _ _ z => Heap.get?_push_of_some _ z) (Nat.le_of_eq hL) ⟨Nat.zero_le _, [], 0, .nil, ?_⟩
    rw [← hL]
    exact Heap.get?_push_size _ rfl
  have hpC : sC.heap = sB.heap.push { cls := .type "list", data := .seq ([] : List Value).toArray } := by rw [← hsC]
  have below : ∀ b ∈ fa, b < sB.heap.objs.size := fun b hb => let ⟨_, z, _⟩ := T.obj _ _ tB b hb; Heap.lt_size z
  have fC : ∀ b ∈ fa, FpOk X pk (upd HB L (.lst [])) b ∧ b < sC.heap.objs.size := fun b hb => by
    have lt := below b hb
    refine ⟨⟨?_, (fB b hb).2⟩, by rw [hpC, Heap.size_push]; exact Nat.lt_succ_of_lt lt⟩
    rw [upd_ne (by rw [← hL]; exact Nat.ne_of_lt lt)]
    exact (fB b hb).1
  have tC : tn 0 sC.heap := T.keep _ _ _ tB fun b _ o z => by rw [hpC]; exact Heap.get?_push_of_some _ z
  have ID := block_start IC ok nd fC
  have Pg := hg sC (upd HB L (.lst [])) sC.heap.objs.size (cellsFrom (sC.heap.objs.size + 1) sco.names (cloFrom X.env.cells sco.names [])) fa
  have Pt := ht sC (upd HB L (.lst [])) sC.heap.objs.size (cellsFrom (sC.heap.objs.size + 1) sco.names (cloFrom X.env.cells sco.names [])) fa
  have Pe := he sC (upd HB L (.lst [])) sC.heap.objs.size (cellsFrom (sC.heap.objs.size + 1) sco.names (cloFrom X.env.cells sco.names [])) fa
  show codeAny _ _ (.compStart (.ListComp elt [⟨tg, src, conds, 0⟩] sco pos) 0 (.ref it) (.ref L) (compEnvC sco (cellsFrom (sC.heap.objs.size + 1) sco.names (cloFrom X.env.cells sco.names [])) sC.heap.objs.size X.env)) (compPost (model X.prog X.w) X.A X.xe none _ (.ref L) sC.heap.objs.size) { sC with heap := pushCells (sC.heap.push { cls := .type "dict", data := .dict #[] }) sco.names }
  have nofa : ∀ b ∈ fa, (upd HB L (.lst [])) b = none := fun b hb => (fC b hb).1.1
  have pinfa : ∀ b ∈ fa, ∀ p ∈ X.pn ++ pk, p.1 ≠ b := fun b hb => (fC b hb).1.2.2.2.2.2
  generalize hcen : compEnvC sco (cellsFrom (sC.heap.objs.size + 1) sco.names (cloFrom X.env.cells sco.names [])) sC.heap.objs.size X.env = cen at ID Pg Pt Pe ⊢
  have lcen : cen.locals = sC.heap.objs.size := by subst hcen; rfl
  generalize hHC : upd HB L (.lst []) = HC at IC ID Pg Pt Pe wm nofa fC
  generalize hsD : ({ sC with heap := pushCells (sC.heap.push { cls := .type "dict", data := .dict #[] }) sco.names } : Shared) = sD at ID ⊢
  have tD : tn 0 sD.heap := T.keep _ _ _ tC fun b _ o z => by rw [← hsD]; exact pushCells_keeps _ _ _ _ (Heap.get?_push_of_some _ z)
  have still : ∀ {τ' : L2.St} {H' : Hp} {s' : Shared}, Inv (X.blk sC HC sco cen fa) [] τ' H' s' → (∀ b ∈ fa, H' b = none) → ∀ b ∈ fa, FpOk (X.blk sC HC sco cen fa) [] H' b := fun {τ' H' s'} I' hn b hb =>
    ⟨hn b hb, (I'.ok.exf b hb).1, I'.ok.exfs b hb, .inl hb, fun x c z => (I'.ok.exf b hb).2 x c z, fun p hp => absurd (show p ∈ ([] : List (Addr × Obj)) ++ [] from hp) (by simp)⟩
  have stillH : ∀ {τ' : L2.St} {H' : Hp} {s' : Shared}, Inv (X.blk sC HC sco cen fa) [] τ' H' s' → (∀ b ∈ fa, H' b = none) → ∀ b ∈ fa, FpOk (hctx X sC HC sco cen fa) [] H' b := fun {τ' H' s'} I' hn b hb =>
    ⟨hn b hb, (I'.ok.exf b hb).1, I'.ok.exfs b hb, .inl hb, fun x c z => (I'.ok.exf b hb).2 x c z, fun p hp => pinfa b hb p (List.mem_append_left _ (by simpa using hp))⟩
  have run : codeAny (model X.prog X.w) X.A (.compLoop (.ListComp elt [⟨tg, src, conds, 0⟩] sco pos) 0 (.ref it) (.ref L) cen) (compPost (model X.prog X.w) X.A X.xe none (EP X pk τ Q) (.ref L) sC.heap.objs.size) sD := by
    refine compLoop_any (fun n s' => ∃ i H', Inv (X.blk sC HC sco cen fa) [] (wipe τ (own.map (·.2))) H' s' ∧ tn i s'.heap ∧ (∀ b ∈ fa, H' b = none) ∧ W i n H') ?_ mm ⟨0, HC, ID, tD, nofa, wm⟩
    rintro n sE ⟨i, HE, IE, tE, nE, wE⟩
    rcases turn i n HE wE with ⟨stop, qq⟩ | ⟨go, Nx, hNx, step⟩
    · have td := T.done (hctx X sC HC sco cen fa) rfl rfl rfl (hotC_h hot) i [] sE _ HE (fun _ _ => False) (inv_hot IC IE pinfa) (stillH IE nE) tE stop
      refine thnF td fun r sF ⟨hr, IFh⟩ => ?_
      have IF := inv_cool IFh
      subst hr
      have IX : Inv X pk τ HE sF := IC.call' (ch := fa) IF.os IF.base IF.hok IF.bare fun b hb => ⟨(fC b hb).1.2.2.2.1, (fC b hb).1.2.1, (fC b hb).1.2.2.2.2.1, (fC b hb).1.2.2.2.2.2⟩
      have nC : HE sC.heap.objs.size = none := by
        have z : HE cen.locals = none := IF.free
        rw [lcen] at z
        exact z
      obtain ⟨m, hn, _⟩ := IF.loc
      have hn : sF.heap.Ns cen.locals m := hn
      rw [lcen] at hn
      refine ⟨m, hn, fun h'' sb => ?_⟩
      obtain ⟨_, f1, f2, f3, f4, f5⟩ := IC.fpOk (Nat.le_refl _) nC
      exact ⟨.ref L, HE, IX.turned (t' := sF.toks) (fun b o hb z => (sb.2 b hb).trans z) nC f1 f3 f4 f5, rfl, qq⟩
    · have ti := T.item (hctx X sC HC sco cen fa) rfl rfl rfl (hotC_h hot) i [] sE _ HE (fun _ _ => False) (inv_hot IC IE pinfa) (stillH IE nE) tE go
      refine thnF ti fun r sF ⟨u, hr, hF⟩ => ?_
      subst hr
      refine thnF hF fun _ sG ⟨x, HG, IGh, rG, yG, tG, nG⟩ => ?_
      have IG := inv_cool IGh
      have IG' := IG.pinned (still IG nG) (T.obj _ _ tG)
      refine thnF (Pg.run _ sG _ HG x u _ IG' rG (step x HG yG)) fun _ sK ⟨τK, HK, IK, wK, qK⟩ => ?_
      refine thnF (Pt.run _ sK τK HK _ IK qK) fun b sM ⟨HM, IM, qM⟩ => ?_
      have last : ∀ {s' : Shared} {H' : Hp}, Inv (X.blk sC HC sco cen fa) ([] ++ pinsAt fa sG.heap) τK H' s' → Nx H' → ∃ m, m < n ∧ ∃ i H', Inv (X.blk sC HC sco cen fa) [] (wipe τ (own.map (·.2))) H' s' ∧ tn i s'.heap ∧ (∀ b ∈ fa, H' b = none) ∧ W i m H' := fun {s' H'} I' nx => by
        obtain ⟨m', hm, w'⟩ := hNx H' nx
        have kept : ∀ b ∈ fa, ∀ o, sG.heap.get? b = some o → s'.heap.get? b = some o ∧ H' b = none := fun b hb o z =>
          let y := I'.pin (b, o) (List.mem_append_right _ (List.mem_append_right _ (mem_pinsAt hb z)))
          ⟨y.1, y.2.1⟩
        have hlen : (wipe τ (own.map (·.2))).length = τK.length := by rw [← wK, wipe_length]
        refine ⟨m', hm, i + 1, H', (I'.unpinned (pins := [])).weak hlen (fun j v z => ?_), T.keep _ _ _ tG fun b hb o z => (kept b hb o z).1, fun b hb => ?_, w'⟩
        · rw [← wK] at z
          exact (wipe_some z).1
        · obtain ⟨o, z, _⟩ := T.obj _ _ tG b hb
          exact (kept b hb o z).2
      cases b with
      | false =>
        rw [if_neg Bool.false_ne_true] at qM
        exact last IM qM
      | true =>
        rw [if_pos rfl] at qM
        refine thnF (Pe.run _ sM τK HM _ IM qM) fun z sN ⟨yv, HN, IN, rN, acc, hLN, hz, nx⟩ => ?_
        exact app_ok (X := X.blk sC HC sco cen fa) IN hLN hz rN fun sO IO => last IO nx
  exact codeAny_compStart_list run (T.self X.A 0 _ _ _ tD run)
end
end Own

namespace Own
open PySem PySem.Spec PyProof.Rows L2 Evl L2H
/-! ### defs that are called with the error in hand, in its except suite: what they keep speaks of the error's object -/
abbrev SpP := Addr × Obj → Sp
structure FnP (P : Program) (w : World) (K : PySem.W.Frag) (mg : Str → Option Value) (base : Heap) (k : Nat) (f : Addr) (fd : FuncData) (ps : List Str) (sp : SpP) : Prop where
  len : ∀ ob vs H Z EE, sp ob vs H Z EE → vs.length = ps.length
  run : ∀ (A : Around) (outer : List Env) (s : Shared) (H : Hp) (args : Args) (us : List Value) (vs : List V) (Z : VK) (EE : XK) (ob : Addr × Obj), RoomH k A → Hot1 A ob → PinOk outer H s ob → Env0 P w K mg base A outer s H → BindsTo s fd args (ps.zip us) → Vals vs us → sp ob vs H Z EE →
    codeAny (model P w) A (.call (.ref f) args) (CR CX0 outer P w H s Z EE) s
section
variable {P : Program} {w : World} {K : PySem.W.Frag} {mg : Str → Option Value} {base : Heap}
theorem fn_mkP {x q : Str} {f : Addr} {fd : FuncData} {st : Stmt} {N ps : List Str} {k : Nat} {sp : SpP} (F : Fun K x q st f fd) (S : FnScope N ps (defScope st))
    (len : ∀ ob vs H Z EE, sp ob vs H Z EE → vs.length = ps.length)
    (hbody : ∀ (cdv : Value) (A : Around) (outer : List Env) (s : Shared) (H : Hp) (vs : List V) (Z : VK) (EE : XK) (ob : Addr × Obj), Hot1 A ob → RoomH k (A.deeper (envOfC q (defScope st) s.heap.objs.size f cdv)) → sp ob vs H Z EE →
      ∃ t, PSs (cxH CX0 P w K mg base N q (defScope st) f cdv A outer s H EE ob) (defBody st) t ∧ t { nx := fun _ H' => Z .non H', rt := Z } (start N vs) H) : FnP P w K mg base (k + 1) f fd ps sp := by
  obtain ⟨oc, od, kV, doc, pm, an, cdv, ct, sl, rfl, lkp, hcd⟩ := F.ex
  refine ⟨len, fun A outer s H args us vs Z EE ob hr hot hpi e0 hbt r hsp => ?_⟩
  have hlen := len _ _ _ _ _ hsp
  have KI : K.In s.heap := e0.mod.kin.keeps fun b o e => (e0.bs b o e).1
  have nlm : s.heap.NoLimit := e0.mod.nolimit.keeps fun b o e => (e0.bs b o e).1
  have hkind : ∀ y ∈ ps.zip us, (defScope st).names.lookup y.1 = some .local ∨ ((defScope st).names.lookup y.1 = some .cell ∧ ((cellsFrom (s.heap.objs.size + 1) (defScope st).names []).lookup y.1).isSome = true) := fun ⟨n, v⟩ hyy => by
    rcases S.par n (List.of_mem_zip hyy).1 with qq | qq
    · exact .inl qq
    · exact .inr ⟨qq, PySem.W.cellsFrom_some _ _ _ (.inl qq)⟩
  refine codeAny_call_function hr.depth (KI _ _ lkp) rfl S.co S.gen rfl (PySem.W.codeRec_of KI hcd) (hbt _ _ _ _ ?_)
  refine wpAny_newFunctionEnv_cells S.kind hkind fun env hes st1 xx => ?_
  subst hes
  refine ⟨nlm.keeps xx.toInCall.keep, codeAny_func ?_⟩
  obtain ⟨t, ht, hsq⟩ := hbody cdv A outer s H vs Z EE ob hot (hr.deeper _) hsp
  have I : Inv (cxH CX0 P w K mg base N q (defScope st) f cdv A outer s H EE ob) [] (start N vs) H st1 := inv_startH S hpi e0 hlen r xx
  refine wpAny_mono (ht.run [] st1 (start N vs) H _ I hsq) (fun fl s' hst => ?_) fun e s' hst => hst
  have ready : ∀ {τ' : L2.St} {H' : Hp} {v : V} {u : Value}, Inv (cxH CX0 P w K mg base N q (defScope st) f cdv A outer s H EE ob) [] τ' H' s' → RelV v u → Z v H' → CE outer P w H s Z u s' :=
    fun {τ' H' v u} J rv qq => ⟨v, H', J.os, J.bare, J.base, J.hok, rv, qq⟩
  cases fl with
  | ret u =>
    obtain ⟨v, τ', H', J, rv, qq⟩ := hst
    exact ready J rv qq
  | next =>
    obtain ⟨τ', H', J, qq⟩ := hst
    exact ready (v := V.non) (u := Value.none) J rfl qq
  | brk =>
    obtain ⟨_, _, _, qq⟩ := hst
    exact False.elim qq
  | cont =>
    obtain ⟨_, _, _, qq⟩ := hst
    exact False.elim qq
end
structure CalP (P : Program) (w : World) (K : PySem.W.Frag) (mg : Str → Option Value) (base : Heap) (k : Nat) (x : Str) (sp : SpP) : Prop where
  ex : ∃ (f : Addr) (fd : FuncData) (ps : List Str), FnP P w K mg base k f fd ps sp ∧ mg x = some (.ref f) ∧ PySem.W.keepIn K (.ref f) = true ∧ Binds K fd ps []
def tCallP (sp : Sp) (t : TA) : TE := fun σ H Q => t σ H fun vs H1 => sp vs H1 Q (fun _ _ _ => False)
section
variable {X : Cx} {pk : List (Addr × Obj)} {τ : L2.St} {H : Hp} {s : Shared} {k j : Nat} {sp : SpP} {f : Addr} {fd : FuncData} {ps : List Str} {Z : VK} {us : List Value} {vs : List V} {x m : Str} {p pos : Pos} {e : Expr} {es : List Expr} {t : TA} {ob : Addr × Obj}
theorem run_fnP (F : FnP X.prog X.w X.K X.mg X.base k f fd ps sp) (hr : RoomH k X.A) (hot : Hot1 X.A ob) (hob : ob ∈ X.pn) (hbd : Binds X.K fd ps [])
    (I : Inv X pk τ H s) (r : Vals vs us) (h : sp ob vs H Z (fun _ _ _ => False)) : wpAny (model X.prog X.w) X.A (call (.ref f) us) (EP X pk τ Z) X.xe s := by
  have hlen : us.length = ps.length := by rw [← r.length]; exact F.len _ _ _ _ _ h
  obtain ⟨z1, z2, z3, z4, z5⟩ := I.pin ob (List.mem_append_left _ hob)
  have hpi : PinOk X.stack H s ob := ⟨z1, z2, fun hm => (List.mem_cons.mp (I.stkSub ob.1 hm)).elim z3 z4, z5⟩
  refine wpAny_call (codeAny_mono (F.run X.A X.stack s H ⟨us, []⟩ us vs Z _ ob hr hot hpi I.env0 (by have q := hbd s us I.kIn (by rw [List.append_nil]; exact hlen); rw [List.append_nil] at q; exact q) r h) fun r s' hsq => ?_)
  cases r with
  | error e => exact absurd hsq (by intro q; exact q.elim)
  | ok fl =>
    cases fl with
    | ret u => exact I.after hsq
    | next => exact False.elim hsq
    | brk => exact False.elim hsq
    | cont => exact False.elim hsq
theorem pe_cP (c : CalP X.prog X.w X.K X.mg X.base k x sp) (hr : RoomH k X.A) (hot : Hot1 X.A ob) (hob : ob ∈ X.pn) (hg : Gl X x) (ha : PA X (e :: es) t)
    (hdb : (x == ("__debug__" : Str)) = false := by decide) (hes : starEach (e :: es) X.env = (false, eval e X.env) :: starEach es X.env := by rfl) (hpl : (backTo pos (starEach es X.env)).any (·.1) = false := by rfl) :
    PE X (.Call (.Name x p) (e :: es) [] pos) (tCallP (sp ob) t) := by
  obtain ⟨f, fd, ps, F, hmg, kp, b⟩ := c.ex
  refine ⟨fun pk s τ H Z I h => ?_⟩
  refine wpAny_Call_Name_kw (ld_glob I hg hmg ?_ hdb)
  refine PySem.W.callWith_K (h₀ := X.base) I.ok.mod.kin kp (thn (ha.run pos pk s τ H _ I h) fun us st1 ⟨vs, H1, I1, r, q⟩ => ⟨I1.kIn, ?_⟩) hes hpl
  exact run_fnP F hr hot hob b I1 r q
end
/-! ### the error in hand -/
/-- what is known of the error's object -/
structure ErO (ob : Addr × Obj) (D : Addr) (d : Option Addr) : Prop where
  cls : ob.2.cls = .ref D
  dct : ob.2.dict = d
  dat : ∃ vs, ob.2.data = .fields vs
/-- its fields, where it has some -/
def ErD (H : Hp) (d : Option Addr) : Prop := d = none ∨ ∃ dd fs, d = some dd ∧ H dd = some (.xd fs)
theorem inst_of {X : Cx} {pk : List (Addr × Obj)} {τ : L2.St} {H : Hp} {s : Shared} {ob : Addr × Obj} {D : Addr} {d : Option Addr} (I : Inv X pk τ H s) (hob : ob ∈ X.pn) (O : ErO ob D d) (hd : ErD H d) : ∃ od, PySem.W.InstAt s.heap ob.1 ob.2 D od := by
  obtain ⟨hget, _⟩ := I.pin ob (List.mem_append_left _ hob)
  obtain ⟨h1, h2, vs, h3⟩ := O
  rcases hd with rfl | ⟨dd, fs, rfl, hx⟩
  · refine ⟨none, hget, h1, by unfold PySem.W.notCls; rw [h3] <;> rfl, by rw [h2]; trivial⟩
  · have hx : ObjOk X.prog X.w H s.heap dd (.xd fs) := I.hok dd _ hx
    obtain ⟨mA, hns, hr⟩ := hx
    obtain ⟨od, ho, hl⟩ := lookIn_ns hns
    exact ⟨some od, hget, h1, by unfold PySem.W.notCls; rw [h3] <;> rfl, by rw [h2]; exact ho⟩
theorem call_isP {X : Cx} {ob : Addr × Obj} {D : Addr} {d : Option Addr} (C : ExcC X.K D) (hob : ob ∈ X.pn) (O : ErO ob D d) : CallR X (.builtin "isinstance") (fun xs H Q => ErD H d ∧ rIsE X.K D ob.1 xs H Q) := by
  intro pk s τ H xs us Q I r h
  obtain ⟨hd, c, cv, b, rfl, hcv, e, q⟩ := h
  cases r with
  | cons rx rr =>
    cases rr with
    | cons rt rr =>
      cases rr
      cases rx
      have ec := hcv _ rt
      subst ec
      obtain ⟨od, J⟩ := inst_of I hob O hd
      have hc : (PySem.W.clsIn X.K D).isSome = true := by
        obtain ⟨cd, hc, _⟩ := PySem.W.any_some C.hd
        rw [hc]
        rfl
      have fin : ∀ tk, EP X pk τ Q (.bool b) { s with toks := tk } := fun tk => ⟨.bl b, H, I.kept (t' := tk) fun _ _ z => z, rfl, q⟩
      cases od with
      | none => exact PySem.W.kia_one (PySem.W.handS_kitx_exc C.hg C.hk C.hs C.hd C.ha C.hn C.ht C.hm) I.kIn J e (fun z => nomatch z) fin
      | some od => exact PySem.W.kia_one (PySem.W.kitx_exc hc C.hg C.hk C.hs C.ha C.hn C.ht C.hm) I.kIn J e (fun z => nomatch z) fin
theorem pe_xfP {X : Cx} {ob : Addr × Obj} {D : Addr} {d : Option Addr} {e : Expr} {te : TE} {pos : Pos} {n : Str} (C : ExcC X.K D) (hno : PySem.W.findIn X.K (.ref D) n = some none) (hob : ob ∈ X.pn) (O : ErO ob D d) (he : PE X e te)
    (hb : attributeBase e n X.env (eval e X.env) = eval e X.env := by rfl) : PE X (.Attribute e n pos) (tXf ob.1 (.ref D) d D n te) := by
  refine ⟨fun pk s τ H Q I h => ?_⟩
  refine attr_of hb (thn (he.run pk s τ H _ I h) fun u sA hh => ?_)
  obtain ⟨x, HA, IA, rx, ex, _, dd, fs, v, ed, ea, l, q⟩ := hh
  subst ex
  obtain rfl : u = Value.ref ob.1 := rx
  obtain ⟨hget, _⟩ := IA.pin ob (List.mem_append_left _ hob)
  obtain ⟨h1, h2, vs, h3⟩ := O
  have hx : ObjOk X.prog X.w HA sA.heap dd (.xd fs) := IA.hok dd _ ea
  obtain ⟨mA, hns, hr⟩ := hx
  obtain ⟨od, ho, hl⟩ := lookIn_ns hns
  obtain ⟨u, hu, ru⟩ := RelO.some_of (v := v) (o := mA n) (by rw [← l]; exact hr n)
  have J : PySem.W.InstAt sA.heap ob.1 ob.2 D (some od) := ⟨hget, h1, by unfold PySem.W.notCls; rw [h3] <;> rfl, by rw [h2, ed]; exact ho⟩
  exact HandSPX.exc_get IA.kIn J C.hg C.hk C.hs (PySem.W.findObj_own C.hd hno rfl (by rw [hl, hu])) (handed_of ru) ⟨v, HA, IA.tok _, ru, q⟩
/-! ### lists of the very same things are equal -/
def plV : V → Bool | .non => true | .bl _ => true | .int _ => true | .str _ => true | .ref _ => true | _ => false
def rEqS (K : PySem.W.Frag) : R2 := fun x y H Q => ∃ (a b : Addr) (xs : List V), x = .ref a ∧ y = .ref b ∧ SqL K H a xs ∧ SqL K H b xs ∧ xs.all plV = true ∧ Q (.bl true) H
theorem same_at {P : Program} {w : World} {s : Shared} {v : V} {u u' : Value} (h : plV v = true) (r : RelV v u) (r' : RelV v u') : PySem.W.EqTree P w s 0 u u' true := by
  cases v with
  | non => cases r; cases r'; exact .same
  | bl b => cases r; cases r'; exact .same
  | ref a => cases r; cases r'; exact .same
  | int i =>
    obtain ⟨t, rfl⟩ := r
    obtain ⟨t', rfl⟩ := r'
    refine .leaf fun A _ => ?_
    have z := PySem.SeqAt.EqAt.int_int (A := A) (s := s) i t i t'
    rw [beq_self_eq_true] at z
    exact z
  | str i =>
    obtain ⟨t, rfl⟩ := r
    obtain ⟨t', rfl⟩ := r'
    refine .leaf fun A _ => ?_
    have z := PySem.SeqAt.EqAt.str_str (A := A) (s := s) i t i t'
    rw [beq_self_eq_true] at z
    exact z
  | _ => cases h
theorem op_eqS {X : Cx} (hu : X.A.units + 64 < cLine) : OpR X (compareOp .Eq) (rEqS X.K) := by
  intro pk s τ H x y v u Q I rx ry h
  obtain ⟨a, b, xs, rfl, rfl, ha, hb, hpl, q⟩ := h
  cases rx
  cases ry
  obtain ⟨ua, ra, la, _⟩ := I.list ha
  obtain ⟨ub, rb, lb, _⟩ := I.list hb
  have hsz : ua.toArray.size = ub.toArray.size := by rw [List.size_toArray, List.size_toArray, ← ra.length, ← rb.length]
  refine PySem.W.eq_listsT (n := 0) (e := fun _ => true) la.isList lb.isList hsz (fun j h1 h2 => ?_) (by omega) ⟨.bl true, H, I, ?_, q⟩
  · have hj : j < xs.length := by rw [ra.length]; simpa using h1
    obtain ⟨u1, e1, r1⟩ := ra.get (x := xs[j]) (List.getElem?_eq_getElem hj)
    obtain ⟨u2, e2, r2⟩ := rb.get (x := xs[j]) (List.getElem?_eq_getElem hj)
    have p1 : ua.toArray[j] = u1 := by
      have z : ua[j]? = some (ua.toArray[j]) := by simp
      rw [z] at e1
      exact Option.some.inj e1
    have p2 : ub.toArray[j] = u2 := by
      have z : ub[j]? = some (ub.toArray[j]) := by simp
      rw [z] at e2
      exact Option.some.inj e2
    rw [p1, p2]
    exact same_at (List.all_eq_true.mp hpl _ (List.getElem_mem hj)) r1 r2
  · show Value.bool _ = Value.bool true
    congr 1
    exact List.all_eq_true.mpr fun _ _ => rfl
end Own

namespace Own
open PySem PySem.Spec PyProof.Rows L2 Evl L2H
/-! ### defs that may raise, the error's context being told to be None -/
structure FnN (P : Program) (w : World) (K : PySem.W.Frag) (mg : Str → Option Value) (base : Heap) (k : Nat) (f : Addr) (fd : FuncData) (ps : List Str) (sp : Sp) : Prop where
  len : ∀ vs H Z EE, sp vs H Z EE → vs.length = ps.length
  run : ∀ (A : Around) (outer : List Env) (s : Shared) (H : Hp) (args : Args) (us : List Value) (vs : List V) (Z : VK) (EE : XK), Room k A → A.guards = some [] → Env0 P w K mg base A outer s H → BindsTo s fd args (ps.zip us) → Vals vs us → sp vs H Z EE →
    codeAny (model P w) A (.call (.ref f) args) (CR (L2N.CX P w) outer P w H s Z EE) s
structure CalN (P : Program) (w : World) (K : PySem.W.Frag) (mg : Str → Option Value) (base : Heap) (k : Nat) (x : Str) (sp : Sp) : Prop where
  ex : ∃ (f : Addr) (fd : FuncData) (ps : List Str), FnN P w K mg base k f fd ps sp ∧ mg x = some (.ref f) ∧ PySem.W.keepIn K (.ref f) = true ∧ Binds K fd ps []
section
variable {P : Program} {w : World} {K : PySem.W.Frag} {mg : Str → Option Value} {base : Heap}
theorem fn_mkN {x q : Str} {f : Addr} {fd : FuncData} {st : Stmt} {N ps : List Str} {k : Nat} {sp : Sp} (F : Fun K x q st f fd) (S : FnScope N ps (defScope st))
    (len : ∀ vs H Z EE, sp vs H Z EE → vs.length = ps.length)
    (hbody : ∀ (cdv : Value) (A : Around) (outer : List Env) (s : Shared) (H : Hp) (vs : List V) (Z : VK) (EE : XK), Room k (A.deeper (envOfC q (defScope st) s.heap.objs.size f cdv)) → (A.deeper (envOfC q (defScope st) s.heap.objs.size f cdv)).guards = some [] → sp vs H Z EE →
      ∃ t, PSs (cxOf (L2N.CX P w) P w K mg base N q (defScope st) f cdv A outer s H EE) (defBody st) t ∧ t { nx := fun _ H' => Z .non H', rt := Z } (start N vs) H) : FnN P w K mg base (k + 1) f fd ps sp := by
  obtain ⟨oc, od, kV, doc, pm, an, cdv, ct, sl, rfl, lkp, hcd⟩ := F.ex
  refine ⟨len, fun A outer s H args us vs Z EE hr hg e0 hbt r hsp => ?_⟩
  have hlen := len _ _ _ _ hsp
  have KI : K.In s.heap := e0.mod.kin.keeps fun b o e => (e0.bs b o e).1
  have nlm : s.heap.NoLimit := e0.mod.nolimit.keeps fun b o e => (e0.bs b o e).1
  have hkind : ∀ y ∈ ps.zip us, (defScope st).names.lookup y.1 = some .local ∨ ((defScope st).names.lookup y.1 = some .cell ∧ ((cellsFrom (s.heap.objs.size + 1) (defScope st).names []).lookup y.1).isSome = true) := fun ⟨n, v⟩ hyy => by
    rcases S.par n (List.of_mem_zip hyy).1 with qq | qq
    · exact .inl qq
    · exact .inr ⟨qq, PySem.W.cellsFrom_some _ _ _ (.inl qq)⟩
  refine codeAny_call_function hr.depth (KI _ _ lkp) rfl S.co S.gen rfl (PySem.W.codeRec_of KI hcd) (hbt _ _ _ _ ?_)
  refine wpAny_newFunctionEnv_cells S.kind hkind fun env hes st1 xx => ?_
  subst hes
  refine ⟨nlm.keeps xx.toInCall.keep, codeAny_func ?_⟩
  obtain ⟨t, ht, hsq⟩ := hbody cdv A outer s H vs Z EE (hr.deeper _) hg hsp
  have I : Inv (cxOf (L2N.CX P w) P w K mg base N q (defScope st) f cdv A outer s H EE) [] (start N vs) H st1 := inv_start S hr.hd e0 hlen r xx
  refine wpAny_mono (ht.run [] st1 (start N vs) H _ I hsq) (fun fl s' hst => ?_) fun e s' hst => hst
  have ready : ∀ {τ' : L2.St} {H' : Hp} {v : V} {u : Value}, Inv (cxOf (L2N.CX P w) P w K mg base N q (defScope st) f cdv A outer s H EE) [] τ' H' s' → RelV v u → Z v H' → CE outer P w H s Z u s' :=
    fun {τ' H' v u} J rv qq => ⟨v, H', J.os, J.bare, J.base, J.hok, rv, qq⟩
  cases fl with
  | ret u =>
    obtain ⟨v, τ', H', J, rv, qq⟩ := hst
    exact ready J rv qq
  | next =>
    obtain ⟨τ', H', J, qq⟩ := hst
    exact ready (v := V.non) (u := Value.none) J rfl qq
  | brk =>
    obtain ⟨_, _, _, qq⟩ := hst
    exact False.elim qq
  | cont =>
    obtain ⟨_, _, _, qq⟩ := hst
    exact False.elim qq
theorem cal_mkN {x : Str} {st : Stmt} {N ps : List Str} {k : Nat} {sp : Sp} (D : Df K mg x st) (S : FnScope N ps (defScope st))
    (hbd : ∀ (kV doc pm : Value) (an : Option Addr) (cdv ct : Value) (us : List Value), us.length = ps.length → bindArgs (PySem.W.fnOf x x (defArgs st) (defBody st) (defScope st) .none kV doc pm an cdv ct) ⟨us, []⟩ = pure (ps.zip us))
    (len : ∀ vs H Z EE, sp vs H Z EE → vs.length = ps.length)
    (hbody : ∀ (f : Addr) (cdv : Value) (A : Around) (outer : List Env) (s : Shared) (H : Hp) (vs : List V) (Z : VK) (EE : XK), Room k (A.deeper (envOfC x (defScope st) s.heap.objs.size f cdv)) → (A.deeper (envOfC x (defScope st) s.heap.objs.size f cdv)).guards = some [] → sp vs H Z EE →
      ∃ t, PSs (cxOf (L2N.CX P w) P w K mg base N x (defScope st) f cdv A outer s H EE) (defBody st) t ∧ t { nx := fun _ H' => Z .non H', rt := Z } (start N vs) H) : CalN P w K mg base (k + 1) x sp := by
  obtain ⟨f, fd, hmg, F⟩ := D.ex
  exact ⟨f, fd, ps, fn_mkN F S len (hbody f), hmg, F.kp, F.binds hbd⟩
theorem cal_mkP {x : Str} {st : Stmt} {N ps : List Str} {k : Nat} {sp : SpP} (D : Df K mg x st) (S : FnScope N ps (defScope st))
    (hbd : ∀ (kV doc pm : Value) (an : Option Addr) (cdv ct : Value) (us : List Value), us.length = ps.length → bindArgs (PySem.W.fnOf x x (defArgs st) (defBody st) (defScope st) .none kV doc pm an cdv ct) ⟨us, []⟩ = pure (ps.zip us))
    (len : ∀ ob vs H Z EE, sp ob vs H Z EE → vs.length = ps.length)
    (hbody : ∀ (f : Addr) (cdv : Value) (A : Around) (outer : List Env) (s : Shared) (H : Hp) (vs : List V) (Z : VK) (EE : XK) (ob : Addr × Obj), Hot1 A ob → RoomH k (A.deeper (envOfC x (defScope st) s.heap.objs.size f cdv)) → sp ob vs H Z EE →
      ∃ t, PSs (cxH CX0 P w K mg base N x (defScope st) f cdv A outer s H EE ob) (defBody st) t ∧ t { nx := fun _ H' => Z .non H', rt := Z } (start N vs) H) : CalP P w K mg base (k + 1) x sp := by
  obtain ⟨f, fd, hmg, F⟩ := D.ex
  exact ⟨f, fd, ps, fn_mkP F S len (hbody f), hmg, F.kp, F.binds hbd⟩
end
section
variable {X : Cx} {pk : List (Addr × Obj)} {τ : L2.St} {H : Hp} {s : Shared} {k j : Nat} {sp : Sp} {f C : Addr} {fd : FuncData} {ps : List Str} {Z : VK} {us : List Value} {vs : List V} {x m : Str} {p pos apos : Pos} {e o : Expr} {es : List Expr} {t : TA} {ta : TE} {E : L2.St → XK}
theorem run_fnN (F : FnN X.prog X.w X.K X.mg X.base k f fd ps sp) (hr : Room k X.A) (hg : X.A.guards = some []) (hbd : Binds X.K fd ps []) (hx : PassesAt (L2N.CX X.prog X.w) X τ (E τ))
    (I : Inv X pk τ H s) (r : Vals vs us) (h : sp vs H Z (E τ)) : wpAny (model X.prog X.w) X.A (call (.ref f) us) (EP X pk τ Z) X.xe s := by
  have hlen : us.length = ps.length := by rw [← r.length]; exact F.len _ _ _ _ h
  refine wpAny_call (codeAny_mono (F.run X.A X.stack s H ⟨us, []⟩ us vs Z (E τ) hr hg I.env0 (by have q := hbd s us I.kIn (by rw [List.append_nil]; exact hlen); rw [List.append_nil] at q; exact q) r h) fun r s' hsq => ?_)
  cases r with
  | error e => exact hx pk H s e s' I hsq
  | ok fl =>
    cases fl with
    | ret u => exact I.after hsq
    | next => exact False.elim hsq
    | brk => exact False.elim hsq
    | cont => exact False.elim hsq
theorem pe_cN (c : CalN X.prog X.w X.K X.mg X.base k x sp) (hr : Room j X.A) (hg0 : X.A.guards = some []) (hkp : k ≤ j) (hx : ∀ σ, PassesAt (L2N.CX X.prog X.w) X σ (E σ)) (hg : Gl X x) (ha : PA X (e :: es) t)
    (hdb : (x == ("__debug__" : Str)) = false := by decide) (hes : starEach (e :: es) X.env = (false, eval e X.env) :: starEach es X.env := by rfl) (hpl : (backTo pos (starEach es X.env)).any (·.1) = false := by rfl) :
    PE X (.Call (.Name x p) (e :: es) [] pos) (tCallS sp E t) := by
  obtain ⟨f, fd, ps, F, hmg, kp, b⟩ := c.ex
  refine ⟨fun pk s τ H Z I h => ?_⟩
  refine wpAny_Call_Name_kw (ld_glob I hg hmg ?_ hdb)
  refine PySem.W.callWith_K (h₀ := X.base) I.ok.mod.kin kp (thn (ha.run pos pk s τ H _ I h) fun us st1 ⟨vs, H1, I1, r, q⟩ => ⟨I1.kIn, ?_⟩) hes hpl
  exact run_fnN F (hr.mono hkp) hg0 b (hx τ) I1 r q
end
/-! ### errors made -/
section
variable {X : Cx} {x : Str} {C : Addr} {p pos : Pos}
theorem pmk_oexN {CX : CXT} {e : Expr} {es : List Expr} {ta : TA} {fi : Addr} {k : Nat} {fd : FuncData} {ps : List Str} {sp : Sp} (T : OexC X.K C) (iC : PySem.W.findIn X.K (.ref C) "__init__" = some (some (.ref fi))) (tI : PySem.W.typeIn X.K (.ref fi) = some (.type "function"))
    (F1 : FnOk X.prog X.w X.K X.mg X.base CX k fi fd ps sp) (hr : Room (k + 1) X.A) (hb : Binds X.K fd ps []) (hx : Passes CX X (fun _ _ _ => False)) (hg : Gl X x) (hm : X.mg x = some (.ref C)) (ha : PA X (e :: es) ta)
    (hdb : (x == ("__debug__" : Str)) = false := by decide) (hes : starEach (e :: es) X.env = (false, eval e X.env) :: starEach es X.env := by rfl) (hpl : (backTo pos (starEach es X.env)).any (·.1) = false := by rfl) :
    L2N.PMk X (.Call (.Name x p) (e :: es) [] pos) (tMkO C sp [] ta) := by
  intro pk s τ H Q I h
  obtain ⟨_, _, _, _, tl, _, _, _, _, _, _, _, _, _, _, lC, hbm⟩ := T.cls
  refine wpAny_Call_Name_kw (ld_glob I hg hm ?_ hdb)
  refine PySem.W.callWith_K (h₀ := X.base) I.ok.mod.kin T.kC (thn (ha.run pos pk s τ H _ I h) fun us sA ⟨vs, HA, IA, rA, hz, qA⟩ => ⟨IA.kIn, ?_⟩) hes hpl
  show wpAny _ _ (call (.ref C) us) _ _ _
  obtain ⟨hA, gA, dA, tA, oA⟩ := sA
  generalize hn0 : hA.objs.size = n0
  have hle : hA.objs.size ≤ n0 + 1 := by rw [hn0]; exact Nat.le_succ _
  have hfr : HA (n0 + 1) = none := IA.hok.fresh hle
  have qB := qA (n0 + 1) hfr
  rw [List.append_nil] at qB
  generalize hhB : (hA.push (PySem.W.kdv_tup us)).push (PySem.HandSPX.excO C n0) = hB
  have kB : ∀ b o, hA.get? b = some o → hB.get? b = some o := fun b o z => by rw [← hhB]; exact Heap.get?_push_of_some _ (Heap.get?_push_of_some _ z)
  have gB : hB.get? (n0 + 1) = some (PySem.HandSPX.excO C n0) := by
    rw [← hhB, ← hn0]
    heap_get
  have IB : Inv X pk τ (upd HA (n0 + 1) (exo (n0 + 1) C none)) ⟨hB, gA, dA, tA, oA⟩ := IA.laid (t' := tA) (a := n0 + 1) (o := exo (n0 + 1) C none) (h' := hB) kB hle (exo_ok gB)
  have rB : Vals (V.ref (n0 + 1) :: vs) (Value.ref (n0 + 1) :: us) := .cons rfl rA
  have hlen : (Value.ref (n0 + 1) :: us ++ []).length = ps.length := by
    have z := rB.length
    rw [F1.len _ _ _ _ qB] at z
    rw [List.append_nil]
    exact z.symm
  have hus : us.length ≤ sizeLine := by
    rw [← Paired.length rA, sizeLine_eq]
    omega
  have bB := hb _ (Value.ref (n0 + 1) :: us) IB.kIn hlen
  rw [List.append_nil] at bB
  have run := F1.run (X.A.under (.builtin "type.__call__" ⟨.ref C :: us, []⟩)) X.stack _ _ ⟨Value.ref (n0 + 1) :: us, []⟩ (Value.ref (n0 + 1) :: us) _ _ (fun _ _ _ => False) (hr.make C us []) (IB.env0.make C us []) bB rB qB
  subst hn0 hhB
  refine wpAny_call (PySem.HandSPX.call_own F.excBase_ValueError (fun Y => PySem.HandSPX.refsVE_contains Y tl hbm) (IA.kIn _ _ lC) (PySem.W.looks_findIn IA.kIn iC) (fun self => PySem.W.bind_fn IA.kIn self tI) hus (codeAny_mono run fun r s' hst => ?_))
  cases r with
  | error er => exact hx pk τ _ _ er s' IB hst
  | ok fl =>
    cases fl with
    | ret u =>
      obtain ⟨v, HC, oC, bC, uC, hokC, rv, ev, d, fs, ea, ed, hdn, qC⟩ := hst
      subst ev
      obtain ⟨hC, gC, dC, tC, oC'⟩ := s'
      obtain ⟨t0, G, J, kG, ge, hoe, na⟩ := mk_end0 (d2 := dC) (t2 := tC) IA hle kB uC hokC oC bC ea ed hdn
      exact ⟨rv, ⟨hA.objs.size + 1, _, _, ⟨G, gC, dC, tC, oC'⟩, _, .ref C, some d, rfl, J, kG, ge, hoe, ⟨rfl, rfl, fun vs hv => by cases hv; rfl⟩, rfl, rfl, na, rfl, bC, raises_own T.exC T.tyC, qC⟩⟩
    | next => exact False.elim hst
    | brk => exact False.elim hst
    | cont => exact False.elim hst
theorem pmk_own0N {bmB : List Value} {B newId initId : String} (F : ExcBaseFacts B newId initId bmB) (q : PySem.W.excIn X.K C bmB newId = true) (gC : X.mg x = some (.ref C)) (kC : PySem.W.keepIn X.K (.ref C) = true) (r : Raises X (.ref C)) (hg : Gl X x)
    (hdb : (x == ("__debug__" : Str)) = false := by decide) : L2N.PMk X (.Call (.Name x p) [] [] pos) (fun _ H Q => Q (.ref C) none H) := by
  intro pk s τ H Q I h
  refine wpAny_Call_Name_kw (ld_glob I hg gC ?_ hdb)
  refine PySem.W.callWith_K0 I.kIn kC ?_
  obtain ⟨bm, N, nm, qn, bs, hdct, sn, sub, ab, col, dd, k0, k1, k2, k3, k5, mN, hC, hN, hni, T⟩ := exc_obj I.kIn q
  refine wpAny_call_exc_subT F T hC hN hni (fun h' e hm => ?_) (Nat.zero_le _)
  exact L2N.mk_of I hm r h (I.hok.gone hm.new)
end
end Own

namespace Own
open PySem PySem.Spec PyProof.Rows L2 Evl
/-! ### sets of texts -/
/-- the set at a holds just the texts l; it can be walked -/
def SetX (P : Program) (w : World) (h : Heap) (a : Addr) (l : List Str) : Prop :=
  ∃ D : Froz.SD, h.get? a = some (Froz.sObj "set" D) ∧ Froz.TxOk P w D l ∧ l.Nodup ∧ Ris D.2.2.place.toList ∧ (w.params.followText "set-order" = true ∨ D.2.2.led = true)
theorem tail_ris {ep : Nat} {es : Array (Int × Value)} {t : SetTable} {b : Bool} (r : Ris t.place.toList) : Ris (Froz.tailTx ep es t b).2.2.place.toList := by
  unfold Froz.tailTx
  split
  · exact relayAll_ris _ _ _
  · exact r
theorem tail_led {ep : Nat} {es : Array (Int × Value)} {t : SetTable} {b : Bool} : (Froz.tailTx ep es t b).2.2.led = t.led := by
  unfold Froz.tailTx
  split
  · exact relayAll_led _ _ _
  · rfl
theorem add_ris {D : Froz.SD} {hh : Int} {v : Value} (r : Ris D.2.2.place.toList) : Ris (Froz.addTx hh v D).2.2.place.toList := by
  unfold Froz.addTx
  refine tail_ris ?_
  have z := layNew_ris D.2.2 D.1 hh v r
  split
  · exact z
  · exact z
theorem add_led {D : Froz.SD} {hh : Int} {v : Value} : (Froz.addTx hh v D).2.2.led = D.2.2.led := by
  unfold Froz.addTx
  rw [tail_led]
  have z := layNew_led D.2.2 D.1 hh v
  split
  · exact z
  · exact z
section
variable {P : Program} {w : World} {A : Around} {E : Value → Shared → Prop} {s : Shared} {h h' : Heap} {a : Addr} {l : List Str}
theorem SetX.at (R : SetX P w h a l) (k : ∀ o, h.get? a = some o → h'.get? a = some o) : SetX P w h' a l := by
  obtain ⟨D, ho, r⟩ := R
  exact ⟨D, k _ ho, r⟩
theorem SetX.fresh (ho : h.get? a = some { cls := .type "set", dict := none, data := .set #[] 0 (.fresh 0 0 (!w.params.followText "set-order")) }) : SetX P w h a [] := by
  refine ⟨(#[], 0, .fresh 0 0 (!w.params.followText "set-order")), ho, .nil rfl, .nil, List.Pairwise.nil, ?_⟩
  show _ ∨ (!w.params.followText "set-order") = true
  cases w.params.followText "set-order"
  · exact .inr rfl
  · exact .inl rfl
/-- a text is put in, if it is not there -/
theorem setX_add {k : Str} {u : Tok} {Q : Bool → Shared → Prop} (R : SetX P w s.heap a l) (room : l.length + 1 < scanBound)
    (hQ : ∀ b hp l', Heap.SameBut a s.heap hp → SetX P w hp a l' → (∀ z, z ∈ l' ↔ z ∈ l ∨ z = k) → l'.length ≤ l.length + 1 → Q b { s with heap := hp }) :
    wpAny (model P w) A (setAddHashed a (.str k u) (hashStr w k)) Q E s := by
  obtain ⟨D, ho, F, nd, r, ld⟩ := R
  by_cases hk : k ∈ l
  · obtain ⟨es, ep, t⟩ := D
    have dd : (Froz.sObj "set" (es, ep, t)).data = .set es ep t := rfl
    have ff : t.fits es.size = true := F.fit
    have fe : ElemsOf (strKind P w) es.toList := F.el
    have fs : es.size = l.length := F.sz
    have small : es.size < scanBound := by omega
    have key : (strKind P w).is k (.str k u) = true := Froz.is_str k u
    unfold setAddHashed setAddHashedIn
    refine wpAny_holding (wpAny_bind (wpAny_setState_of ho dd ff ?_))
    dsimp only
    rw [byScan_of rfl small fe]
    simp only [↓reduceIte]
    unfold setAddByScan
    refine wpAny_bind (wpAny_bind (wpAny_rule (wpAny_bind (wpAny_setScan_of (knd := strKind P w) (k := k) key ho dd ff fe ?_))))
    cases hfi : List.findIdx? (fun e => (strKind P w).is k e.2) es.toList with
    | none =>
      obtain ⟨e, he, hb⟩ := (F.mem k).mp hk
      have z := List.findIdx?_eq_none_iff.mp hfi e he
      rw [hb] at z
      cases z
    | some j =>
      dsimp only
      refine wpAny_pure (wpAny_pure ?_)
      exact hQ _ s.heap l (Heap.SameBut.refl a s.heap) ⟨(es, ep, t), ho, F, nd, r, ld⟩ (fun z => ⟨.inl, fun q => q.elim id (fun e => e ▸ hk)⟩) (Nat.le_succ _)
  · refine Froz.add_x ho F hk room (hQ true _ (k :: l) ⟨Heap.size_after_update .., fun b hb => Heap.get?_update_other _ _ (Ne.symm hb)⟩ ⟨Froz.addTx (hashStr w k) (.str k u) D, ?_, Froz.add_ok u F, List.nodup_cons.mpr ⟨hk, nd⟩, add_ris r, ld.imp id fun z => add_led.trans z⟩ (fun z => ?_) (Nat.le_refl _))
    · exact Froz.get_upd _ ho rfl
    · rw [List.mem_cons]
      exact Or.comm
theorem setX_loop {it : Addr} {fa wa : List Addr} {G : Array GenState → Array GenState → Prop} {n : Nat} {Pv : Nat → Value → Prop} {St : Nat → Shared → Prop} {R : Result → Shared → Prop}
    (W : WalksS P w A.in1 it fa wa G n Pv St) (hfa : a ∉ fa) (zs : List Str) (hn : n = zs.length) (hb : zs.length + 1 < scanBound) (hv : ∀ i v, Pv i v → ∃ z t, zs[i]? = some z ∧ v = .str z t) :
    ∀ (m i : Nat) (l : List Str) (s : Shared), n - i = m → i ≤ n → St i s → l.length ≤ i → (∀ z, z ∈ l ↔ z ∈ zs.take i) → SetX P w s.heap a l →
      (∀ s' l', Moved (a :: wa) G s s' → l'.length ≤ n → (∀ z, z ∈ l' ↔ z ∈ zs) → SetX P w s'.heap a l' → R (.ok (.ret .none)) s') →
      codeAny (model P w) A (.builtin "set.update.loop" ⟨[.ref a, .ref it], []⟩) R s := by
  have hwa : a ∉ wa := fun q => hfa (W.sub _ q)
  have more : ∀ b ∈ wa, b ∈ a :: wa := fun b q => List.mem_cons_of_mem _ q
  intro m
  induction m with
  | zero =>
    intro i l s hm hi hst hl hz hX hR
    have ei : i = n := by omega
    subst ei
    refine codeAny_builtin F.entry_set_update_loop ?_
    rw [Around.under_plainId F.plain_set_update_loop _]
    show wpAny _ A.in1 (pyNext (.ref it) >>= _) _ _ s
    refine wpAny_bind (W.done s _ _ hst fun s' mv => ?_)
    show wpAny _ A.in1 (ret Value.none) _ _ s'
    rw [List.take_of_length_le (show zs.length ≤ i by omega)] at hz
    exact wpAny_pure (hR s' l (mv.mono more) hl hz (hX.at fun o e => mv.heap a o hwa e))
  | succ m ih =>
    intro i l s hm hi hst hl hz hX hR
    have lt : i < n := by omega
    refine codeAny_builtin F.entry_set_update_loop ?_
    rw [Around.under_plainId F.plain_set_update_loop _]
    show wpAny _ A.in1 (pyNext (.ref it) >>= _) _ _ s
    refine wpAny_bind (W.item i s _ _ lt hst fun v s' pv hst' mv => ?_)
    obtain ⟨z, t, hzi, rfl⟩ := hv i v pv
    have hX' : SetX P w s'.heap a l := hX.at fun o e => mv.heap a o hwa e
    show wpAny _ A.in1 (holding [Value.str z t] (setAdd a (.str z t)) >>= _) _ _ s'
    refine wpAny_bind (wpAny_holding ?_)
    unfold setAdd
    refine wpAny_holding ?_
    refine wpAny_bind ((strKind P w).pyHash (k := z) (Froz.is_str z t) ?_)
    refine setX_add (s := { s' with toks := s'.toks + 1 }) hX' (by omega) fun b hp l' sb hX2 hz2 hl2 => ?_
    have hz3 : ∀ y, y ∈ l' ↔ y ∈ zs.take (i + 1) := fun y => by
      rw [hz2, List.take_add_one, hzi, List.mem_append, hz]
      show _ ↔ _ ∨ y ∈ [z]
      rw [List.mem_singleton]
    refine wpAny_pure ⟨plainId_quiet F.plain_set_update_loop _, ih (i + 1) l' _ (by omega) lt (W.frame _ s' _ _ hst' (Nat.le_succ _) fun b hb2 o e => ?_) (by omega) hz3 hX2 fun s2 l2 mv2 c2 z2 X2 => ?_⟩
    · rw [sb.2 b (fun q : b = a => hfa (by rw [← q]; exact hb2))]
      exact e
    · refine hR s2 l2 (Moved.trans W.gtrans ((mv.mono more).then_heap (Nat.le_succ _) fun b o hb2 e => ?_) mv2) c2 z2 X2
      rw [sb.2 b (fun q : b = a => hb2 (by rw [q]; exact List.mem_cons_self))]
      exact e
set_option maxRecDepth 100000 in
set_option maxHeartbeats 3200000 in
theorem setX_call {p : Addr} {items : Array Value} (zs : List Str) {Q : Value → Shared → Prop} (hh : A.handled = none) (hp : s.heap.IsList p items) (are : StrsAre items.toList zs) (hb : zs.length + 1 < scanBound)
    (fin : ∀ (hp' : Heap) (tk : Nat) (l : List Str), SetX P w hp' s.heap.objs.size l → l.length ≤ zs.length → (∀ z, z ∈ l ↔ z ∈ zs) → (∀ b o, s.heap.get? b = some o → hp'.get? b = some o) → Q (.ref s.heap.objs.size) { s with heap := hp', toks := tk }) :
    wpAny (model P w) A (call (.type "set") [.ref p]) Q E s := by
  have size : items.size = zs.length := by rw [← StrsAre.len_eq are, Array.length_toList]
  obtain ⟨c, tl, hmro⟩ := F.called_set.mro
  have hmade := F.called_set.made
  have hsub := F.called_set.sub
  refine wpAny_call (codeAny_of_tree ?_)
  show wpAny _ _ (callAny (.type "set") _) _ _ _
  refine wpAny_pure ⟨Code.quiet_builtin _ (by decide +kernel), codeAny_builtin F.entry_type_call ?_⟩
  rw [Around.under_plain (weight_type_call_type "set" [.ref p] []) rfl]
  have q1 := F.called_set.notType
  have q2 := F.called_set.canCreate
  have q3 := F.typeCall_set_1 (.ref p)
  repeat (any_goals (first | assumption | wp_step))
  refine codeAny_mono (code_set_led1 (.ref p) (E := E) (Q₁ := fun ob s1 => ob = .ref s.heap.objs.size ∧ s1 = { s with heap := s.heap.push { cls := .type "set", dict := none, data := .set #[] 0 (.fresh 0 0 (!w.params.followText "set-order")) } }) ⟨rfl, rfl⟩) fun r s1 hr => ?_
  cases r with
  | error e => exact hr
  | ok fl =>
    cases fl with
    | ret ob =>
      obtain ⟨rfl, rfl⟩ := hr
      have gS : (s.heap.push { cls := .type "set", dict := none, data := .set #[] 0 (.fresh 0 0 (!w.params.followText "set-order")) }).get? s.heap.objs.size = some { cls := .type "set", dict := none, data := .set #[] 0 (.fresh 0 0 (!w.params.followText "set-order")) } := Heap.get?_push_size _ rfl
      have tS : Shared.TypeIs { s with heap := s.heap.push { cls := .type "set", dict := none, data := .set #[] 0 (.fresh 0 0 (!w.params.followText "set-order")) } } (.ref s.heap.objs.size) "set" := ⟨_, gS, rfl⟩
      have q4 := F.called_set.init.lookup
      have q5 := F.called_set.init.bind (.ref s.heap.objs.size)
      repeat (any_goals (first | assumption | wp_step))
      refine codeAny_mono (codeAny_call_builtin (R := wants (fun r s2 => r = .none ∧ ∃ hp' tk l, s2 = { s with heap := hp', toks := tk } ∧ SetX P w hp' s.heap.objs.size l ∧ l.length ≤ zs.length ∧ (∀ z, z ∈ l ↔ z ∈ zs) ∧
          (∀ b o, s.heap.get? b = some o → hp'.get? b = some o)) E) F.called_set.init.plain F.entry_set_init (check_set_init_1 tS ?_)) fun r2 s2 hr2 => ?_
      · obtain ⟨⟨oc, od, oda, osl⟩, hol, hcl, nl, hdl⟩ := hp
        simp only at hcl hdl
        subst hcl hdl
        have hol' : (s.heap.push { cls := .type "set", dict := none, data := .set #[] 0 (.fresh 0 0 (!w.params.followText "set-order")) }).get? p = some { cls := .type "list", dict := od, data := .seq items nl, slots := osl } := Heap.get?_push_of_some _ hol
        have q6 := F.sub_list_set
        have q7 := F.sub_list_frozenset
        have q8 : (Value.type "list" == Value.type "dict") = false := by decide
        have hl1 : (s.heap.push { cls := .type "set", dict := none, data := .set #[] 0 (.fresh 0 0 (!w.params.followText "set-order")) }).IsList p items := ⟨_, hol', rfl, nl, rfl⟩
        unfold Builtin.«set.__init__» noKeywords Builtin.Frozenset.updateFrom
        generalize hPI : pyIter = PI
        wp_walk
        subst hPI
        refine wpAny_pyIter_list hl1 ?_
        refine wpAny_bind (wpAny_runValue ?_)
        have lt : p < s.heap.objs.size := Heap.lt_size hol
        have calm3 : A.in1.in1.in1.handled = none := by simp [hh]
        have neI : p ≠ (s.heap.push { cls := .type "set", dict := none, data := .set #[] 0 (.fresh 0 0 (!w.params.followText "set-order")) }).objs.size := by
          rw [Heap.size_push]
          exact Nat.ne_of_lt (Nat.lt_succ_of_lt lt)
        have notin : s.heap.objs.size ∉ [(s.heap.push { cls := .type "set", dict := none, data := .set #[] 0 (.fresh 0 0 (!w.params.followText "set-order")) }).objs.size, p] := by
          rw [Heap.size_push]
          simp only [List.mem_cons, List.mem_singleton, List.not_mem_nil, or_false, not_or]
          exact ⟨Nat.ne_of_lt (Nat.lt_succ_self _), Nat.ne_of_gt lt⟩
        have each : ∀ (i : Nat) (v : Value), items[i]? = some v → ∃ z t, zs[i]? = some z ∧ v = .str z t := fun i v hv => by
          have hi : i < zs.length := by rw [← size]; exact (Array.getElem?_eq_some_iff.mp hv).1
          obtain ⟨t, e⟩ := SS.strs_at are i v (by rw [Array.getElem?_toList]; exact hv)
          refine ⟨zs[i], t, List.getElem?_eq_getElem hi, ?_⟩
          rw [e, List.getD_eq_getElem?_getD, List.getElem?_eq_getElem hi]
          rfl
        refine setX_loop ((Walks.list calm3 _ p neI items).toS) notin zs size hb each (items.size - 0) 0 [] _ (by omega) (Nat.zero_le _) ⟨⟨_, Heap.get?_push_size _ rfl, rfl, rfl⟩, (hl1.push _)⟩ (Nat.le_refl _) (fun z => by simp) (SetX.fresh ?_) (fun s' l' mv c2 z2 X2 => ?_)
        · exact Heap.get?_push_of_some _ gS
        · obtain ⟨hp', g2, d2, tk, o2⟩ := s'
          have eg : g2 = s.gens := mv.gens
          have ed : d2 = s.drawn := mv.drawn
          have eo : o2 = s.os := mv.os
          subst eg ed eo
          show wpAny _ _ _ _ _ _
          refine wpAny_pure ?_
          show wpAny _ _ (ret Value.none) _ _ _
          rw [size] at c2
          refine wpAny_pure ⟨rfl, hp', tk, l', rfl, X2, c2, z2, fun b o e => ?_⟩
          have b0 : b < s.heap.objs.size := Heap.lt_size e
          have b2 : b ≠ (s.heap.push { cls := .type "set", dict := none, data := .set #[] 0 (.fresh 0 0 (!w.params.followText "set-order")) }).objs.size := by
            rw [Heap.size_push]
            exact Nat.ne_of_lt (Nat.lt_succ_of_lt b0)
          exact mv.heap b o (by simp only [List.mem_cons, List.mem_singleton, List.not_mem_nil, or_false, not_or]; exact ⟨Nat.ne_of_lt b0, b2⟩) (Heap.get?_push_of_some _ (Heap.get?_push_of_some _ e))
      · cases r2 with
        | error e => exact hr2
        | ok fl2 =>
          cases fl2 with
          | ret r =>
            obtain ⟨rfl, hp', tk, l', rfl, X2, c2, z2, kk⟩ := hr2
            repeat (any_goals (first | assumption | wp_step))
            exact fin _ _ _ X2 c2 z2 kk
          | _ => exact hr2.elim
    | _ => exact hr.elim
end
end Own

namespace Own
open PySem PySem.Spec PyProof.Rows L2 Evl
/-! ### sorted(set(texts)) -/
theorem perm_of {α : Type} [DecidableEq α] : ∀ (l ys : List α), l.Nodup → (∀ z, z ∈ l → z ∈ ys) → ys.length = l.length → ys.Perm l
  | [], ys, _, _, hl => by
    have e : ys = [] := List.eq_nil_of_length_eq_zero hl
    rw [e]
  | x :: r, ys, nd, sub, hl => by
    obtain ⟨n1, n2⟩ := List.nodup_cons.mp nd
    have hx := sub x List.mem_cons_self
    have p1 := List.perm_cons_erase hx
    have hl2 : (ys.erase x).length = r.length := by
      rw [List.length_erase_of_mem hx, hl]
      rfl
    have sub2 : ∀ z, z ∈ r → z ∈ ys.erase x := fun z hz => (List.mem_erase_of_ne (fun e : z = x => n1 (by rw [← e]; exact hz))).mpr (sub z (List.mem_cons_of_mem _ hz))
    exact p1.trans (List.Perm.cons x (perm_of r _ n2 sub2 hl2))
def leS (a b : Str) : Prop := ltCps b.cps.toList a.cps.toList = false
theorem rising_mem : ∀ (p : Str) (r : List Str), risingS p r = true → (∀ a b : Str, ∀ c, leS a b → leS b c → leS a c) → ∀ z ∈ r, leS p z
  | p, [], _, _, z, hz => by cases hz
  | p, x :: r, h, tr, z, hz => by
    have h : (!ltCps x.cps.toList p.cps.toList && risingS x r) = true := h
    rw [Bool.and_eq_true] at h
    have px : leS p x := by
      have q := h.1
      unfold leS
      cases c : ltCps x.cps.toList p.cps.toList with
      | false => rfl
      | true => rw [c] at q; cases q
    rcases List.mem_cons.mp hz with e | hz
    · rw [e]
      exact px
    · exact tr p x z px (rising_mem x r h.2 tr z hz)
theorem rising_tail : ∀ {p : Str} {r : List Str}, risingS p r = true → sortedS r = true
  | _, [], _ => rfl
  | p, x :: r, h => by
    have h : (!ltCps x.cps.toList p.cps.toList && risingS x r) = true := h
    rw [Bool.and_eq_true] at h
    exact h.2
theorem sorted_unique (tr : ∀ a b c : Str, leS a b → leS b c → leS a c) (an : ∀ a b : Str, leS a b → leS b a → a = b) : ∀ (xs ys : List Str), sortedS xs = true → sortedS ys = true → xs.Nodup → ys.Nodup → (∀ z, z ∈ xs ↔ z ∈ ys) → xs = ys
  | [], [], _, _, _, _, _ => rfl
  | [], y :: r, _, _, _, _, m => by cases (m y).mpr List.mem_cons_self
  | x :: r, [], _, _, _, _, m => by cases (m x).mp List.mem_cons_self
  | x :: r, y :: t, h1, h2, d1, d2, m => by
    have e : x = y := by
      rcases List.mem_cons.mp ((m x).mp List.mem_cons_self) with q | q
      · exact q
      · rcases List.mem_cons.mp ((m y).mpr List.mem_cons_self) with q2 | q2
        · exact q2.symm
        · exact an x y (rising_mem x r h1 tr y q2) (rising_mem y t h2 tr x q)
    subst e
    obtain ⟨a1, a2⟩ := List.nodup_cons.mp d1
    obtain ⟨b1, b2⟩ := List.nodup_cons.mp d2
    congr 1
    refine sorted_unique tr an r t (rising_tail h1) (rising_tail h2) a2 b2 fun z => ?_
    have q := m z
    rw [List.mem_cons, List.mem_cons] at q
    constructor
    · intro hz
      rcases q.mp (.inr hz) with e | h
      · exact absurd (e ▸ hz) a1
      · exact h
    · intro hz
      rcases q.mpr (.inr hz) with e | h
      · exact absurd (e ▸ hz) b1
      · exact h
/-- ys: the texts of zs, each once, ascending -/
structure Srt (zs ys : List Str) : Prop where
  so : sortedS ys = true
  nd : ys.Nodup
  me : ∀ z, z ∈ ys ↔ z ∈ zs
theorem leS_iff (a b : Str) : leS a b ↔ a.cps.toList ≤ b.cps.toList := by
  unfold leS
  rw [ltCps_eq, decide_eq_false_iff_not]
  exact Iff.rfl
theorem leS_tr (a b c : Str) (h1 : leS a b) (h2 : leS b c) : leS a c := (leS_iff a c).mpr (List.le_trans ((leS_iff a b).mp h1) ((leS_iff b c).mp h2))
theorem leS_an (a b : Str) (h1 : leS a b) (h2 : leS b a) : a = b := PyProof.Rows.ext_toList (List.le_antisymm ((leS_iff a b).mp h1) ((leS_iff b a).mp h2))
theorem Srt.one {zs zs' ys ys' : List Str} (h : Srt zs ys) (h' : Srt zs' ys') (m : ∀ z, z ∈ zs ↔ z ∈ zs') : ys = ys' := sorted_unique leS_tr leS_an ys ys' h.so h'.so h.nd h'.nd fun z => (h.me z).trans ((m z).trans (h'.me z).symm)
section
variable {P : Program} {w : World} {A : Around} {E : Value → Shared → Prop} {s : Shared} {a : Addr} {l : List Str}
theorem txt_el {D : Froz.SD} (F : Froz.TxOk P w D l) : ∀ e ∈ D.1.toList, ∃ k t, e.2 = Value.str k t := fun e he => by
  obtain ⟨⟨k, hk, _⟩, _⟩ := F.el e he
  have hk : Value.isStrOf k e.2 = true := hk
  cases hv : e.2 with
  | str x t => exact ⟨x, t, rfl⟩
  | _ => rw [hv] at hk; cases hk
theorem strs_of : ∀ (vs : List Value), (∀ v ∈ vs, ∃ k t, v = Value.str k t) → StrsAre vs (vs.map strOf)
  | [], _ => .nil
  | v :: r, h => by
    obtain ⟨k, t, e⟩ := h v List.mem_cons_self
    rw [e]
    exact .cons k t (strs_of r fun u hu => h u (List.mem_cons_of_mem _ hu))
theorem sortX {Q : Value → Shared → Prop} (R : SetX P w s.heap a l) (hh : A.handled = none) (hb : l.length < scanBound)
    (fin : ∀ s' p (out : Array Value) (c : Nat) (ys : List Str), (∀ b o, s.heap.get? b = some o → s'.heap.get? b = some o) → s'.gens = s.gens → s'.os = s.os → s.heap.objs.size ≤ p → s'.heap.get? p = some (seqObj "list" out c) → StrsAre out.toList ys → Srt l ys → ys.length = l.length → Q (.ref p) s') :
    wpAny (model P w) A (call (.builtin "sorted") [.ref a]) Q E s := by
  obtain ⟨D, ho, F, nd, r, ld⟩ := R
  obtain ⟨es, ep, t⟩ := D
  have ff : t.fits es.size = true := F.fit
  have fs : es.size = l.length := F.sz
  refine Calls.call_function_entry kind_sorted plain_sorted entry_sorted (args_sorted1 _) ?_
  unfold Builtin.«sorted»
  refine wpAny_bind (m := checkCount "sorted" 1 1 _) (wpAny_pure ?_)
  refine wpAny_bind (collect_set (A := A.in1) hh ⟨_, ho, rfl, rfl⟩ ff (show es.size < scanBound by omega) r ld fun sB vs kB szB gB oB pm => ?_)
  have lenV : vs.length = l.length := by rw [pm.length_eq, List.length_map, Array.length_toList, fs]
  have areV : StrsAre vs (vs.map strOf) := strs_of vs fun v hv => by
    obtain ⟨e, he, q⟩ := List.mem_map.mp (pm.mem_iff.mp hv)
    obtain ⟨k, tk, h1⟩ := txt_el F e he
    exact ⟨k, tk, by rw [← q]; exact h1⟩
  have memV : ∀ z, z ∈ vs.map strOf ↔ z ∈ l := fun z => by
    rw [F.mem z, List.mem_map]
    constructor
    · rintro ⟨v, hv, e⟩
      obtain ⟨x, hx, q⟩ := List.mem_map.mp (pm.mem_iff.mp hv)
      obtain ⟨k, tk, h1⟩ := txt_el F x hx
      have e2 : k = z := by
        rw [← e, ← q, h1]
        rfl
      exact ⟨x, hx, by rw [h1, e2]; exact Froz.is_str z tk⟩
    · rintro ⟨x, hx, q⟩
      obtain ⟨k, tk, h1⟩ := txt_el F x hx
      refine ⟨x.2, pm.mem_iff.mpr (List.mem_map.mpr ⟨x, hx, rfl⟩), ?_⟩
      rw [h1] at q ⊢
      exact (strKind P w).inj (.str k tk) k z (Froz.is_str k tk) q
  have permV : (vs.map strOf).Perm l := perm_of l (vs.map strOf) nd (fun z hz => (memV z).mpr hz) (by rw [List.length_map]; exact lenV)
  refine wpAny_bind (wpAny_newList ?_ (by rw [lenV, sizeLine_eq]; have : scanBound = 4096 := rfl; omega))
  have hoL : (sB.heap.push (seqObj "list" vs.toArray 0)).get? sB.heap.objs.size = some (seqObj "list" vs.toArray 0) := Heap.get?_push_size _ rfl
  refine wpAny_bind (wpAny_holding (wpAny_call_entry slot_list_sort ⟨_, hoL, rfl⟩ entry_list_sort (list_sort_treeKAny strKind_oneLt hoL areV.keysOf (fun v1 v2 rest e => keyKind_strs (by rw [← e]; exact areV)) (by rw [lenV, sizeLine_eq]; have : scanBound = 4096 := rfl; omega) fun st' hp hs => ⟨_, rfl, ?_⟩) (args_list_sort _)))
  obtain ⟨ys, y1, y2, y3⟩ := sorted_out_str areV hp hs
  obtain ⟨c, hc⟩ := sortedHeap_at (vs := vs) (out := (arrOf st').map (·.2)) hoL
  have py := y2.trans permV
  refine wpAny_pure ⟨_, rfl, fin _ sB.heap.objs.size _ c ys (fun b u e => ?_) gB oB szB hc y1 ⟨y3, py.nodup_iff.mpr nd, fun z => py.mem_iff⟩ py.length_eq⟩
  have q := kB b u e
  have lt := Heap.lt_size q
  show (sortedHeap (sB.heap.push (seqObj "list" vs.toArray 0)) sB.heap.objs.size vs _).get? b = some u
  rw [sortedHeap_old (Nat.ne_of_lt lt) (by rw [size_push']; exact Nat.lt_succ_of_lt lt)]
  exact Heap.get?_push_of_some _ q
end
/-- the set of texts at a, tracked -/
def SetXO (P : Program) (w : World) (a : Addr) (l : List Str) : HO := .ext fun h => SetX P w h a l
section
variable {X : Cx}
theorem setXO_new {w : World} {P : Program} {H : Hp} {h : Heap} {a : Addr} {l : List Str} (R : SetX P w h a l) : ObjOk P w H h a (SetXO P w a l) := by
  have ⟨D, ho, _⟩ := R
  exact ⟨R, ⟨_, ho⟩, fun _ _ p k => SetX.at p k⟩
def rSetX (K : PySem.W.Frag) (P : Program) (w : World) : List V → Hp → VK → Prop := fun vs H Q => ∃ (p : Addr) (zs : List Str), vs = [.ref p] ∧ SqL K H p (zs.map V.str) ∧ zs.length ≤ 4000 ∧
  ∀ (a : Addr) (l : List Str), l.length ≤ zs.length → (∀ z, z ∈ l ↔ z ∈ zs) → H a = none → Q (.ref a) (upd H a (SetXO P w a l))
theorem cr_setX (hc : X.calm = true) : CallR X (.type "set") (rSetX X.K X.prog X.w) := by
  intro pk s τ H vs us Q I r h
  obtain ⟨p, zs, rfl, hp, hl, q⟩ := h
  rw [Vals.ref1 r]
  obtain ⟨its, rv, pl, _⟩ := I.list hp
  refine setX_call zs (I.ok.hd hc) pl.isList (by simpa using rv.strs) (by have : scanBound = 4096 := rfl; omega) fun hp' tk l X2 c2 z2 kk => ?_
  exact ⟨.ref _, upd H s.heap.objs.size (SetXO X.prog X.w s.heap.objs.size l), I.laid (t' := tk) kk (Nat.le_refl _) (setXO_new X2), rfl, q _ l c2 z2 (I.hok.fresh (Nat.le_refl _))⟩
def rSortX (P : Program) (w : World) : List V → Hp → VK → Prop := fun vs H Q => ∃ (a : Addr) (l : List Str), vs = [.ref a] ∧ H a = some (SetXO P w a l) ∧ l.length ≤ 4000 ∧
  ∀ (p : Addr) (ys : List Str), Srt l ys → ys.length = l.length → H p = none → Q (.ref p) (upd H p (.lst (ys.map V.str)))
theorem cr_sortX (hc : X.calm = true) : CallR X (.builtin "sorted") (rSortX X.prog X.w) := by
  intro pk s τ H vs us Q I r h
  obtain ⟨a, l, rfl, ha, hl, q⟩ := h
  have R : SetX X.prog X.w s.heap a l := (I.hok a _ ha).1
  rw [Vals.ref1 r]
  refine sortX R (I.ok.hd hc) (by have : scanBound = 4096 := rfl; omega) fun s' p out c ys k g o hp hg are so len => ?_
  have hlen : (ys.map V.str).length ≤ sizeLine := by rw [List.length_map, len, sizeLine_eq]; omega
  have hn : H p = none := I.hok.fresh hp
  have J : Inv X pk τ (upd H p (.lst (ys.map V.str))) { s with heap := s'.heap, gens := s'.gens, drawn := s'.drawn, toks := s'.toks } :=
    I.call (ch := []) (Un.laid k hp hn) (I.hok.laid k hp ⟨hlen, out.toList, c, vals_of_strs are, hg⟩) (by rw [g]; exact I.bare) (fun _ z => nomatch z)
  have e : s' = { s with heap := s'.heap, gens := s'.gens, drawn := s'.drawn, toks := s'.toks } := by
    cases s'
    cases s
    cases o
    rfl
  rw [e]
  exact ⟨.ref p, _, J, rfl, q p ys so len hn⟩
end
end Own

namespace Own
open PySem PySem.Spec PyProof.Rows L2 Evl
/-! ### sum(lists, []) -/
section
variable {P : Program} {w : World} {A : Around} {E : Value → Shared → Prop} {s : Shared}
/-- the lists ys at as -/
def LsAt (h : Heap) (as : List Addr) (xs : List (List Value)) : Prop := ∀ (j : Nat) (a : Addr), as[j]? = some a → ∃ (ys : List Value) (n : Nat), xs[j]? = some ys ∧ PySem.IsL h a ys.toArray n
theorem sumL_loop {it S : Addr} {fa wa : List Addr} {G : Array GenState → Array GenState → Prop} {n : Nat} {Pv : Nat → Value → Prop} {St : Nat → Shared → Prop} {R : Result → Shared → Prop}
    (W : WalksS P w A.in1 it fa wa G n Pv St) (hSf : S ∉ fa) (as : List Addr) (xs : List (List Value)) (hn : n = as.length) (hx : as.length = xs.length) (hv : ∀ i v, Pv i v → ∃ a, as[i]? = some a ∧ v = .ref a) (hz : xs.flatten.length ≤ sizeLine) (lowA : ∀ a ∈ as, a ≠ S ∧ a ∉ wa) (hex : ∀ i s, St i s → ∀ b ∈ wa, b < s.heap.objs.size) (e0 : Addr) (bs : Nat) (hbs : ∃ b ∈ wa, bs ≤ b) :
    ∀ (m i : Nat) (s : Shared) (acc : Addr) (c k : Nat), n - i = m → i ≤ n → St i s → s.heap.get? S = some { cls := .type "list", dict := none, data := .seq #[.ref acc] c, slots := #[] } → acc ≠ S → acc ∉ wa → (acc = e0 ∨ bs ≤ acc) →
      PySem.IsL s.heap acc (xs.take i).flatten.toArray k → LsAt s.heap as xs →
      (∀ s' p c', Moved (S :: wa) G s s' → PySem.IsL s'.heap p xs.flatten.toArray c' → (p = e0 ∨ bs ≤ p) → R (.ok (.ret (.ref p))) s') →
      codeAny (model P w) A (.builtin "sum.loop" ⟨[.ref it, .ref S, rawInt 2, rawInt 0], []⟩) R s := by
  have hSw : S ∉ wa := fun q => hSf (W.sub _ q)
  have more : ∀ b ∈ wa, b ∈ S :: wa := fun b q => List.mem_cons_of_mem _ q
  intro m
  induction m with
  | zero =>
    intro i s acc c k hm hi hst hS nS nw lo hacc hls hR
    have ei : i = n := by omega
    subst ei
    refine codeAny_builtin F.entry_sum_loop ?_
    rw [Around.under_plainId F.plain_sum_loop _]
    show wpAny _ A.in1 (seqItems? (.ref S) >>= _) _ _ s
    refine wpAny_bind (wpAny_seqItems hS rfl ?_)
    show wpAny _ A.in1 (tryCatch (pyNext (.ref it)) _ >>= _) _ _ s
    refine wpAny_bind (wpAny_tryCatch (W.done s _ _ hst fun s' mv => ?_))
    rw [List.take_of_length_le (by omega)] at hacc
    exact wpAny_pure (hR s' acc k (mv.mono more) (mv.heap acc _ nw hacc) lo)
  | succ m ih =>
    intro i s acc c k hm hi hst hS nS nw lo hacc hls hR
    have lt : i < n := by omega
    refine codeAny_builtin F.entry_sum_loop ?_
    rw [Around.under_plainId F.plain_sum_loop _]
    show wpAny _ A.in1 (seqItems? (.ref S) >>= _) _ _ s
    refine wpAny_bind (wpAny_seqItems hS rfl ?_)
    show wpAny _ A.in1 (tryCatch (pyNext (.ref it)) _ >>= _) _ _ s
    refine wpAny_bind (wpAny_tryCatch (W.item i s _ _ lt hst fun v s' pv hst' mv => ?_))
    obtain ⟨a, hai, rfl⟩ := hv i v pv
    obtain ⟨a1, a2⟩ := lowA a (List.mem_of_getElem? hai)
    obtain ⟨ys, ka, hys, hla⟩ := hls i a hai
    have hS' := mv.heap S _ hSw hS
    have hacc' := mv.heap acc _ nw hacc
    have hla' := mv.heap a _ a2 hla
    have tk : (xs.take (i + 1)).flatten = (xs.take i).flatten ++ ys := by
      rw [List.take_add_one, hys, List.flatten_append]
      show _ ++ (ys ++ []) = _
      rw [List.append_nil]
    have small : (xs.take i).flatten.length + ys.length ≤ sizeLine := by
      have q : (xs.take (i + 1)).flatten.length ≤ xs.flatten.length := by
        have z := congrArg (fun l => (List.flatten l).length) (List.take_append_drop (i + 1) xs)
        have z : ((xs.take (i + 1) ++ xs.drop (i + 1)).flatten).length = xs.flatten.length := z
        rw [List.flatten_append, List.length_append] at z
        omega
      rw [tk, List.length_append] at q
      omega
    show wpAny _ A.in1 ((holding [Value.ref a] (binaryOp .Add (.ref acc) (.ref a))).attempt >>= _) _ _ _
    refine wpAny_bind (wpAny_attempt (wpAny_holding (PySem.P.add_list hacc' hla' ?_ (by rw [List.size_toArray, List.size_toArray]; exact small))))
    generalize hnew : s'.heap.objs.size = p
    generalize hh2 : s'.heap.push { cls := .type "list", data := .seq ((xs.take i).flatten.toArray ++ ys.toArray) } = h2
    have k2 : ∀ b o, s'.heap.get? b = some o → h2.get? b = some o := fun b o e => by rw [← hh2]; exact Heap.get?_push_of_some _ e
    have hp2 : PySem.IsL h2 p (xs.take (i + 1)).flatten.toArray 0 := by
      rw [← hh2, ← hnew, tk]
      have e : (xs.take i).flatten.toArray ++ ys.toArray = ((xs.take i).flatten ++ ys).toArray := by simp
      rw [e]
      exact Heap.get?_push_size _ rfl
    have hS2 := k2 _ _ hS'
    have nSp : p ≠ S := by rw [← hnew]; exact Nat.ne_of_gt (Heap.lt_size hS')
    have npw : p ∉ wa := fun q => by
      have z := hex _ _ hst' p q
      rw [hnew] at z
      exact Nat.lt_irrefl _ z
    have lop : bs ≤ p := by
      obtain ⟨b, hb, hle⟩ := hbs
      have z := hex _ _ hst' b hb
      rw [hnew] at z
      exact Nat.le_of_lt (Nat.lt_of_le_of_lt hle z)
    show wpAny _ A.in1 (updateSeq S (fun _ => #[.ref p]) >>= _) _ _ _
    refine wpAny_bind (wpAny_updateSeq hS2 rfl ?_)
    have hS3 := Heap.get?_update_self (Obj.mapSeq fun _ => #[Value.ref p]) hS2 rfl
    refine wpAny_bind (wpAny_letGo ?_)
    have oth : ∀ b o, b ≠ S → h2.get? b = some o → ((h2.update S (Obj.mapSeq fun _ => #[Value.ref p])).update S (Obj.mapSeq fun _ => #[Value.ref p])).get? b = some o := fun b o nb e => (Heap.get?_update_other _ _ (Ne.symm nb)).trans ((Heap.get?_update_other _ _ (Ne.symm nb)).trans e)
    refine wpAny_bind (wpAny_updateSeq hS3 rfl (wpAny_pure ⟨plainId_quiet F.plain_sum_loop _, ih (i + 1) _ p _ 0 (by omega) lt (W.frame _ s' _ _ hst' (Nat.le_refl _) fun b hb o e => ?_) (Heap.get?_update_self _ hS3 rfl) nSp npw (.inr lop) (oth _ _ nSp hp2) (fun j b hj => ?_) fun s2 q c' mv2 X2 lo2 => ?_⟩))
    · exact oth b o (fun q : b = S => hSf (by rw [← q]; exact hb)) (k2 b o e)
    · obtain ⟨zs, kz, h1, h3⟩ := hls j b hj
      obtain ⟨b1, b2⟩ := lowA b (List.mem_of_getElem? hj)
      exact ⟨zs, kz, h1, oth b _ b1 (k2 _ _ (mv.heap b _ b2 h3))⟩
    · refine hR s2 q c' (Moved.trans W.gtrans ((mv.mono more).then_heap (Nat.le_refl _) fun b o hb e => ?_) mv2) X2 lo2
      exact oth b o (fun q : b = S => hb (by rw [q]; exact List.mem_cons_self)) (k2 b o e)
theorem sumL_call {l e0 : Addr} {as : List Addr} {xs : List (List Value)} {Q : Value → Shared → Prop} (hh : A.handled = none) (hl : s.heap.IsList l (as.map Value.ref).toArray) (he : PySem.IsL s.heap e0 #[] 0 ∨ ∃ k, PySem.IsL s.heap e0 #[] k) (hx : as.length = xs.length) (hls : LsAt s.heap as xs) (hz : xs.flatten.length ≤ sizeLine)
    (fin : ∀ h' tk p c, (∀ b o, s.heap.get? b = some o → h'.get? b = some o) → PySem.IsL h' p xs.flatten.toArray c → (p = e0 ∨ s.heap.objs.size ≤ p) → Q (.ref p) { s with heap := h', toks := tk }) : wpAny (model P w) A (call (.builtin "sum") [.ref l, .ref e0]) Q E s := by
  obtain ⟨ke, he⟩ : ∃ k, PySem.IsL s.heap e0 #[] k := he.elim (fun z => ⟨0, z⟩) id
  refine call_function_tree F.kind_sum F.plain_sum F.entry_sum (by unfold argsOk; kernel_rfl) ?_
  unfold Builtin.«sum»
  simp only [List.length_cons, List.length_nil]
  rw [if_neg (by decide)]
  refine wpAny_bind (wpAny_of_eq (show Builtin.Builtins.bindParams "sum" ["start"] 0 ⟨[.ref e0], []⟩ = pure [some (.ref e0)] from rfl) ?_)
  obtain ⟨⟨oc, od, oda, osl⟩, hol, hcl, nl, hdl⟩ := id hl
  have lt : l < s.heap.objs.size := Heap.lt_size hol
  refine wpAny_bind (wpAny_pyIter_list hl ?_)
  generalize hB : s.heap.push { cls := .type "list_iterator", data := .fields #[.ref l, .int 0 0] } = hpB
  have kB : ∀ b o, s.heap.get? b = some o → hpB.get? b = some o := fun b o e => by rw [← hB]; exact Heap.get?_push_of_some _ e
  have heB := kB _ _ he
  have tyB : Shared.TypeIs { s with heap := hpB } (.ref e0) "list" := ⟨_, heB, rfl⟩
  refine wpAny_bind (wpAny_pure ?_)
  simp only [List.forIn_cons, List.forIn_nil]
  refine wpAny_bind (wpAny_bind (wpAny_bind (wpAny_isInstance (T := "list") (b := false) tyB F.sub_list_str ?_)))
  simp only [Bool.false_eq_true, if_false]
  refine wpAny_pure (wpAny_bind (wpAny_bind (wpAny_isInstance (T := "list") (b := false) tyB F.sub_list_bytes ?_)))
  simp only [Bool.false_eq_true, if_false]
  refine wpAny_pure (wpAny_bind (wpAny_bind (wpAny_isInstance (T := "list") (b := false) tyB (by rw [isSubtype_type]; kernel_rfl) ?_)))
  simp only [Bool.false_eq_true, if_false]
  refine wpAny_pure (wpAny_pure ?_)
  refine wpAny_bind (wpAny_newObj_type ?_)
  have hI : hpB.get? s.heap.objs.size = some { cls := .type "list_iterator", data := .fields #[.ref l, .int 0 0] } := by rw [← hB]; exact Heap.get?_push_size _ rfl
  have szB : hpB.objs.size = s.heap.objs.size + 1 := by rw [← hB]; exact Heap.size_push ..
  have calm : A.in1.handled = none := by simp [hh]
  have neI : l ≠ s.heap.objs.size := Nat.ne_of_lt lt
  have W := (Walks.list (prog := P) (w := w) calm s.heap.objs.size l neI (as.map Value.ref).toArray).toS
  have nl0 : ∀ b o, s.heap.get? b = some o → b ≠ s.heap.objs.size ∧ b ≠ hpB.objs.size := fun b o e => by
    have z := Heap.lt_size e
    rw [szB]
    exact ⟨Nat.ne_of_lt z, Nat.ne_of_lt (Nat.lt_succ_of_lt z)⟩
  have st0 := W.frame 0 { s with heap := hpB } (hpB.push { cls := .type "list", data := .seq #[Value.ref e0] }) s.toks ⟨⟨_, hI, rfl, rfl⟩, ⟨_, kB _ _ hol, hcl, nl, hdl⟩⟩ (Nat.le_refl _) fun b _ o e => Heap.get?_push_of_some _ e
  refine wpAny_pure ⟨plainId_quiet F.plain_sum_loop _, sumL_loop W (S := hpB.objs.size) ?_ as xs (by simp) hx (fun i v hv => ?_) hz (fun a ha => ?_) (fun i s2 hst b hb => ?_) e0 s.heap.objs.size ⟨_, List.mem_singleton.mpr rfl, Nat.le_refl _⟩ (as.map Value.ref).toArray.size 0 _ e0 0 ke (by omega) (Nat.zero_le _) st0 (Heap.get?_push_size _ rfl) (nl0 _ _ he).2 ?_ (.inl rfl) (Heap.get?_push_of_some _ heB) (fun j a hj => ?_) (fun s' p c' mv X2 lo2 => ?_)⟩
  · rw [szB]
    simp only [List.mem_cons, List.not_mem_nil, or_false, not_or]
    exact ⟨Nat.ne_of_gt (Nat.lt_succ_self _), Nat.ne_of_gt (Nat.lt_succ_of_lt lt)⟩
  · have hv : (as.map Value.ref).toArray[i]? = some v := hv
    rw [List.getElem?_toArray, List.getElem?_map] at hv
    cases ha : as[i]? with
    | none => rw [ha] at hv; cases hv
    | some a => rw [ha] at hv; cases hv; exact ⟨a, rfl, rfl⟩
  · obtain ⟨j, hj⟩ := List.mem_iff_getElem?.mp ha
    obtain ⟨ys, n, _, hla⟩ := hls j a hj
    obtain ⟨z1, z2⟩ := nl0 _ _ hla
    exact ⟨z2, fun q => z1 (List.mem_singleton.mp q)⟩
  · obtain ⟨⟨o, ho, _⟩, _⟩ := hst
    rw [List.mem_singleton.mp hb]
    exact Heap.lt_size ho
  · exact fun q => (nl0 _ _ he).1 (List.mem_singleton.mp q)
  · obtain ⟨ys, n, h1, h2⟩ := hls j a hj
    exact ⟨ys, n, h1, Heap.get?_push_of_some _ (kB _ _ h2)⟩
  · obtain ⟨h', g2, d2, tk, o2⟩ := s'
    have eg : g2 = s.gens := mv.gens
    have ed : d2 = s.drawn := mv.drawn
    have eo : o2 = s.os := mv.os
    subst eg ed eo
    refine fin h' tk p c' (fun b o e => mv.heap b o ?_ (Heap.get?_push_of_some _ (kB _ _ e))) X2 lo2
    obtain ⟨z1, z2⟩ := nl0 _ _ e
    simp only [List.mem_cons, List.not_mem_nil, or_false, not_or]
    exact ⟨z2, z1⟩
end
section
variable {X : Cx}
theorem ls_of {pk : List (Addr × Obj)} {τ : L2.St} {H : Hp} {s : Shared} (I : Inv X pk τ H s) : ∀ {as : List Addr} {yss : List (List V)}, Paired (fun a ys => H a = some (.lst ys)) as yss → ∃ xs : List (List Value), as.length = xs.length ∧ LsAt s.heap as xs ∧ Vals yss.flatten xs.flatten
  | _, _, .nil => ⟨[], rfl, (by intro j a h; cases h), Paired.nil⟩
  | _, _, .cons (a := a) (b := ys) h t => by
    obtain ⟨xs, e1, e2, e3⟩ := ls_of I t
    obtain ⟨_, its, n, r, _, e⟩ := I.lstM h
    refine ⟨its :: xs, by rw [List.length_cons, List.length_cons, e1], fun j b hj => ?_, r.append e3⟩
    cases j with
    | zero => cases hj; exact ⟨its, n, rfl, e⟩
    | succ j => exact e2 j b hj
theorem refs_eq : ∀ {as : List Addr} {us : List Value}, Vals (as.map V.ref) us → us = as.map Value.ref
  | [], _, h => by cases h; rfl
  | a :: r, _, h => by
    cases h with
    | cons h t =>
      cases h
      rw [refs_eq t]
      rfl
def rSumL (K : PySem.W.Frag) : List V → Hp → VK → Prop := fun vs H Q => ∃ (l e0 : Addr) (as : List Addr) (yss : List (List V)), vs = [.ref l, .ref e0] ∧ SqL K H l (as.map V.ref) ∧ H e0 = some (.lst []) ∧ Paired (fun a ys => H a = some (.lst ys)) as yss ∧ yss.flatten.length ≤ sizeLine ∧
  ∀ p H', Ex H H' → H' p = some (.lst yss.flatten) → Q (.ref p) H'
theorem cr_sumL (hc : X.calm = true) : CallR X (.builtin "sum") (rSumL X.K) := by
  intro pk s τ H vs us Q I r h
  obtain ⟨l, e0, as, yss, rfl, hl, he, hp, hz, q⟩ := h
  cases r with
  | cons r1 r2 =>
    cases r2 with
    | cons r3 r4 =>
      cases r4
      cases r1
      cases r3
      obtain ⟨its, rv, pl, _⟩ := I.list hl
      obtain ⟨_, ie, ne, re, _, ee⟩ := I.lstM he
      cases re
      obtain ⟨xs, e1, e2, e3⟩ := ls_of I hp
      rw [refs_eq rv] at pl
      have hlen := e3.length
      refine sumL_call (I.ok.hd hc) pl.isList (.inr ⟨ne, ee⟩) e1 e2 (by omega) fun h' tk p c kk X2 lo => ?_
      rcases lo with rfl | lo
      · have z := kk _ _ ee
        have X2 : h'.get? p = some { cls := .type "list", dict := none, data := .seq xs.flatten.toArray c, slots := #[] } := X2
        rw [z] at X2
        have z2 : xs.flatten = [] := by
          have q2 := Option.some.inj X2
          injection q2 with _ _ q3 _
          injection q3 with q4 _
          have q5 := congrArg Array.toList q4
          simpa using q5.symm
        have z3 : yss.flatten = [] := by
          rw [z2] at e3
          cases hy : yss.flatten with
          | nil => rfl
          | cons _ _ => rw [hy] at e3; cases e3
        refine ⟨.ref p, H, I.kept (t' := tk) kk, rfl, q p H (Ex.refl _) ?_⟩
        rw [z3]
        exact he
      · have hn : H p = none := I.hok.fresh lo
        exact ⟨.ref p, upd H p (.lst yss.flatten), I.laid (t' := tk) kk lo ⟨hz, xs.flatten, c, e3, X2⟩, rfl, q p _ (Ex.new hn) upd_same⟩
end
end Own

namespace Own
open PySem PySem.Spec PyProof.Rows L2 Evl
/-! ### len of an object with an own __len__; pairs of the very same things -/
section
variable {X : Cx} {pk : List (Addr × Obj)} {τ : L2.St} {H : Hp} {s : Shared} {k j : Nat} {sp : Sp} {f C : Addr} {fd : FuncData} {ps : List Str} {Z : VK} {us : List Value} {vs : List V}
theorem run_fnG1 (F : FnG X.prog X.w X.K X.mg X.base k f fd ps sp) (hr : Room k X.A.in1) (hg : X.A.guards = some []) (hbd : Binds X.K fd ps [])
    (I : Inv X pk τ H s) (r : Vals vs us) (h : sp vs H Z E0) : wpAny (model X.prog X.w) X.A.in1 (call (.ref f) us) (EP X pk τ Z) X.xe s := by
  have hlen : us.length = ps.length := by rw [← r.length]; exact F.len _ _ _ _ h
  have e1 : us ++ [] = us := List.append_nil us
  refine wpAny_call (codeAny_mono (F.run X.A.in1 X.stack s H ⟨us, []⟩ us vs Z E0 hr hg I.env0.in1 (by have q := hbd s us I.kIn (by rw [e1]; exact hlen); rw [e1] at q; exact q) r h) fun r s' hsq => ?_)
  cases r with
  | error e => exact (show False from hsq).elim
  | ok fl =>
    cases fl with
    | ret u => exact I.after hsq
    | next => exact False.elim hsq
    | brk => exact False.elim hsq
    | cont => exact False.elim hsq
end
def rLenO (K : PySem.W.Frag) (C : Addr) (sp : Sp) : List V → Hp → VK → Prop := fun xs H Q => ∃ (a d : Addr) (fs : List (Str × V)), xs = [.ref a] ∧ H a = some (.ins C d fs) ∧ sp [.ref a] H (fun v H' => (∃ n : Nat, v = .int n ∧ n < 1000000) ∧ Q v H') E0
theorem callLenO {X : Cx} {k j : Nat} {C : Addr} {sp : Sp} (c : MetG X.prog X.w X.K X.mg X.base k C "__len__" sp) (hr : Room j X.A) (hg0 : X.A.guards = some []) (hkp : k + 1 ≤ j) : CallR X (.builtin "len") (rLenO X.K C sp) := by
  intro pins s σ H xs us Q I r hq
  obtain ⟨f, fd, ps, F, M, b⟩ := c.ex
  obtain ⟨a, d, fs, rfl, ha, q⟩ := hq
  rw [Vals.ref1 r]
  obtain ⟨mA, J, _⟩ := ins_get I.hok ha
  obtain ⟨od, J, _⟩ := J.look
  obtain ⟨m, hF⟩ := I.fr
  have hr1 : Room k X.A.in1 := (show Room (k + 1) X.A from hr.mono hkp).in1
  refine PySem.W.len_K hF I.ok.mod.kin J M.at_ M.fn ?_
  refine wpAny_mono (run_fnG1 (us := [.ref a]) (vs := [.ref a]) F hr1 hg0 b I (.cons rfl .nil) q) (fun w s' z => ?_) (fun _ _ e => e)
  obtain ⟨z, H', I', rz, ⟨n, en, hn⟩, q'⟩ := z
  subst en
  obtain ⟨t, rfl⟩ := rz
  exact ⟨⟨by omega, by omega⟩, .int n, H', I'.tok _, ⟨_, rfl⟩, q'⟩
/-- pairs whose first are one text, whose second one thing -/
def rEqP (K : PySem.W.Frag) : R2 := fun x y H Q => ∃ (a b : Addr) (xs : List V), x = .ref a ∧ y = .ref b ∧ SqT K H a xs ∧ SqT K H b xs ∧ xs.all plV = true ∧ Q (.bl true) H
theorem op_eqP {X : Cx} (hu : X.A.units + 64 < cLine) : OpR X (compareOp .Eq) (rEqP X.K) := by
  intro pk s τ H x y v u Q I rx ry h
  obtain ⟨a, b, xs, rfl, rfl, ha, hb, hpl, q⟩ := h
  cases rx
  cases ry
  obtain ⟨ua, ra, la, _⟩ := I.tuple ha
  obtain ⟨ub, rb, lb, _⟩ := I.tuple hb
  have hsz : ua.toArray.size = ub.toArray.size := by rw [List.size_toArray, List.size_toArray, ← ra.length, ← rb.length]
  refine PySem.W.eq_tuplesT (n := 0) (e := fun _ => true) la lb (fun j h1 h2 => ?_) (by omega) ⟨.bl true, H, I, ?_, q⟩
  · have hj : j < xs.length := by rw [ra.length]; simpa using h1
    obtain ⟨u1, e1, r1⟩ := ra.get (x := xs[j]) (List.getElem?_eq_getElem hj)
    obtain ⟨u2, e2, r2⟩ := rb.get (x := xs[j]) (List.getElem?_eq_getElem hj)
    have p1 : ua.toArray[j] = u1 := by
      have z : ua[j]? = some (ua.toArray[j]) := by simp
      rw [z] at e1
      exact Option.some.inj e1
    have p2 : ub.toArray[j] = u2 := by
      have z : ub[j]? = some (ub.toArray[j]) := by simp
      rw [z] at e2
      exact Option.some.inj e2
    rw [p1, p2]
    exact same_at (List.all_eq_true.mp hpl _ (List.getElem_mem hj)) r1 r2
  · show Value.bool _ = Value.bool true
    congr 1
    rw [hsz, beq_self_eq_true, Bool.and_true]
    exact List.all_eq_true.mpr fun _ _ => rfl
def rEqX (K : PySem.W.Frag) : R2 := fun x y H Z => rEqA K x y H Z ∨ rEqP K x y H Z
theorem opEqX {X : Cx} {k : Nat} (hr : Room k X.A) : OpR X (compareOp .Eq) (rEqX X.K) := OpR.or (opEq hr) (op_eqP hr.units)
end Own

namespace Own
open PySem PySem.Spec PyProof.Rows L2 Evl
/-! ### a tuple beside a dict; x in o by an own __contains__ -/
theorem tup_no_dict (l b : Addr) (items : Array Value) (n : Nat) (dd dd2 : Option Addr) (dt : Data) (sl sl2 : Array (Option Value)) :
    Meets (Builtin.«tuple.__eq__» ⟨[.ref l, .ref b], []⟩) (fun _ R s => s.heap.get? l = some { cls := .type "tuple", dict := dd, data := .seq items n, slots := sl } ∧ s.heap.get? b = some { cls := .type "dict", dict := dd2, data := dt, slots := sl2 } ∧ R (.ok (.ret .notImplemented)) s) :=
  .of_wp fun prog w A R s h => by obtain ⟨hp, g, d, tk, os⟩ := s; obtain ⟨hl, hb, h⟩ := h; have f1 := PySem.F.sub_dict_tuple; wp_walk using PySem.AutoSeq1.wpAny_loadPart' hl, PySem.AutoSeq1.wpAny_loadPart' hb; exact ⟨_, rfl, h⟩
theorem dict_no_tup (l b : Addr) (items : Array Value) (n : Nat) (dd dd2 : Option Addr) (dt : Data) (sl sl2 : Array (Option Value)) :
    Meets (Builtin.«dict.__eq__» ⟨[.ref b, .ref l], []⟩) (fun _ R s => s.heap.get? l = some { cls := .type "tuple", dict := dd, data := .seq items n, slots := sl } ∧ s.heap.get? b = some { cls := .type "dict", dict := dd2, data := dt, slots := sl2 } ∧ R (.ok (.ret .notImplemented)) s) :=
  .of_wp fun prog w A R s h => by obtain ⟨hp, g, d, tk, os⟩ := s; obtain ⟨hl, hb, h⟩ := h; have f1 := PySem.F.sub_tuple_dict; wp_walk using PySem.AutoSeq1.wpAny_loadPart' hl, PySem.AutoSeq1.wpAny_loadPart' hb; exact ⟨_, rfl, h⟩
section
variable {A : Around} {s : Shared}
theorem rc_tup_dict {l b : Addr} {items : Array Value} (hl : s.heap.IsTuple l items) (hb : s.TypeIs (.ref b) "dict") (hu : A.units < cLine) : PySem.SeqAt.RcAt A s (.ref l) (.ref b) false ∧ l ≠ b := by
  obtain ⟨⟨cls, dd, data, sl⟩, ho, hc, n, hd⟩ := id hl
  obtain ⟨⟨cls2, dd2, data2, sl2⟩, ho2, hc2⟩ := id hb
  simp only at hc hd hc2
  subst hc hd hc2
  have hne : l ≠ b := fun e => by
    rw [e, ho2] at ho
    have z := congrArg Obj.cls (Option.some.inj ho)
    simp at z
  refine ⟨fun prog w E Q h => ?_, hne⟩
  exact (PySem.SeqAt.rc_eq_decline_or (k := false) ⟨_, ho, rfl⟩ ⟨_, ho2, rfl⟩ (by decide) PySem.F.sub_dict_tuple PySem.F.slot_tuple_eq PySem.F.slot_dict_eq_refl
    (fun _ hq => call_meets PySem.F.slot_tuple_eq ⟨_, ho, rfl⟩ PySem.F.entry_tuple_eq (PySem.F.args_tuple_eq_2 _ _) (tup_no_dict l b items n dd dd2 data2 sl sl2) ⟨ho, ho2, hq⟩)
    (fun _ hq => call_meets PySem.F.slot_dict_eq_refl ⟨_, ho2, rfl⟩ PySem.F.entry_dict_eq (PySem.F.args_dict_eq_2 _ _) (dict_no_tup l b items n dd dd2 data2 sl sl2) ⟨ho, ho2, hq⟩)
    (fun _ hq => PySem.SeqAt.wpAny_isSame_ref_other' hne ho ho2 (by simp) hq) (.inr hu) h)
theorem eq_tup_dict {l b : Addr} {items : Array Value} (hl : s.heap.IsTuple l items) (hb : s.TypeIs (.ref b) "dict") (hu : A.units < cLine) : PySem.SeqAt.EqAt A s (.ref l) (.ref b) false := .of_refs (rc_tup_dict hl hb hu).2 (rc_tup_dict hl hb hu).1
end
theorem vals_mem : ∀ {xs : List V} {us : List Value} {u : Value}, Vals xs us → u ∈ us → ∃ x ∈ xs, RelV x u
  | _, _, _, .nil, h => by cases h
  | _, _, _, .cons r rs, h => by
    rcases List.mem_cons.mp h with rfl | h
    · exact ⟨_, List.mem_cons_self, r⟩
    · obtain ⟨x, hx, rx⟩ := vals_mem rs h
      exact ⟨x, List.mem_cons_of_mem _ hx, rx⟩
/-- a dict is in no list of tuples -/
def rInN (K : PySem.W.Frag) : R2 := fun x y H Q => ∃ (b L : Addr) (kvs : List (Key × V)) (us : List V), x = .ref b ∧ H b = some (.dK kvs) ∧ y = .ref L ∧ SqL K H L us ∧ (∀ u ∈ us, ∃ t xs, u = .ref t ∧ SqT K H t xs) ∧ Q (.bl false) H
theorem op_inN {X : Cx} (hu : X.A.units + 64 < cLine) : OpR X (compareOp .In) (rInN X.K) := by
  intro pk s τ H x y v u Q I rx ry h
  obtain ⟨b, L, kvs, us, rfl, hb, rfl, hL, hus, q⟩ := h
  cases rx
  cases ry
  obtain ⟨its, r, hl, _⟩ := I.list hL
  have hd : s.TypeIs (.ref b) "dict" := by
    obtain ⟨_, _, vs, _, dd⟩ := dk_rd I.hok (.inl hb)
    exact dd.typeIs
  refine PySem.SeqAt.in_listAt (fun _ => false) hl.isList (fun y hy => ?_) ⟨.bl false, H, I, ?_, q⟩
  · have hy : y ∈ its := by simpa using hy
    obtain ⟨u, hu1, ru⟩ := vals_mem r hy
    obtain ⟨t, xs, rfl, ht⟩ := hus u hu1
    cases ru
    obtain ⟨ts, _, tp, _⟩ := I.tuple ht
    exact eq_tup_dict tp hd (by show X.A.units + 1 < cLine; omega)
  · show Value.bool _ = Value.bool false
    congr 1
    simp
/-- x in o, by o's own __contains__ -/
def rInO (K : PySem.W.Frag) (C : Addr) (sp : Sp) : R2 := fun x y H Q => ∃ (a d : Addr) (fs : List (Str × V)), y = .ref a ∧ H a = some (.ins C d fs) ∧ sp [.ref a, x] H (fun v H' => (∃ b, v = .bl b) ∧ Q v H') E0
theorem op_inO {X : Cx} {k j : Nat} {C : Addr} {sp : Sp} (c : MetG X.prog X.w X.K X.mg X.base k C "__contains__" sp) (hr : Room j X.A) (hg0 : X.A.guards = some []) (hkp : k ≤ j) : OpR X (compareOp .In) (rInO X.K C sp) := by
  intro pins s σ H x y u v Q I rx ry hq
  obtain ⟨f, fd, ps, F, M, b⟩ := c.ex
  obtain ⟨a, d, fs, rfl, ha, q⟩ := hq
  cases ry
  obtain ⟨mA, J, _⟩ := ins_get I.hok ha
  obtain ⟨od, J, _⟩ := J.look
  obtain ⟨m, hF⟩ := I.fr
  refine PySem.W.in_K hF I.ok.mod.kin J M.at_ M.fn ?_
  refine wpAny_mono (run_fnG (us := [.ref a, u]) (vs := [.ref a, x]) F (hr.mono hkp) hg0 b I (.cons rfl (.cons rx .nil)) q) (fun w s' z => ?_) (fun _ _ e => e)
  obtain ⟨z, H', I', rz, ⟨bb, eb⟩, q'⟩ := z
  subst eb
  cases rz
  exact wpAny_truthy_bool ⟨.bl bb, H', I', rfl, q'⟩
end Own

namespace Own
open PySem PySem.Spec PyProof.Rows L2 Evl
/-! ### list(text); dict comprehensions over anything -/
theorem vals_by : ∀ {xs : List V} {us : List Value}, xs.length = us.length → (∀ (i : Nat) x u, xs[i]? = some x → us[i]? = some u → RelV x u) → Vals xs us
  | [], [], _, _ => .nil
  | [], _ :: _, h, _ => by cases h
  | _ :: _, [], h, _ => by cases h
  | x :: xs, u :: us, h, f => .cons (f 0 x u rfl rfl) (vals_by (Nat.succ.inj h) fun i x u h1 h2 => f (i + 1) x u h1 h2)
def rListTx : List V → Hp → VK → Prop := fun vs H Q => ∃ z : Str, vs = [.str z] ∧ z.length ≤ 100000 ∧ ∀ l, H l = none → Q (.ref l) (upd H l (.lst ((TL.tl z).map fun c => .str (sgn c))))
theorem call_listTx {X : Cx} (hc : X.calm = true) : CallR X (.type "list") rListTx := by
  intro pk s τ H vs us Q I r h
  obtain ⟨z, rfl, hz, q⟩ := h
  cases r with
  | cons rx rr =>
    cases rr
    obtain ⟨t, rfl⟩ := rx
    have hz' : z.cps.size ≤ sizeLine := by
      rw [sizeLine_eq]
      have : z.length = z.cps.size := rfl
      omega
    refine call_list_str (I.ok.hd hc) z t (fun h' tk acc c' kp e hi => ?_) hz'
    have hl : ((TL.tl z).map fun c => V.str (sgn c)).length = acc.toList.length := by
      rw [List.length_map, show (TL.tl z).length = z.cps.size from Array.length_toList, Array.length_toList]
      exact hi.1.symm
    have rv : Vals ((TL.tl z).map fun c => V.str (sgn c)) acc.toList := vals_by hl fun i x u hx hu => by
      rw [Array.getElem?_toList] at hu
      obtain ⟨c, w, h1, rfl⟩ := hi.2 i u hu
      rw [List.getElem?_map] at hx
      have h2 : (TL.tl z)[i]? = some c := by
        show z.cps.toList[i]? = some c
        rw [Array.getElem?_toList]
        exact h1
      rw [h2] at hx
      cases hx
      exact ⟨w, rfl⟩
    refine ⟨.ref s.heap.objs.size, _, I.laid (t' := tk) kp (Nat.le_refl _) (show ObjOk X.prog X.w _ h' _ (.lst ((TL.tl z).map fun c => V.str (sgn c))) from ⟨?_, acc.toList, c', rv, e⟩), rfl, q _ (I.hok.fresh (Nat.le_refl _))⟩
    rw [hl, Array.length_toList, hi.1]
    exact hz'
def rListA (K : PySem.W.Frag) : List V → Hp → VK → Prop := fun xs H Q => (∃ p ys, xs = [.ref p] ∧ (SqL K H p ys ∨ SqT K H p ys) ∧ ∀ l, H l = none → Q (.ref l) (upd H l (.lst ys))) ∨ rListTx xs H Q
theorem call_listA {X : Cx} (hc : X.calm = true) : CallR X (.type "list") (rListA X.K) := CallR.or call_list_of (call_listTx hc)
/-- what is left of a dict comprehension behind its source -/
def DcRest (g : TG) (tt : TT) (tk tv : TE) (vs : List Nat) (σ : L2.St) (Q : VK) : It → Hp → Prop := fun J H1 => tDc (fun _ _ R => R J H1) g tt tk tv vs σ H1 Q
def tDcO (wi : TI) (g : TG) (tt : TT) (tk tv : TE) (vs : List Nat) : TE := fun σ H Q => wi σ H (DcRest g tt tk tv vs σ Q)
theorem pe_dcO {X : Cx} {e : Expr} {wi : TI} {g : TG} {tt : TT} {tk tv : TE} {vs : List Nat} (h : PE X e (tDc wi g tt tk tv vs)) : PE X e (tDcO wi g tt tk tv vs) := h
/-- each turn puts one key -/
theorem dcG {J : It} {n : Nat} {G : Hp → Prop} {Y : Nat → Hp → V → Hp → Prop} (w : Walk J n G Y) {g : TG} {tt : TT} {tk tv : TE} {vs : List Nat} {σ : L2.St} {H1 : Hp} {Q : VK} (hn : n ≤ 40000) (hG0 : G H1) (hGm : ∀ H H', Ex H H' → G H → G H') (hY : ∀ i H x H', Y i H x H' → Ex H H')
    (Pa : Nat → List (Key × V) → Prop) (p0 : Pa 0 [])
    (hs : ∀ i x H H' kvs, i < n → Ex H1 H → Y i H x H' → Pa i kvs → ∀ (N : Key → V → Hp → Prop) (N0 : Hp → Prop), (∀ k z H4, Ex H' H4 → Pa (i + 1) (putK kvs k z) → N k z H4) → (∀ H3, Ex H' H3 → Pa (i + 1) kvs → N0 H3) →
      g x (wipe σ vs) H' fun σ2 H2 => wipe σ2 vs = wipe σ vs ∧ tt σ2 H2 fun b H3 => if b = true then tk σ2 H3 fun y H4 => tv σ2 H4 fun z H5 => ∃ k, y = kV k ∧ N k z H5 else N0 H3)
    (k : ∀ D H2 kvs, H1 D = none → Ex H1 H2 → H2 D = some (.dK kvs) → kvs.length ≤ n → Pa n kvs → Q (.ref D) H2)
    (mono : ∀ (σ2 : L2.St) (H : Hp) (Q Q' : VK), (∀ v H', Q v H' → Q' v H') → tk σ2 H Q → tk σ2 H Q') (monoV : ∀ (σ2 : L2.St) (H : Hp) (Q Q' : VK), (∀ v H', Q v H' → Q' v H') → tv σ2 H Q → tv σ2 H Q')
    (monoG : ∀ x (σ2 : L2.St) (H : Hp) (Q Q' : L2.St → Hp → Prop), (∀ v H', Q v H' → Q' v H') → g x σ2 H Q → g x σ2 H Q') (monoT : ∀ (σ2 : L2.St) (H : Hp) (Q Q' : Bool → Hp → Prop), (∀ v H', Q v H' → Q' v H') → tt σ2 H Q → tt σ2 H Q') :
    DcRest g tt tk tv vs σ Q J H1 := by
  intro D hD
  refine ⟨fun i m H => m = n - i ∧ i ≤ n ∧ ∃ kvs, Ex H1 H ∧ H D = some (.dK kvs) ∧ kvs.length ≤ i ∧ Pa i kvs, ⟨n, by omega, Nat.zero_le _, [], Ex.new hD, upd_same, Nat.zero_le _, p0⟩, ?_⟩
  rintro i m H ⟨rfl, hi, kvs, e, hd, hl, hp⟩
  have hG := hGm _ _ e hG0
  by_cases hlt : i < n
  · refine .inr ⟨w.goes i H hlt hG, fun H' => i + 1 ≤ n ∧ ∃ kvs, Ex H1 H' ∧ H' D = some (.dK kvs) ∧ kvs.length ≤ i + 1 ∧ Pa (i + 1) kvs, fun H' p' => ⟨n - (i + 1), by omega, rfl, p'.1, p'.2⟩, fun x H' y => ?_⟩
    have y' := w.yields i H x H' hlt hG y
    have e' := hY _ _ _ _ y'
    have hd' := e' _ _ hd
    refine monoG _ _ _ _ _ (fun σ2 H2 h2 => ⟨h2.1, monoT _ _ _ _ (fun b H3 h3 => ?_) h2.2⟩) (hs i x H H' kvs hlt e y' hp (fun k z H5 => ∃ kvs, H5 D = some (.dK kvs) ∧ kvs.length < sizeLine ∧ i + 1 ≤ n ∧ ∃ kvs', Ex H1 (upd H5 D (.dK (putK kvs k z))) ∧ upd H5 D (.dK (putK kvs k z)) D = some (.dK kvs') ∧ kvs'.length ≤ i + 1 ∧ Pa (i + 1) kvs') (fun H3 => i + 1 ≤ n ∧ ∃ kvs, Ex H1 H3 ∧ H3 D = some (.dK kvs) ∧ kvs.length ≤ i + 1 ∧ Pa (i + 1) kvs)
      (fun k z H4 e4 p4 => ⟨kvs, e4 _ _ hd', by rw [sizeLine_eq]; omega, hlt, _, Ex.mut ((e.trans e').trans e4) hD, upd_same, Nat.le_trans (length_putK _ _ _) (by omega), p4⟩) (fun H3 e3 p3 => ⟨hlt, kvs, (e.trans e').trans e3, e3 _ _ hd', by omega, p3⟩))
    cases b with
    | false => exact h3
    | true =>
      refine mono _ _ _ _ (fun y H4 h4 => monoV _ _ _ _ (fun z H5 h5 => ?_) h4) h3
      obtain ⟨k, rfl, kvs, c1, c2, c3⟩ := h5
      exact ⟨kvs, k, rfl, c1, c2, c3⟩
  · have e2 : i = n := by omega
    subst e2
    exact .inl ⟨w.stops H hG, k D H kvs hD e hd hl hp⟩
section
variable {X : Cx}
/-- a dict comprehension given to a name on its line -/
theorem ps_setDc {i : Nat} {y : Str} {w : Pos} {kx vx tg src : Expr} {tests : List Expr} {scp : Scope} {own : List (Str × Nat)} {at1 at2 : Pos} {wi : TI} {g : TG} {tt : TT} {tk tv : TE} (calm : X.calm = true) (nd : X.N.Nodup) (hy : X.N[i]? = some y) (loc : X.env.scope.names.lookup y = some .local)
    (sw : swapsWith (.DictComp kx vx [⟨tg, src, tests, 0⟩] scp at1) (some (.Name y w)) at2.line X.env = pure true) (hi : PI X tg src wi) (ok : BlkOk X.N X.env.scope scp own)
    (hg : ∀ (s : Shared) (H : Hp) (C : Addr) (cl : List (Str × Addr)) (fp : List Addr), PG (X.blk s H scp (compEnvC scp cl C X.env) fp) tg g)
    (ht : ∀ (s : Shared) (H : Hp) (C : Addr) (cl : List (Str × Addr)) (fp : List Addr), PTs (X.blk s H scp (compEnvC scp cl C X.env) fp) tests tt)
    (hk : ∀ (s : Shared) (H : Hp) (C : Addr) (cl : List (Str × Addr)) (fp : List Addr), PE (X.blk s H scp (compEnvC scp cl C X.env) fp) kx tk)
    (hv : ∀ (s : Shared) (H : Hp) (C : Addr) (cl : List (Str × Addr)) (fp : List Addr), PE (X.blk s H scp (compEnvC scp cl C X.env) fp) vx tv) (fold : ∀ x, foldedSetIterable src X.env x = pure x := by intro _; rfl) :
    PS X (.Assign [.Name y w] (.DictComp kx vx [⟨tg, src, tests, 0⟩] scp at1) at2) (tAsg (tDc wi g tt tk tv (own.map (·.2))) (gName i)) := by
  constructor
  intro pins s σ H D I h
  rw [exec_Assign_Name_used _ _ _ _ sw]
  apply wpAny_bind; apply wpAny_standAt; apply wpAny_bind
  show wpAny _ X.A (do let _ ← comprehension (.DictComp kx vx [⟨tg, src, tests, 0⟩] scp at1) scp X.env (firstIterPos [⟨tg, src, tests, 0⟩] at1) newDict false (eval src X.env) (some (assign (.Name y w) X.env))) _ _ s
  have h : tDc wi g tt tk tv (own.map (·.2)) σ H (fun x H1 => gName i x σ H1 D.nx) := h
  apply wpAny_bind
  refine thn (dc_core (Qf := fun _ s' => SP X pins D .next s') calm nd I hi ok hg ht hk hv fold h fun Dd C s' m H' J q ns fr => ?_) fun _ s' hq => wpAny_pure (wpAny_pure hq)
  show wpAny _ _ (assign (.Name y w) X.env (.ref Dd)) _ _ _
  apply wpAny_assign_Name
  refine store_ok2 (v := V.ref Dd) J nd hy (.inl loc) rfl (fun s2 J2 ⟨a, sb, ha⟩ => ?_) (.inr loc)
  obtain ⟨f0, f1, f2, f3, f4, f5⟩ := fr
  have ne : C ≠ a := ha.elim (fun z => z ▸ f1) fun z e => f4 y a z e.symm
  exact ⟨m, ns.sameBut sb ne, fun h3 sb3 => ⟨_, H', J2.turned (t' := s2.toks) (fun b o hb e => (sb3.2 b hb).trans e) f0 f1 f3 f4 f5, q⟩⟩
theorem ps_setDcO {st : Stmt} {wi : TI} {g k : TG} {tt : TT} {tk tv : TE} {vs : List Nat} (h : PS X st (tAsg (tDc wi g tt tk tv vs) k)) : PS X st (tAsg (tDcO wi g tt tk tv vs) k) := h
theorem sw_dict {kx vx : Expr} {gs : List Comprehension} {scp : Scope} {at1 w : Pos} {y : Str} {l : Nat} {env : Env} (fn : env.scope.kind = .function) (loc : env.scope.names.lookup y = some .local) (line : (w.line == at1.line) = true)
    (other : (scp.names.any fun (n, k) => n == y && (k == .local || k == .cell)) = false) : swapsWith (.DictComp kx vx gs scp at1) (some (.Name y w)) l env = pure true := by
  have k1 : env.kindOf y = some .local := loc
  have k2 : env.blockKind = .function := by unfold Env.blockKind; rw [fn]; rfl
  unfold swapsWith
  simp only [k2, k1, other, Expr.pos, line]
  rfl
end
/-- a text twice -/
def rMul2 : R2 := fun x y H Q => ∃ z : Str, x = .str z ∧ y = .int 2 ∧ z.length ≤ 100000 ∧ Q (.str (z ++ z)) H
theorem op_mul2 {X : Cx} : OpR X (binaryOp .Mult) rMul2 := by
  intro pk s τ H x y v u Q I rx ry h
  obtain ⟨z, rfl, rfl, hl, q⟩ := h
  obtain ⟨t, rfl⟩ := rx
  obtain ⟨t', rfl⟩ := ry
  refine PySem.P.mul_str (by decide) (fun _ h => ?_) (fun _ _ => ?_) ?_
  · rw [show (2 ^ 63 - 1 : Int) / 2 = 4611686018427387903 from by decide]
    omega
  · show decide (z.length * 2 > sizeLine) = false
    refine decide_eq_false ?_
    rw [sizeLine_eq]
    omega
  · rw [if_neg (by decide)]
    by_cases h0 : z.length = 0
    · have e : z ++ z = z := cs_ext (by
        have : cs z = [] := List.eq_nil_of_length_eq_zero (by rw [← cs_len]; exact h0)
        rw [cs_add, this]
        rfl)
      rw [e] at q
      rw [h0, if_pos (by rfl)]
      exact ⟨.str _, H, I, ⟨_, rfl⟩, q⟩
    · rw [if_neg (by
        rw [beq_eq_false_iff_ne.mpr h0]
        decide)]
      have e : (⟨(List.replicate (2 : Int).toNat z.cps).foldl (· ++ ·) #[]⟩ : Str) = z ++ z := cs_ext (by
        rw [cs_add]
        show ((#[] ++ z.cps) ++ z.cps : Array Nat).toList = z.cps.toList ++ z.cps.toList
        simp)
      rw [e]
      refine ⟨?_, .str _, H, I.tok _, ⟨_, rfl⟩, q⟩
      rw [cs_len, cs_add, List.length_append, ← cs_len, sizeLine_eq]
      omega
end Own

namespace Own
open PySem PySem.Spec PyProof.Rows L2 Evl
/-! ### a lambda handed to a def, where no container is being shown -/
/-- the lambda's body; what it raises has no context -/
abbrev lamC (X : Cx) (A : Around) (outer : List Env) (s : Shared) (H : Hp) (E : XK) (sc : Scope) (f c : Addr) : Cx :=
  (LamX.lamCx X A outer s H E sc f c).tr [] fun e s' => wpAny (model X.prog X.w) (A.deeper (LamX.lamEnv X sc s.heap.objs.size f c)) (leaving (LamX.lamEnv X sc s.heap.objs.size f c) e) (fun _ t => L2N.CX X.prog X.w outer H s E e t) (fun e' t => L2N.CX X.prog X.w outer H s E e' t) s'
section
variable {X : Cx} {pk : List (Addr × Obj)} {τ : L2.St} {H : Hp} {s : Shared}
/-- the frame of the def that got it -/
abbrev gotC (X : Cx) (N : List Str) (q : Str) (sc : Scope) (g : Addr) (cdg : Value) (s : Shared) (H : Hp) : Cx := cxOf CX0 X.prog X.w X.K X.mg X.base N q sc g cdg X.A X.stack s H E0
theorem pe_actG {N : List Str} {q : Str} {sg lsc : Scope} {g f c : Addr} {cdg pm ctv : Value} {params : Arguments} {body : Expr} {k i : Nat} {a : Str} {pn : List (Addr × Obj)} {xe : Value → Shared → Prop} {W : WX} {E : XK} {tb : TE} {p1 p2 : Pos}
    (I : Inv X pk τ H s) (L : LamX.LamS X.env.scope lsc) (at_ : s.heap.get? f = some (PySem.W.kla_obj "<lambda>" (X.env.qual ++ "<lambda>") params body lsc (cloFrom X.env.cells lsc.names []) pm c ctv)) (nf : H f = none) (nfr : f ∉ frs X.stack)
    (bnd : bindArgs (PySem.W.kla_fn "<lambda>" (X.env.qual ++ "<lambda>") params body lsc (cloFrom X.env.cells lsc.names []) pm (.ref c) ctv) ⟨[], []⟩ = pure [])
    (tk : L2N.Takes ((gotC X N q sg g cdg s H).tr pn xe) W) (le : ∀ cls d σ' H', E cls d H' → W cls d σ' H') (hr : Room (k + 1) (X.A.deeper (envOfC q sg s.heap.objs.size g cdg))) (hG : X.A.guards = some [])
    (hbody : ∀ (A : Around) (outer : List Env) (t : Shared) (G : Hp), Room k (A.deeper (LamX.lamEnv X lsc t.heap.objs.size f c)) → A.guards = some [] → PE (lamC X A outer t G E lsc f c) body tb)
    (hN : N[i]? = some a) (vis : Vis sg a) (d1 : (a == ("__debug__" : Str)) = false := by decide) (d2 : (a == ("__classdict__" : Str)) = false := by decide) :
    PE ((gotC X N q sg g cdg s H).tr pn xe) (.Call (.Name a p1) [] [] p2) (fun σZ HZ Q => σZ[i]? = some (some (.ref f)) ∧ HZ c = some (LamX.CodeO c (X.env.qual ++ "<lambda>")) ∧ tb τ HZ Q) := by
  constructor
  rintro pkZ sZ σZ HZ Q IZ ⟨hs, hc, ht⟩
  refine wpAny_Call_Name_kw (thn ((pe_var (pos := p1) (i := i) hN vis d1 d2).run pkZ sZ σZ HZ (fun v H1 => v = .ref f ∧ H1 = HZ) IZ ⟨.ref f, hs, rfl, rfl⟩) fun u t ⟨v, H1, I1, r1, ev, eH⟩ => ?_)
  subst ev eH
  obtain rfl : u = Value.ref f := r1
  have here := I1.base.keep f _ at_ nf nfr fun z => nomatch (show f ∈ ([] : List Addr) from z)
  refine PySem.W.callWith_F0 ⟨_, _, _, _, here⟩ ?_
  obtain ⟨⟨oc, vs, tkn, hoc, hdc, hvc⟩, _, _⟩ := I1.hok c _ hc
  have run : codeAny (model X.prog X.w) (X.A.deeper (envOfC q sg s.heap.objs.size g cdg)) (.call (.ref f) ⟨[], []⟩) (CR (L2N.CX X.prog X.w) (envOfC q sg s.heap.objs.size g cdg :: X.stack) X.prog X.w H1 t Q E) t := by
    refine PySem.W.kla_callFunE hr.depth here rfl L.co L.gen rfl ⟨c, oc, vs, tkn, rfl, hoc, hdc, hvc⟩ ?_
    rw [bnd]
    refine wpAny_pure (wpAny_newFunctionEnv (fun y hy => (L.own y hy).2) (fun y hy => absurd hy (by simp)) (fun h1 hns sb => ⟨I1.nolimit.fresh _ sb, ?_⟩) L.kind)
    show codeAny _ _ (.expr body (LamX.lamEnv X lsc t.heap.objs.size f c)) _ _
    have J := LamX.lam_start2 (A := X.A.deeper (envOfC q sg s.heap.objs.size g cdg)) (outer := envOfC q sg s.heap.objs.size g cdg :: X.stack) (E := E) (f := f) (c' := c) (tk := t.toks + ([] : List (Str × Value)).length) I L I1.env0 hr.hd I1.base hns fun b o e => sb.extBut b o (Nat.ne_of_lt (Heap.lt_size e)) (Heap.get?_push_of_some _ e)
    have J2 := J.toTry fun e s' => wpAny (model X.prog X.w) ((X.A.deeper (envOfC q sg s.heap.objs.size g cdg)).deeper (LamX.lamEnv X lsc t.heap.objs.size f c)) (leaving (LamX.lamEnv X lsc t.heap.objs.size f c) e) (fun _ t' => L2N.CX X.prog X.w (envOfC q sg s.heap.objs.size g cdg :: X.stack) H1 t E e t') (fun e' t' => L2N.CX X.prog X.w (envOfC q sg s.heap.objs.size g cdg :: X.stack) H1 t E e' t') s'
    refine PySem.W.kla_codeExpr (wpAny_mono ((hbody _ _ t H1 (hr.deeper _) hG).run [] _ _ H1 Q J2 ht) (fun v s' hq => ?_) fun e s' hq => hq)
    obtain ⟨w', H', J', rv, qq⟩ := hq
    exact ⟨w', H', J'.os, J'.bare, J'.base, J'.hok, rv, qq⟩
  have hx := L2N.passes_call tk le
  refine wpAny_call (codeAny_mono run fun r s' hq => ?_)
  cases r with
  | error e => exact hx pkZ σZ H1 t e s' I1 hq
  | ok fl =>
    cases fl with
    | ret u => exact I1.after hq
    | next => exact False.elim hq
    | brk => exact False.elim hq
    | cont => exact False.elim hq
/-- a def that calls what it is given: TT is what it makes of that -/
structure GivesG (P : Program) (w : World) (K : PySem.W.Frag) (mg : Str → Option Value) (base : Heap) (k : Nat) (N : List Str) (x : Str) (sg : Scope) (g : Addr) (cdg : Value) (bg : List Stmt) (a q : Str) (TT : (XK → Hp → VK → Prop) → Hp → VK → Prop) : Prop where
  run : ∀ (A : Around) (outer : List Env) (f c : Addr) (s : Shared) (H : Hp) (Q : VK) (tl : XK → Hp → VK → Prop), Room k (A.deeper (envOfC x sg s.heap.objs.size g cdg)) → A.guards = some [] →
    (∀ (W : WX) (pn : List (Addr × Obj)) (xe : Value → Shared → Prop) (E : XK) (p1 p2 : Pos), L2N.Takes ((cxOf CX0 P w K mg base N x sg g cdg A outer s H E0).tr pn xe) W → (∀ cls d σ' H', E cls d H' → W cls d σ' H') →
      PE ((cxOf CX0 P w K mg base N x sg g cdg A outer s H E0).tr pn xe) (.Call (.Name a p1) [] [] p2) (fun σZ HZ Q => σZ[0]? = some (some (.ref f)) ∧ HZ c = some (LamX.CodeO c q) ∧ tl E HZ Q)) →
    H c = some (LamX.CodeO c q) → TT tl H Q →
    ∃ t, PSs (cxOf CX0 P w K mg base N x sg g cdg A outer s H E0).nox bg t ∧ t { nx := fun _ H' => Q .non H', rt := Q } (L2.start N [.ref f]) H
/-- x(lambda: body) -/
theorem pe_lamG {T : List (Addr × Str)} {TT : (XK → Hp → VK → Prop) → Hp → VK → Prop} {x a : Str} {g c P : Addr} {k : Nat} {pg : Arguments} {bg : List Stmt} {sg : Scope} {dV kV doc pm cdv ct oc : Value} {an od : Option Addr} {osl : Array (Option Value)} {N : List Str}
    {params : Arguments} {body : Expr} {lsc : Scope} {t : XK → TE} {p lpos pos : Pos} (hg : Gl X x) (hm : X.mg x = some (.ref g)) (hk : PySem.W.keepIn X.K (.ref g) = true)
    (lk : X.K.lookup g = some ⟨oc, od, .func (PySem.W.fnOf x x pg bg sg dV kV doc pm an cdv ct), osl⟩) (hcg : PySem.W.codeIn X.K cdv x = true) (hb : Binds X.K (PySem.W.fnOf x x pg bg sg dV kV doc pm an cdv ct) [a] []) (Sg : FnScope N [a] sg) (hN : N[0]? = some a) (va : Vis sg a)
    (give : GivesG X.prog X.w X.K X.mg X.base (k + 1) N x sg g cdv bg a (X.env.qual ++ "<lambda>") TT) (TB : LamX.TabB X.base X.mg c P) (hcode : X.env.code = .ref c) (inT : (P, X.env.qual ++ "<lambda>") ∈ T) (one : ∀ z ∈ T, z.1 = P → z.2 = X.env.qual ++ "<lambda>")
    (hr : Room (k + 2) X.A) (hG : X.A.guards = some []) (L : LamX.LamS X.env.scope lsc) (nodf : defaultsOf params X.env = ([], []))
    (bnd : ∀ (q : Str) (cl : List (Str × Addr)) (pm cv ctv : Value), bindArgs (PySem.W.kla_fn "<lambda>" q params body lsc cl pm cv ctv) ⟨[], []⟩ = pure [])
    (hbody : ∀ (A : Around) (outer : List Env) (s : Shared) (H : Hp) (E : XK) (f c : Addr), Room k (A.deeper (LamX.lamEnv X lsc s.heap.objs.size f c)) → A.guards = some [] → PE (lamC X A outer s H E lsc f c) body (t E))
    (d0 : (x == ("__debug__" : Str)) = false := by decide) (d1 : (a == ("__debug__" : Str)) = false := by decide) (d2 : (a == ("__classdict__" : Str)) = false := by decide) :
    PE X (.Call (.Name x p) [.Lambda params body lsc lpos] [] pos) (LamX.tLam T TT t) := by
  constructor
  rintro pk s τ H Q I ⟨hT, h⟩
  refine wpAny_Call_Name_kw (ld_glob I hg hm ?_ d0)
  refine PySem.W.callWith_K (h₀ := X.base) I.ok.mod.kin hk ?_ (by rfl) (by rfl)
  show wpAny _ _ (spliced ((false, eval (.Lambda params body lsc lpos) X.env) :: backTo pos (starEach [] X.env))) _ _ s
  refine Calls.spliced_cons (LamX.lam_make2 I TB hcode inT one hT nodf (L.has I.ok) fun f c' pm' ctv H1 t' I1 eN T1 hf hfn hfr hco => ?_)
  refine Calls.spliced_nil ⟨I1.kIn, ?_⟩
  have run : codeAny (model X.prog X.w) X.A (.call (.ref g) ⟨[.ref f], []⟩) (CR CX0 X.stack X.prog X.w H1 t' Q E0) t' := by
    refine LamX.run_ofS (N := N) (ps := [a]) (us := [.ref f]) (vs := [.ref f]) lk hcg Sg hr I1.env0 (hb t' [.ref f] I1.kIn rfl) (.cons rfl .nil) rfl fun hr' => ?_
    obtain ⟨u, hu, q⟩ := give.run X.A X.stack f c' t' H1 Q (fun E H' Q' => t E τ H' Q') hr' hG (fun W pn xe E p1 p2 tk le => pe_actG (i := 0) I1 L hf hfn hfr (bnd _ _ _ _ _) tk le hr' hG (fun A outer s H hr2 hg2 => hbody A outer s H E f c' hr2 hg2) hN va d1 d2) hco (h H1 eN T1)
    exact ⟨u, hu.nox, q⟩
  refine wpAny_call (codeAny_mono run fun r s2 hq => ?_)
  cases r with
  | error e => exact (show False from hq).elim
  | ok fl =>
    cases fl with
    | ret u => exact I1.after hq
    | next => exact False.elim hq
    | brk => exact False.elim hq
    | cont => exact False.elim hq
end
end Own

namespace Own
open PySem PySem.Spec PyProof.Rows L2 Evl
/-! ### as in Own22; what is let out is let out where the slots stand -/
section
variable {X : Cx} {pk : List (Addr × Obj)} {τ : L2.St} {H : Hp} {s : Shared}
theorem pe_actS {N : List Str} {q : Str} {sg lsc : Scope} {g f c : Addr} {cdg pm ctv : Value} {params : Arguments} {body : Expr} {k i : Nat} {a : Str} {pn : List (Addr × Obj)} {xe : Value → Shared → Prop} {W : WX} {tb : XK → TE} {p1 p2 : Pos}
    (I : Inv X pk τ H s) (L : LamX.LamS X.env.scope lsc) (at_ : s.heap.get? f = some (PySem.W.kla_obj "<lambda>" (X.env.qual ++ "<lambda>") params body lsc (cloFrom X.env.cells lsc.names []) pm c ctv)) (nf : H f = none) (nfr : f ∉ frs X.stack)
    (bnd : bindArgs (PySem.W.kla_fn "<lambda>" (X.env.qual ++ "<lambda>") params body lsc (cloFrom X.env.cells lsc.names []) pm (.ref c) ctv) ⟨[], []⟩ = pure [])
    (tk : L2N.Takes ((gotC X N q sg g cdg s H).tr pn xe) W) (hr : Room (k + 1) (X.A.deeper (envOfC q sg s.heap.objs.size g cdg))) (hG : X.A.guards = some [])
    (hbody : ∀ (A : Around) (outer : List Env) (t : Shared) (G : Hp) (E : XK), Room k (A.deeper (LamX.lamEnv X lsc t.heap.objs.size f c)) → A.guards = some [] → PE (lamC X A outer t G E lsc f c) body (tb E))
    (hN : N[i]? = some a) (vis : Vis sg a) (d1 : (a == ("__debug__" : Str)) = false := by decide) (d2 : (a == ("__classdict__" : Str)) = false := by decide) :
    PE ((gotC X N q sg g cdg s H).tr pn xe) (.Call (.Name a p1) [] [] p2) (fun σZ HZ Q => σZ[i]? = some (some (.ref f)) ∧ HZ c = some (LamX.CodeO c (X.env.qual ++ "<lambda>")) ∧ tb (WE W σZ) τ HZ Q) := by
  constructor
  rintro pkZ sZ σZ HZ Q IZ ⟨hs, hc, ht⟩
  generalize hE : WE W σZ = E at ht
  refine wpAny_Call_Name_kw (thn ((pe_var (pos := p1) (i := i) hN vis d1 d2).run pkZ sZ σZ HZ (fun v H1 => v = .ref f ∧ H1 = HZ) IZ ⟨.ref f, hs, rfl, rfl⟩) fun u t ⟨v, H1, I1, r1, ev, eH⟩ => ?_)
  subst ev eH
  obtain rfl : u = Value.ref f := r1
  have here := I1.base.keep f _ at_ nf nfr fun z => nomatch (show f ∈ ([] : List Addr) from z)
  refine PySem.W.callWith_F0 ⟨_, _, _, _, here⟩ ?_
  obtain ⟨⟨oc, vs, tkn, hoc, hdc, hvc⟩, _, _⟩ := I1.hok c _ hc
  have run : codeAny (model X.prog X.w) (X.A.deeper (envOfC q sg s.heap.objs.size g cdg)) (.call (.ref f) ⟨[], []⟩) (CR (L2N.CX X.prog X.w) (envOfC q sg s.heap.objs.size g cdg :: X.stack) X.prog X.w H1 t Q E) t := by
    refine PySem.W.kla_callFunE hr.depth here rfl L.co L.gen rfl ⟨c, oc, vs, tkn, rfl, hoc, hdc, hvc⟩ ?_
    rw [bnd]
    refine wpAny_pure (wpAny_newFunctionEnv (fun y hy => (L.own y hy).2) (fun y hy => absurd hy (by simp)) (fun h1 hns sb => ⟨I1.nolimit.fresh _ sb, ?_⟩) L.kind)
    show codeAny _ _ (.expr body (LamX.lamEnv X lsc t.heap.objs.size f c)) _ _
    have J := LamX.lam_start2 (A := X.A.deeper (envOfC q sg s.heap.objs.size g cdg)) (outer := envOfC q sg s.heap.objs.size g cdg :: X.stack) (E := E) (f := f) (c' := c) (tk := t.toks + ([] : List (Str × Value)).length) I L I1.env0 hr.hd I1.base hns fun b o e => sb.extBut b o (Nat.ne_of_lt (Heap.lt_size e)) (Heap.get?_push_of_some _ e)
    have J2 := J.toTry fun e s' => wpAny (model X.prog X.w) ((X.A.deeper (envOfC q sg s.heap.objs.size g cdg)).deeper (LamX.lamEnv X lsc t.heap.objs.size f c)) (leaving (LamX.lamEnv X lsc t.heap.objs.size f c) e) (fun _ t' => L2N.CX X.prog X.w (envOfC q sg s.heap.objs.size g cdg :: X.stack) H1 t E e t') (fun e' t' => L2N.CX X.prog X.w (envOfC q sg s.heap.objs.size g cdg :: X.stack) H1 t E e' t') s'
    refine PySem.W.kla_codeExpr (wpAny_mono ((hbody _ _ t H1 E (hr.deeper _) hG).run [] _ _ H1 Q J2 ht) (fun v s' hq => ?_) fun e s' hq => hq)
    obtain ⟨w', H', J', rv, qq⟩ := hq
    exact ⟨w', H', J'.os, J'.bare, J'.base, J'.hok, rv, qq⟩
  have hx := L2N.passAt tk σZ
  rw [hE] at hx
  refine wpAny_call (codeAny_mono run fun r s' hq => ?_)
  cases r with
  | error e => exact hx pkZ H1 t e s' I1 hq
  | ok fl =>
    cases fl with
    | ret u => exact I1.after hq
    | next => exact False.elim hq
    | brk => exact False.elim hq
    | cont => exact False.elim hq
/-- a def that calls what it is given: TT is what it makes of that -/
structure GivesS (P : Program) (w : World) (K : PySem.W.Frag) (mg : Str → Option Value) (base : Heap) (k : Nat) (N : List Str) (x : Str) (sg : Scope) (g : Addr) (cdg : Value) (bg : List Stmt) (a q : Str) (TT : (XK → Hp → VK → Prop) → Hp → VK → Prop) : Prop where
  run : ∀ (A : Around) (outer : List Env) (f c : Addr) (s : Shared) (H : Hp) (Q : VK) (tl : XK → Hp → VK → Prop), Room k (A.deeper (envOfC x sg s.heap.objs.size g cdg)) → A.guards = some [] →
    (∀ (W : WX) (pn : List (Addr × Obj)) (xe : Value → Shared → Prop) (p1 p2 : Pos), L2N.Takes ((cxOf CX0 P w K mg base N x sg g cdg A outer s H E0).tr pn xe) W →
      PE ((cxOf CX0 P w K mg base N x sg g cdg A outer s H E0).tr pn xe) (.Call (.Name a p1) [] [] p2) (fun σZ HZ Q => σZ[0]? = some (some (.ref f)) ∧ HZ c = some (LamX.CodeO c q) ∧ tl (WE W σZ) HZ Q)) →
    H c = some (LamX.CodeO c q) → TT tl H Q →
    ∃ t, PSs (cxOf CX0 P w K mg base N x sg g cdg A outer s H E0).nox bg t ∧ t { nx := fun _ H' => Q .non H', rt := Q } (L2.start N [.ref f]) H
/-- x(lambda: body) -/
theorem pe_lamS {T : List (Addr × Str)} {TT : (XK → Hp → VK → Prop) → Hp → VK → Prop} {x a : Str} {g c P : Addr} {k : Nat} {pg : Arguments} {bg : List Stmt} {sg : Scope} {dV kV doc pm cdv ct oc : Value} {an od : Option Addr} {osl : Array (Option Value)} {N : List Str}
    {params : Arguments} {body : Expr} {lsc : Scope} {t : XK → TE} {p lpos pos : Pos} (hg : Gl X x) (hm : X.mg x = some (.ref g)) (hk : PySem.W.keepIn X.K (.ref g) = true)
    (lk : X.K.lookup g = some ⟨oc, od, .func (PySem.W.fnOf x x pg bg sg dV kV doc pm an cdv ct), osl⟩) (hcg : PySem.W.codeIn X.K cdv x = true) (hb : Binds X.K (PySem.W.fnOf x x pg bg sg dV kV doc pm an cdv ct) [a] []) (Sg : FnScope N [a] sg) (hN : N[0]? = some a) (va : Vis sg a)
    (give : GivesS X.prog X.w X.K X.mg X.base (k + 1) N x sg g cdv bg a (X.env.qual ++ "<lambda>") TT) (TB : LamX.TabB X.base X.mg c P) (hcode : X.env.code = .ref c) (inT : (P, X.env.qual ++ "<lambda>") ∈ T) (one : ∀ z ∈ T, z.1 = P → z.2 = X.env.qual ++ "<lambda>")
    (hr : Room (k + 2) X.A) (hG : X.A.guards = some []) (L : LamX.LamS X.env.scope lsc) (nodf : defaultsOf params X.env = ([], []))
    (bnd : ∀ (q : Str) (cl : List (Str × Addr)) (pm cv ctv : Value), bindArgs (PySem.W.kla_fn "<lambda>" q params body lsc cl pm cv ctv) ⟨[], []⟩ = pure [])
    (hbody : ∀ (A : Around) (outer : List Env) (s : Shared) (H : Hp) (E : XK) (f c : Addr), Room k (A.deeper (LamX.lamEnv X lsc s.heap.objs.size f c)) → A.guards = some [] → PE (lamC X A outer s H E lsc f c) body (t E))
    (d0 : (x == ("__debug__" : Str)) = false := by decide) (d1 : (a == ("__debug__" : Str)) = false := by decide) (d2 : (a == ("__classdict__" : Str)) = false := by decide) :
    PE X (.Call (.Name x p) [.Lambda params body lsc lpos] [] pos) (LamX.tLam T TT t) := by
  constructor
  rintro pk s τ H Q I ⟨hT, h⟩
  refine wpAny_Call_Name_kw (ld_glob I hg hm ?_ d0)
  refine PySem.W.callWith_K (h₀ := X.base) I.ok.mod.kin hk ?_ (by rfl) (by rfl)
  show wpAny _ _ (spliced ((false, eval (.Lambda params body lsc lpos) X.env) :: backTo pos (starEach [] X.env))) _ _ s
  refine Calls.spliced_cons (LamX.lam_make2 I TB hcode inT one hT nodf (L.has I.ok) fun f c' pm' ctv H1 t' I1 eN T1 hf hfn hfr hco => ?_)
  refine Calls.spliced_nil ⟨I1.kIn, ?_⟩
  have run : codeAny (model X.prog X.w) X.A (.call (.ref g) ⟨[.ref f], []⟩) (CR CX0 X.stack X.prog X.w H1 t' Q E0) t' := by
    refine LamX.run_ofS (N := N) (ps := [a]) (us := [.ref f]) (vs := [.ref f]) lk hcg Sg hr I1.env0 (hb t' [.ref f] I1.kIn rfl) (.cons rfl .nil) rfl fun hr' => ?_
    obtain ⟨u, hu, q⟩ := give.run X.A X.stack f c' t' H1 Q (fun E H' Q' => t E τ H' Q') hr' hG (fun W pn xe p1 p2 tk => pe_actS (i := 0) I1 L hf hfn hfr (bnd _ _ _ _ _) tk hr' hG (fun A outer s H E hr2 hg2 => hbody A outer s H E f c' hr2 hg2) hN va d1 d2) hco (h H1 eN T1)
    exact ⟨u, hu.nox, q⟩
  refine wpAny_call (codeAny_mono run fun r s2 hq => ?_)
  cases r with
  | error e => exact (show False from hq).elim
  | ok fl =>
    cases fl with
    | ret u => exact I1.after hq
    | next => exact False.elim hq
    | brk => exact False.elim hq
    | cont => exact False.elim hq
end
section
variable {P : Program} {w : World} {K : PySem.W.Frag} {mg : Str → Option Value} {base : Heap}
/-- as fn_mk, for a def whose code object is known -/
theorem fn_mkC {x : Str} {cc : Value} {f : Addr} {fd : FuncData} {st : Stmt} {N ps : List Str} {k : Nat} {sp : Sp} (hcc : fd.code = cc) (F : Fun K x x st f fd) (S : FnScope N ps (defScope st))
    (len : ∀ vs H Z EE, sp vs H Z EE → vs.length = ps.length)
    (hbody : ∀ (A : Around) (outer : List Env) (s : Shared) (H : Hp) (vs : List V) (Z : VK) (EE : XK), Room k (A.deeper (envOfC x (defScope st) s.heap.objs.size f cc)) → (A.deeper (envOfC x (defScope st) s.heap.objs.size f cc)).guards = some [] → sp vs H Z EE →
      ∃ t, PSs (cxOf CX0 P w K mg base N x (defScope st) f cc A outer s H EE).nox (defBody st) t ∧ t { nx := fun _ H' => Z .non H', rt := Z } (start N vs) H) : FnG P w K mg base (k + 1) f fd ps sp := by
  obtain ⟨oc, od, kV, doc, pm, an, cdv, ct, sl, rfl, lkp, hcd⟩ := F.ex
  have hcc : cdv = cc := hcc
  subst hcc
  refine ⟨len, fun A outer s H args us vs Z EE hr hg e0 hbt r hsp => ?_⟩
  have body : ∀ (A : Around) (outer : List Env) (s : Shared) (H : Hp) (vs : List V) (Z : VK) (EE : XK), Room k (A.deeper (envOfC x (defScope st) s.heap.objs.size f cdv)) → A.guards = some [] → sp vs H Z EE →
      ∃ t, PSs (cxOf CX0 P w K mg base N x (defScope st) f cdv A outer s H EE) (defBody st) t ∧ t { nx := fun _ H' => Z .non H', rt := Z } (start N vs) H := fun A outer s H vs Z EE hr hg hsp => by
    obtain ⟨t, h, q⟩ := hbody A outer s H vs Z EE hr hg hsp
    exact ⟨t, h.nox, q⟩
  have hlen := len _ _ _ _ hsp
  have KI : K.In s.heap := e0.mod.kin.keeps fun b o e => (e0.bs b o e).1
  have nlm : s.heap.NoLimit := e0.mod.nolimit.keeps fun b o e => (e0.bs b o e).1
  have hkind : ∀ y ∈ ps.zip us, (defScope st).names.lookup y.1 = some .local ∨ ((defScope st).names.lookup y.1 = some .cell ∧ ((cellsFrom (s.heap.objs.size + 1) (defScope st).names []).lookup y.1).isSome = true) := fun ⟨n, v⟩ hyy => by
    rcases S.par n (List.of_mem_zip hyy).1 with q | q
    · exact .inl q
    · exact .inr ⟨q, PySem.W.cellsFrom_some _ _ _ (.inl q)⟩
  refine codeAny_call_function hr.depth (KI _ _ lkp) rfl S.co S.gen rfl (PySem.W.codeRec_of KI hcd) (hbt _ _ _ _ ?_)
  refine wpAny_newFunctionEnv_cells S.kind hkind fun env hes st1 xx => ?_
  subst hes
  refine ⟨nlm.keeps xx.toInCall.keep, codeAny_func ?_⟩
  obtain ⟨t, ht, hsq⟩ := body A outer s H vs Z EE (hr.deeper _) hg hsp
  have I : Inv (cxOf CX0 P w K mg base N x (defScope st) f cdv A outer s H EE) [] (start N vs) H st1 := inv_start S hr.hd e0 hlen r xx
  refine wpAny_mono (ht.run [] st1 (start N vs) H _ I hsq) (fun fl s' hst => ?_) fun e s' hst => hst
  have ready : ∀ {τ' : L2.St} {H' : Hp} {v : V} {u : Value}, Inv (cxOf CX0 P w K mg base N x (defScope st) f cdv A outer s H EE) [] τ' H' s' → RelV v u → Z v H' → CE outer P w H s Z u s' :=
    fun {τ' H' v u} J rv q => ⟨v, H', J.os, J.bare, J.base, J.hok, rv, q⟩
  cases fl with
  | ret u =>
    obtain ⟨v, τ', H', J, rv, q⟩ := hst
    exact ready J rv q
  | next =>
    obtain ⟨τ', H', J, q⟩ := hst
    exact ready (v := V.non) (u := Value.none) J rfl q
  | brk =>
    obtain ⟨_, _, _, q⟩ := hst
    exact False.elim q
  | cont =>
    obtain ⟨_, _, _, q⟩ := hst
    exact False.elim q
end
/-! ### what is kept where only the tables change -/
mutual
theorem Da.nx {H H' : Hp} (e : LamX.ExtN H H') : ∀ (d : PyData) {v : V}, Da H v d → Da H' v d
  | .none, _, h => by cases h; exact .non
  | .bool _, _, h => by cases h; exact .bl _
  | .int _, _, h => by cases h; exact .int _
  | .str _, _, h => by cases h; exact .str _
  | .list ds, _, h => by cases h with | lst h1 h2 => exact .lst (e _ _ h1 (fun ps z => by cases z)) (DaAll.nx e ds h2)
  | .tuple ds, _, h => by cases h with | tup h1 h2 => exact .tup (e _ _ h1 (fun ps z => by cases z)) (DaAll.nx e ds h2)
  | .dict _, _, h => by cases h with | dct h1 h2 => exact .dct (e _ _ h1 (fun ps z => by cases z)) h2
theorem DaAll.nx {H H' : Hp} (e : LamX.ExtN H H') : ∀ (ds : List PyData) {vs : List V}, DaAll H vs ds → DaAll H' vs ds
  | [], _, h => by cases h; exact .nil
  | d :: ds, _, h => by cases h with | cons h1 h2 => exact .cons (Da.nx e d h1) (DaAll.nx e ds h2)
end
theorem tabs_ex {T : List (Addr × Str)} {H H' : Hp} (e : Ex H H') (h : LamX.Tabs T H) : LamX.Tabs T H' := fun p hp => (h p hp).ext fun b o q => e b o q
end Own

namespace Own
open PySem PySem.Spec PyProof.Rows L2 Evl
/-! ### classes and methods that may raise, the error's context being told to be None -/
/-- a class whose instances are made by an __init__ with sp that may raise -/
structure MakN (P : Program) (w : World) (K : PySem.W.Frag) (mg : Str → Option Value) (base : Heap) (k : Nat) (x : Str) (C : Addr) (sp : Sp) : Prop where
  at_ : mg x = some (.ref C)
  ex : ∃ (f : Addr) (fd : FuncData) (ps : List Str), FnN P w K mg base k f fd ps sp ∧ Mk K C f ∧ Binds K fd ps []
/-- a method with sp that may raise -/
structure MetN (P : Program) (w : World) (K : PySem.W.Frag) (mg : Str → Option Value) (base : Heap) (k : Nat) (C : Addr) (m : Str) (sp : Sp) : Prop where
  cl : Cls K C
  ex : ∃ (f : Addr) (fd : FuncData) (ps : List Str), FnN P w K mg base k f fd ps sp ∧ Meth K C m f ∧ Binds K fd ps []
section
variable {X : Cx} {pk : List (Addr × Obj)} {τ : L2.St} {H : Hp} {s : Shared} {k j : Nat} {sp : Sp} {f C : Addr} {fd : FuncData} {ps : List Str} {Z : VK} {us : List Value} {vs : List V} {x m : Str} {p pos apos : Pos} {e o : Expr} {es : List Expr} {t : TA} {ta : TE} {E : L2.St → XK}
theorem run_mkN (M : Mk X.K C f) (F : FnN X.prog X.w X.K X.mg X.base k f fd ps sp) (hr : Room (k + 1) X.A) (hg : X.A.guards = some []) (hbd : Binds X.K fd ps []) (hx : PassesAt (L2N.CX X.prog X.w) X τ (E τ)) (I : Inv X pk τ H s) (r : Vals vs us)
    (h : ∀ y d, H y = none → H d = none → d ≠ y → sp (.ref y :: vs) (upd (upd H d (.own y)) y (.ins C d [])) (fun v H2 => v = .non ∧ Z (.ref y) H2) (E τ)) : wpAny (model X.prog X.w) X.A (call (.ref C) us) (EP X pk τ Z) X.xe s := by
  have q0 := h (s.heap.objs.size + 1) s.heap.objs.size (I.hok.fresh (Nat.le_succ _)) (I.hok.fresh (Nat.le_refl _)) (Nat.ne_of_lt (Nat.lt_succ_self _))
  have J := Inv.made (C := C) I
  have rr : Vals (V.ref (s.heap.objs.size + 1) :: vs) (Value.ref (s.heap.objs.size + 1) :: us) := .cons rfl r
  have hl : ((Value.ref (s.heap.objs.size + 1) :: us) ++ []).length = ps.length := by
    rw [List.append_nil, ← rr.length]
    exact F.len _ _ _ _ q0
  have hb := hbd _ (Value.ref (s.heap.objs.size + 1) :: us) J.kIn hl
  rw [List.append_nil] at hb
  have run := F.run (X.A.under (.builtin "type.__call__" ⟨.ref C :: us, []⟩)) X.stack _ _ ⟨Value.ref (s.heap.objs.size + 1) :: us, []⟩ _ _ _ (E τ) (hr.make C us []) hg (J.env0.make C us []) hb rr q0
  refine wpAny_call (make_map (f := f) I.kIn M.makes M.init (beq_iff_eq.mp M.fn) (codeAny_mono run fun res s' hsq => ?_))
  match res, hsq with
  | .error e, hsq => exact hx pk _ _ e s' J hsq
  | .ok (.ret u), hsq =>
    obtain ⟨v, H4, J4, rv, ev, q4⟩ := J.after hsq
    subst ev
    exact ⟨rv, ⟨V.ref (s.heap.objs.size + 1), H4, J4, rfl, q4⟩⟩
  | .ok .next, hsq => exact False.elim hsq
  | .ok .brk, hsq => exact False.elim hsq
  | .ok .cont, hsq => exact False.elim hsq
theorem pe_mkN (c : MakN X.prog X.w X.K X.mg X.base k x C sp) (hr : Room j X.A) (hg0 : X.A.guards = some []) (hkp : k + 1 ≤ j) (hx : ∀ σ, PassesAt (L2N.CX X.prog X.w) X σ (E σ)) (hg : Gl X x) (ha : PA X (e :: es) t)
    (hdb : (x == ("__debug__" : Str)) = false := by decide) (hes : starEach (e :: es) X.env = (false, eval e X.env) :: starEach es X.env := by rfl) (hpl : (backTo pos (starEach es X.env)).any (·.1) = false := by rfl) :
    PE X (.Call (.Name x p) (e :: es) [] pos) (tMakeX C sp E t) := by
  obtain ⟨f, fd, ps, F, M, b⟩ := c.ex
  refine ⟨fun pk s τ H Z I h => ?_⟩
  refine wpAny_Call_Name_kw (ld_glob I hg c.at_ ?_ hdb)
  refine PySem.W.callWith_K (h₀ := X.base) I.ok.mod.kin M.kp (thn (ha.run pos pk s τ H _ I h) fun us st1 ⟨vs, H1, I1, r, q⟩ => ⟨I1.kIn, ?_⟩) hes hpl
  exact run_mkN M F (hr.mono hkp) hg0 b (hx τ) I1 r q
theorem pe_mtN {pl : Sem Bool} (c : MetN X.prog X.w X.K X.mg X.base k C m sp) (he : PE X o ta) (hr : Room j X.A) (hg0 : X.A.guards = some []) (hkp : k ≤ j) (hx : ∀ σ, PassesAt (L2N.CX X.prog X.w) X σ (E σ)) (ha : PA X (e :: es) t)
    (hes : starEach (e :: es) X.env = (false, eval e X.env) :: starEach es X.env := by rfl) (hpl : (backTo pos (starEach es X.env)).any (·.1) = false := by rfl)
    (hte : eval (.Call (.Attribute o m apos) (e :: es) [] pos) X.env = (do
      let ov ← eval o X.env
      standAt apos.atName
      let (g, first) ← holding [ov] (getMethod ov m pl)
      callWith pos g first (backTo pos (starEach (e :: es) X.env)) (backToKw pos (keywordEach [] X.env))) := by rfl) :
    PE X (.Call (.Attribute o m apos) (e :: es) [] pos) (tMethX C m sp E ta t) := by
  obtain ⟨f, fd, ps, F, M, b⟩ := c.ex
  refine ⟨fun pk s τ H Z I h => PySem.W.methodCall_KW (pl := pl) (thn (he.run pk s τ H _ I h) fun u st1 ⟨y, H1, I1, ry, a, d, fs, ey, ea, l, q⟩ => ?_) hte⟩
  subst ey
  have eu : u = Value.ref a := ry
  subst eu
  refine getmeth_ok I1 ea c.cl M l ?_
  refine PySem.W.callWith_K (first := [.ref a]) (h₀ := X.base) I1.ok.mod.kin M.kp (thn (ha.run pos pk st1 τ H1 _ I1 q) fun us st2 ⟨vs, H2, I2, r, q2⟩ => ⟨I2.kIn, ?_⟩) hes hpl
  exact run_fnN (us := .ref a :: us) (vs := .ref a :: vs) F (hr.mono hkp) hg0 b (hx τ) I2 (.cons rfl r) q2
end
end Own

namespace Own
open PySem PySem.Spec PyProof.Rows L2
open AutoSeq1 (wpAny_loadPart')
/-! ### enumerate(tuple) -/
theorem meets_enumerate_newT (l : Addr) (items : Array Value) (n : Nat) (dct : Option Addr) (sl : Array (Option Value)) :
    Meets (Builtin.«enumerate.__new__» ⟨[.type "enumerate", .ref l], []⟩) (fun _ R s => s.heap.get? l = some { cls := .type "tuple", dict := dct, data := .seq items n, slots := sl } ∧
      R (.ok (.ret (.ref (s.heap.push { cls := .type "tuple_iterator", data := .fields #[.ref l, .int 0 0] }).objs.size)))
        { s with heap := (s.heap.push { cls := .type "tuple_iterator", data := .fields #[.ref l, .int 0 0] }).push { cls := .type "enumerate", data := .fields #[.none, .bool false, .ref s.heap.objs.size, rawInt 0, .none, .none] } }) :=
  .of_wp fun prog w A R s h => by
    obtain ⟨hp, g, d, tk, os⟩ := s; obtain ⟨hl, h⟩ := h
    have hsub := sub_enumerate
    have hL : Heap.IsTuple (Shared.heap ⟨hp, g, d, tk, os⟩) l items := ⟨_, hl, rfl, n, rfl⟩
    wp_walk using wpAny_loadPart' hl
    refine wpAny_stack_any fun st => wpAny_pure ?_
    split
    · rename_i c _ _ _ _ _
      cases (c == Value.type "enumerate")
      · wp_walk using wpAny_loadPart' hl, wpAny_pyIter_tuple hL
        exact ⟨_, rfl, h⟩
      · wp_walk using wpAny_loadPart' hl, wpAny_pyIter_tuple hL
        exact ⟨_, rfl, h⟩
    · wp_walk using wpAny_loadPart' hl, wpAny_pyIter_tuple hL
      exact ⟨_, rfl, h⟩
section
variable {prog : Program} {w : World} {A : Around} {E : Value → Shared → Prop} {s : Shared}
theorem call_enumerate_tuple {l : Addr} {items : Array Value} {Q : Value → Shared → Prop} (hL : s.heap.IsTuple l items)
    (h : ∀ h', IsEnum h' (s.heap.objs.size + 1) s.heap.objs.size 0 .none → h'.IsTupleIter s.heap.objs.size l 0 → h'.objs.size = s.heap.objs.size + 2 →
      (∀ b o, s.heap.get? b = some o → h'.get? b = some o) → Q (.ref (s.heap.objs.size + 1)) { s with heap := h' }) :
    wpAny (model prog w) A (call (.type "enumerate") [.ref l]) Q E s := by
  obtain ⟨⟨c, dct, dt, sl⟩, hl, hc, n, hd⟩ := hL
  replace hc : c = .type "tuple" := hc
  replace hd : dt = .seq items n := hd
  subst hc hd
  refine callType_new F.called_enumerate (by decide) (F.typeCall_enumerate_1 _) (F.newCall_enumerate_1 _) (fun obj => F.args_object_init_2 obj _) F.entry_enumerate_new
    (meets_enumerate_newT l items n dct sl) ⟨hl, ?_⟩
  have hz : (s.heap.push { cls := .type "tuple_iterator", data := .fields #[.ref l, .int 0 0] }).objs.size = s.heap.objs.size + 1 := Heap.size_push ..
  show _ ∧ _
  rw [hz]
  have he : IsEnum ((s.heap.push { cls := .type "tuple_iterator", data := .fields #[.ref l, .int 0 0] }).push
      { cls := .type "enumerate", data := .fields #[.none, .bool false, .ref s.heap.objs.size, rawInt 0, .none, .none] }) (s.heap.objs.size + 1) s.heap.objs.size 0 .none := by
    have := Heap.get?_push_size (s.heap.push { cls := .type "tuple_iterator", data := .fields #[.ref l, .int 0 0] })
      (o := { cls := .type "enumerate", data := .fields #[.none, .bool false, .ref s.heap.objs.size, rawInt 0, .none, .none] }) rfl
    rw [hz] at this; exact this
  refine ⟨⟨_, he, rfl⟩, h _ he ⟨_, Heap.get?_push_of_some _ (Heap.get?_push_size _ rfl), rfl, rfl⟩ (by rw [Heap.size_push, hz]) fun b o x => Heap.get?_push_of_some _ (Heap.get?_push_of_some _ x)⟩
end
/-- the tuple at a, each item in a new pair -/
def IteT (K : PySem.W.Frag) (a : Addr) : It :=
  ⟨fun i H => ∃ (xs : List V) (x : V), SqT K H a xs ∧ xs[i]? = some x, fun i H v H' => ∃ T x, v = .ref T ∧ H T = none ∧ H' = upd H T (.tup [.int (i : Nat), x]) ∧ ∀ xs, SqT K H a xs → xs[i]? = some x, fun i H => ∃ xs : List V, SqT K H a xs ∧ xs.length ≤ i⟩
theorem turn_enumT {P : Program} {w : World} {K : PySem.W.Frag} {elts : List Expr} {kk : Nat} {tpos : Pos} (a e it : Addr) :
    Turn P w K (.Tuple elts kk tpos) (IteT K a) [e, it] e (fun i h => (∃ old, IsEnum h e it ((i : Nat) : Int) old) ∧ h.IsTupleIter it a i ∧ e ≠ it ∧ e ≠ a ∧ a ≠ it) where
  mem := by simp
  obj := fun i h st b hb => by
    obtain ⟨⟨old, he⟩, ⟨o, ho, hc, hd⟩, _⟩ := st
    have e' : b = e ∨ b = it := by simpa using hb
    rcases e' with z | z
    · rw [z]; exact ⟨_, he, fun v q => nomatch q⟩
    · rw [z]; exact ⟨o, ho, fun v q => by rw [hd] at q; cases q⟩
  keep := fun i h h' st k => let ⟨⟨old, he⟩, hi, hne⟩ := st; ⟨⟨old, k e (by simp) _ he⟩, hi.at fun o q => k it (by simp) o q, hne⟩
  item := by
    intro X hP hw hK hc i pins s σ H E I hf st hg
    subst hP hw hK
    obtain ⟨⟨old, he⟩, hit, hne, hea, hai⟩ := st
    obtain ⟨xs, x, hq, hx⟩ := hg
    obtain ⟨its, rv, p, hz⟩ := I.tuple hq
    obtain ⟨u, hu, ru⟩ := rv.get hx
    have hel : e < s.heap.objs.size := Heap.lt_size he
    have hil : it < s.heap.objs.size := by obtain ⟨_, q, _⟩ := hit; exact Heap.lt_size q
    have hlt : i < its.toArray.size := by
      have := (List.getElem?_eq_some_iff.mp hu).1
      simpa using this
    have D : Draws X.prog X.w X.A.in1 it [it, a] its.toArray.size (fun i v => its.toArray[i]? = some v) (fun i h => h.IsTupleIter it a i ∧ h.IsTuple a its.toArray) := Draws.tuple (A := X.A.in1) (show X.A.in1.handled = none from I.ok.hd hc) it a hai its.toArray
    refine wpAny_pyNext_enum_itemD D he ⟨hit, p⟩ hlt hne (by simp [hne, hea]) fun u' h' tk hu' ho hst' hT hsz hk => ?_
    have eu : u' = u := by
      have h1 : its[i]? = some u' := by simpa using hu'
      rw [hu] at h1
      exact (Option.some.inj h1).symm
    subst eu
    have hit' := hst'.1
    refine ⟨_, rfl, wpAny_letOwnedTupleGo_enum (s := { s with heap := h', toks := tk + 1 }) ho fun h'' he' sb => ?_⟩
    have hT2 : h''.get? s.heap.objs.size = some { cls := .type "tuple", data := .seq #[.int i tk, u'] } := (sb.2 _ (Nat.ne_of_gt hel)).trans hT
    have new : ObjOk X.prog X.w (upd H s.heap.objs.size (.tup [.int (i : Nat), x])) h'' s.heap.objs.size (.tup [.int (i : Nat), x]) :=
      ⟨by show 2 ≤ sizeLine; decide, [.int i tk, u'], .cons ⟨_, rfl⟩ (.cons ru .nil), ⟨_, hT2, rfl, _, rfl⟩⟩
    have I1 : Inv X pins σ (upd H s.heap.objs.size (.tup [.int (i : Nat), x])) { s with heap := h'', toks := tk + 1 } :=
      I.turnedNew (ch := [e, it]) (fun b ob hb q => (sb.2 b (fun z => hb (by simp [z]))).trans (hk b ob (fun z => hb (by simp [z])) (fun z => hb (by simp [z])) q)) hf (Nat.le_refl _) new
    refine ⟨.ref s.heap.objs.size, _, I1, rfl, ⟨_, x, rfl, I.hok.fresh (Nat.le_refl _), rfl, fun ys hy => by rw [I.tuple_inj hy hq]; exact hx⟩, ⟨⟨u', ?_⟩, hit'.at fun o q => (sb.2 it (Ne.symm hne)).trans q, hne, hea, hai⟩, fun b hb => ?_⟩
    · have e1 : ((i + 1 : Nat) : Int) = (i : Int) + 1 := by omega
      rw [e1]; exact he'
    · have hb' : b < s.heap.objs.size := by
        have e' : b = e ∨ b = it := by simpa using hb
        rcases e' with z | z
        · rw [z]; exact hel
        · rw [z]; exact hil
      rw [upd_ne (Nat.ne_of_lt hb')]
      exact (hf b hb).1
  done := by
    intro X hP hw hK hc i pins s σ H E I hf st hg
    subst hP hw hK
    obtain ⟨⟨old, he⟩, hit, hne, hea, hai⟩ := st
    obtain ⟨xs, hq, hx⟩ := hg
    obtain ⟨its, rv, p, hz⟩ := I.tuple hq
    obtain ⟨f0, f1, f2, f3, f4, f5⟩ := hf it (by simp)
    have hl := rv.length
    have hT : s.TypeIs (.ref e) "enumerate" := ⟨_, he, rfl⟩
    unfold pyNext
    refine wpAny_bind (wpAny_attempt (wpAny_callSpecial?_slot (name := Str.ofString "__next__") hT F.slot_enumerate_next
      (wpAny_call_entry F.slot_enumerate_next hT F.entry_enumerate_next ?_ (F.args_enumerate_next_1 _))))
    show wpAny _ _ (field (.ref e) 2 >>= _) _ _ _
    refine wpAny_bind (wpAny_field he rfl (x := .ref it) rfl ?_)
    refine wpAny_bind (wpAny_nextOf_tuple_end (I.ok.hd hc) hit p (by simp; omega) fun h' x he' hx' => ?_)
    obtain ⟨o, ho, hc⟩ := hx'
    refine wpAny_bind (wpAny_isInstance (T := "StopIteration") (b := true) ⟨o, ho, hc⟩ isSubtype_stop ?_)
    exact wpAny_pure ⟨rfl, I.turned (t' := s.toks) (fun b o hb q => he' b o hb q) f0 f1 f3 f4 f5⟩
  self := fun A i s Q E st h => let ⟨⟨_, he⟩, _⟩ := st; wpAny_pyIter_enum he h
def iEnumT (K : PySem.W.Frag) (ta : TA) : TI := fun σ H R => ta σ H fun vs H1 => ∃ a xs, vs = [.ref a] ∧ SqT K H1 a xs ∧ R (IteT K a) H1
def iEnumA (K : PySem.W.Frag) (ta : TA) : TI := fun σ H R => ta σ H fun vs H1 => (∃ a xs, vs = [.ref a] ∧ SqL K H1 a xs ∧ R (Ite K a) H1) ∨ ∃ a xs, vs = [.ref a] ∧ SqT K H1 a xs ∧ R (IteT K a) H1
theorem pi_enumA {X : Cx} {e : Expr} {ta : TA} {p pos tpos : Pos} {elts : List Expr} {kk : Nat} (hg : Gl X "enumerate") (hm : X.mg "enumerate" = none) (ha : PA X [e] ta) (hs : starEach [e] X.env = [(false, eval e X.env)] := by rfl) :
    PI X (.Tuple elts kk tpos) (.Call (.Name "enumerate" p) [e] [] pos) (iEnumA X.K ta) := by
  refine ⟨fun pins s σ H R I h => ?_⟩
  refine Call_ (ld_blt I hg hm boot_enumerate (PyProof.Rows.callWith_type1 (thn (ha.run pos pins s σ H _ I h) fun us s1 ⟨vs, H1, I1, r1, q1⟩ => ?_) hs rfl))
  rcases q1 with ⟨a, xs, ex, hq, q⟩ | ⟨a, xs, ex, hq, q⟩
  · subst ex
    cases r1 with
    | cons r rr =>
      cases rr
      cases r
      obtain ⟨its, rv, p', hz⟩ := I1.list hq
      refine call_enumerate_list p'.isList fun h' he hit hsz hk => wpAny_pyIter_enum he ?_
      have I2 : Inv X pins σ H1 { s1 with heap := h' } := I1.kept (t' := s1.toks) hk
      refine ⟨s1.heap.objs.size + 1, [s1.heap.objs.size + 1, s1.heap.objs.size], _, _, H1, rfl, I2, turn_enum a (s1.heap.objs.size + 1) s1.heap.objs.size, ⟨⟨.none, he⟩, hit, Nat.succ_ne_self _⟩, fun b hb => ?_, q⟩
      have e' : b = s1.heap.objs.size + 1 ∨ b = s1.heap.objs.size := by simpa using hb
      have hle : s1.heap.objs.size ≤ b := by
        rcases e' with z | z
        · rw [z]; exact Nat.le_add_right _ _
        · rw [z]; exact Nat.le_refl _
      exact I1.fpOk hle (I1.hok.fresh hle)
  · subst ex
    cases r1 with
    | cons r rr =>
      cases rr
      cases r
      obtain ⟨its, rv, p', hz⟩ := I1.tuple hq
      have hal : a < s1.heap.objs.size := by obtain ⟨o, ho, _⟩ := p'; exact Heap.lt_size ho
      refine call_enumerate_tuple p' fun h' he hit hsz hk => wpAny_pyIter_enum he ?_
      have I2 : Inv X pins σ H1 { s1 with heap := h' } := I1.kept (t' := s1.toks) hk
      refine ⟨s1.heap.objs.size + 1, [s1.heap.objs.size + 1, s1.heap.objs.size], _, _, H1, rfl, I2, turn_enumT a (s1.heap.objs.size + 1) s1.heap.objs.size, ⟨⟨.none, he⟩, hit, Nat.succ_ne_self _, Nat.ne_of_gt (Nat.lt_succ_of_lt hal), Nat.ne_of_lt hal⟩, fun b hb => ?_, q⟩
      have e' : b = s1.heap.objs.size + 1 ∨ b = s1.heap.objs.size := by simpa using hb
      have hle : s1.heap.objs.size ≤ b := by
        rcases e' with z | z
        · rw [z]; exact Nat.le_add_right _ _
        · rw [z]; exact Nat.le_refl _
      exact I1.fpOk hle (I1.hok.fresh hle)
theorem walk_enumT {K : PySem.W.Frag} {a : Addr} {xs : List V} : Walk (IteT K a) xs.length (fun H => SqT K H a xs) (YPair (fun i => some (.int (i : Nat))) (fun i => xs[i]?)) := by
  refine ⟨fun i _ hi q => ⟨xs, xs[i], q, by simp [hi]⟩, fun _ q => ⟨xs, q, Nat.le_refl _⟩, fun i H v H' _ q y => ?_⟩
  obtain ⟨T, x, h1, h2, h3, h4⟩ := y
  exact ⟨T, .int (i : Nat), x, h1, h2, h3, rfl, h4 xs q⟩
end Own

namespace Own
open PySem PySem.Spec PyProof.Rows L2
/-! ### repr of {0: data} -/
def zD (d : PyData) : PyData := .dict [(.int 0, d)]
def rReprZ : List V → Hp → VK → Prop := fun xs H Q => ∃ (a : Addr) (x : V) (d : PyData), xs = [.ref a] ∧ H a = some (.dK [(Sum.inl 0, x)]) ∧ Da H x d ∧ okD 38 15000000 d ∧ Q (.str (zD d).shown) H
theorem callReprZ {X : Cx} {k : Nat} (hs : SysAt X.base) (hg : X.A.guards = some []) (hr : Room k X.A) : CallR X (.builtin "repr") rReprZ := by
  intro pk s τ H xs us Q I r h
  obtain ⟨a, x, d, rfl, ha, hd, ⟨g1, g2, g3⟩, q⟩ := h
  rw [Vals.ref1 r]
  obtain ⟨hz, hsm, vs, rel, o, es, ep, ho, hex, hdat, hko, hp, hn⟩ := dk_of I.hok ha
  obtain ⟨s1, s2⟩ := shownD d g1
  have hu := hr.units
  obtain ⟨tz, ve, as, hk1, hv1, hre, hna⟩ : ∃ (t : Tok) (e : Value) (as : List Addr), es.toList.map (·.key) = [.int 0 t] ∧ es.toList.map (·.val) = [e] ∧ Reads s.heap e d as ∧ sysModules ∉ as := by
    generalize es.toList = el at hp
    match vs, rel, el, hp with
    | [u1], .cons a1 .nil, [e1], .cons c1 d1 .nil =>
      obtain ⟨b1, b2⟩ := a1
      have b1 : (Sum.inl 0 : Key) = u1.1 := b1
      obtain ⟨as, rd, hna⟩ := Da.reads I hs d x u1.2 hd b2
      rcases keyIs_shape (show keyIs u1.1 e1.key = true from c1) with ⟨i, t', e3, e4⟩ | ⟨z, t', e3, e4⟩
      · rw [← b1] at e3
        cases e3
        exact ⟨t', u1.2, as, by show [e1.key] = _; rw [e4], by show [e1.val] = _; rw [d1], rd, hna⟩
      · rw [← b1] at e3
        cases e3
  have r1 : ReadsAll s.heap (es.toList.map (·.key)) ([(PyData.int 0, d)].map (·.1)) [] := by
    rw [hk1]
    show ReadsAll s.heap [Value.int 0 tz] [PyData.int 0] ([] ++ [])
    exact ReadsAll.cons (Reads.int 0 tz) ReadsAll.nil
  have r2 : ReadsAll s.heap (es.toList.map (·.val)) ([(PyData.int 0, d)].map (·.2)) (as ++ []) := by
    rw [hv1]
    exact ReadsAll.cons hre ReadsAll.nil
  have rd : Reads s.heap (.ref a) (zD d) (a :: [] ++ (as ++ [])) := Reads.dict ho hex.1 hdat r1 r2
  have hsh : (zD d).showable = true := by
    show ((PyData.int 0).showable && d.showable && true) = true
    rw [s1]
    decide +kernel
  have hlen : (zD d).shown.length ≤ sizeLine := by
    show (dictText (PyData.shownKv [(PyData.int 0, d)])).length ≤ sizeLine
    have z := dictText_len_le (PyData.shownKv [(PyData.int 0, d)])
    have z1 : ((PyData.shownKv [(PyData.int 0, d)]).map (·.length)).sum ≤ 1921 + 2 + wd d := by
      rw [PyData.shownKv_cons, List.map_cons, List.sum_cons, strLen_append, strLen_append]
      have q1 := shown_le (.int 0) rfl (by decide +kernel)
      have q1 : (PyData.shown (.int 0)).length ≤ 1921 := q1
      have q2 : (": " : Str).length = 2 := rfl
      have q3 : ((PyData.shownKv []).map (·.length)).sum = 0 := rfl
      omega
    have z2 : (PyData.shownKv [(PyData.int 0, d)]).length = 1 := rfl
    rw [z2] at z
    refine Nat.le_trans z (Nat.le_trans (show _ ≤ 16000000 by omega) (by decide))
  refine repr_of_reads' rd hsh (fun _ hm => ?_) hg (by
      have q1 : (zD d).depth = max (max 0 d.depth) 0 + 1 := rfl
      rw [q1]
      omega) (fun _ _ e => e) (fun h' u tk hkp => ⟨.str (zD d).shown, H, I.kept (h' := h') (t' := tk) hkp, ⟨_, rfl⟩, q⟩) hlen
  have hm : sysModules ∈ a :: (as ++ []) := hm
  rw [List.append_nil] at hm
  rcases List.mem_cons.mp hm with h | h
  · rw [← h] at hsm
    exact absurd hsm (by decide)
  · exact hna h
def rReprY : List V → Hp → VK → Prop := fun xs H Q => rReprX xs H Q ∨ rReprZ xs H Q
theorem callReprY {X : Cx} {k : Nat} (hs : SysAt X.base) (hg : X.A.guards = some []) (hr : Room k X.A) : CallR X (.builtin "repr") rReprY := CallR.or (callReprX hs hg hr) (callReprZ hs hg hr)
end Own

namespace Own
open PySem PySem.Spec PyProof.Rows L2 Evl
/-! ### sets of tuples of texts, ints and such tuples -/
/-- the tuple at b is the key k -/
def NKI (h : Heap) (k : NestedKey) (b : Addr) : Prop := NestedIs h k (.ref b) ∧ k.depth ≤ 8
section
variable {P : Program} {w : World} {A : Around} {E : Value → Shared → Prop} {s : Shared} {h h' : Heap} {k : NestedKey} {b : Addr}
theorem NKI.keep (n : NKI h k b) (e : ∀ c o, h.get? c = some o → h'.get? c = some o) : NKI h' k b := ⟨NestedIs.at (fun c o _ _ g _ => e c o g) k _ n.1, n.2⟩
theorem NKI.one {k' : NestedKey} (n : NKI h k b) (n' : NKI h k' b) : k = k' := NestedIs.inj k k' _ n.1 n'.1
theorem NKI.tup (n : NKI h k b) : ∃ o vs m ks, k = .tup ks ∧ h.get? b = some o ∧ o.cls = .type "tuple" ∧ o.data = .seq vs m ∧ NestedAll h ks vs.toList := by
  obtain ⟨n, _⟩ := n
  cases n with
  | tup h1 h2 h3 h4 => exact ⟨_, _, _, _, rfl, h1, h2, h3, h4⟩
theorem NKI.same {a : Addr} {o : Obj} {es : Array (Int × Value)} {ep : Nat} {t : SetTable} (n : NKI h k b) (ho : h.get? a = some o) (hd : o.data = .set es ep t) (e : Heap.SameBut a h h') : NKI h' k b := by
  refine ⟨NestedIs.at (fun c q vs m g1 g2 => ?_) k _ n.1, n.2⟩
  rw [e.2 c (fun z => ?_)]
  · exact g1
  · rw [z, ho] at g1
    cases g1
    rw [hd] at g2
    cases g2
/-- a walk over values that asks each one thing -/
theorem ask_all {M : Model} {g : Value → Bool} {c : Bool} {body : Value → Option Bool × Unit → Sem (ForInStep (Option Bool × Unit))} {R : Option Bool × Unit → Shared → Prop} : ∀ (vs : List Value),
    (∀ v ∈ vs, ∀ R', R' (if g v = true then ForInStep.done (some c, ()) else .yield (none, ())) s → wpAny M A (body v (none, ())) R' E s) → R (if vs.any g = true then (some c, ()) else (none, ())) s → wpAny M A (forIn vs (none, ()) body) R E s
  | [], _, q => by
    rw [List.forIn_nil]
    exact wpAny_pure q
  | v :: vs, hb, q => by
    rw [List.forIn_cons]
    refine wpAny_bind (hb v List.mem_cons_self _ ?_)
    rw [List.any_cons] at q
    cases hg : g v with
    | true =>
      rw [hg, Bool.true_or, if_pos rfl] at q
      simp only [if_true]
      exact wpAny_pure q
    | false =>
      rw [hg, Bool.false_or] at q
      simp only [Bool.false_eq_true, if_false]
      exact ask_all vs (fun u hu => hb u (List.mem_cons_of_mem _ hu)) q
mutual
/-- whether its hash goes by value alone is known -/
theorem byVal_key : ∀ (k : NestedKey) (v : Value) (n : Nat), NestedIs s.heap k v → k.depth ≤ n → ∃ c : Bool, ∀ (A : Around) (E : Value → Shared → Prop) (Q : Bool → Shared → Prop), Q c s → wpAny (model P w) A (hashByValue n v) Q E s
  | .none, _, n, x, _ => by
    cases x
    exact ⟨true, fun A E Q q => by cases n <;> exact wpAny_pure q⟩
  | .num i, _, n, x, _ => by
    cases x <;> exact ⟨true, fun A E Q q => by cases n <;> exact wpAny_pure q⟩
  | .text y, _, n, x, _ => by
    cases x
    exact ⟨false, fun A E Q q => by cases n <;> exact wpAny_pure q⟩
  | .tup ks, _, n, x, hn => by
    cases x with
    | @tup a o vs m _ g1 g2 g3 g4 =>
      simp only [NestedKey.depth] at hn
      cases n with
      | zero => omega
      | succ n =>
        have all := byVal_keys ks vs.toList n g4 (by omega)
        have fn : ∃ f : Value → Bool, ∀ v ∈ vs.toList, ∀ (A : Around) (E : Value → Shared → Prop) (Q : Bool → Shared → Prop), Q (f v) s → wpAny (model P w) A (hashByValue n v) Q E s := by
          refine ⟨fun v => if q : v ∈ vs.toList then (all v q).choose else true, fun v hv => ?_⟩
          simp only [hv, dite_true]
          exact (all v hv).choose_spec
        obtain ⟨f, hf⟩ := fn
        refine ⟨!(vs.toList.any fun v => !f v), fun A E Q q => ?_⟩
        unfold hashByValue
        refine wpAny_bind (wpAny_specialOf (T := "tuple") ⟨o, g1, g2⟩ F.slot_tuple_hash.lookup ?_)
        show wpAny _ _ (seqItems? (.ref a) >>= _) _ _ s
        refine wpAny_bind (wpAny_seqItems g1 g3 ?_)
        refine wpAny_bind ?_
        show wpAny _ _ (forIn vs _ _) _ _ s
        rw [← Array.forIn_toList]
        refine ask_all (g := fun v => !f v) (c := false) vs.toList (fun v hv R' q' => ?_) ?_
        · refine wpAny_bind (hf v hv _ _ _ ?_)
          cases hfv : f v with
          | true =>
            rw [hfv] at q'
            simp only [Bool.not_true, Bool.false_eq_true, if_false] at q' ⊢
            exact wpAny_pure q'
          | false =>
            rw [hfv] at q'
            simp only [Bool.not_false, if_true] at q' ⊢
            exact wpAny_pure q'
        · cases hany : vs.toList.any fun v => !f v with
          | true =>
            rw [hany] at q
            exact wpAny_pure q
          | false =>
            rw [hany] at q
            exact wpAny_pure q
theorem byVal_keys : ∀ (ks : List NestedKey) (vs : List Value) (n : Nat), NestedAll s.heap ks vs → NestedKey.depthAll ks ≤ n → ∀ v ∈ vs, ∃ c : Bool, ∀ (A : Around) (E : Value → Shared → Prop) (Q : Bool → Shared → Prop), Q c s → wpAny (model P w) A (hashByValue n v) Q E s
  | [], _, n, x, _, v, hv => by
    cases x
    cases hv
  | k :: ks, _, n, x, hn, v, hv => by
    cases x with
    | cons x1 x2 =>
      simp only [NestedKey.depthAll] at hn
      rcases List.mem_cons.mp hv with e | hv
      · rw [e]
        exact byVal_key k _ n x1 (by omega)
      · exact byVal_keys ks _ n x2 (by omega) v hv
end
mutual
/-- no part of it is of a class of the program's -/
theorem noCls_key : ∀ (k : NestedKey) (v : Value) (n : Nat) (A : Around) (E : Value → Shared → Prop) (Q : Bool → Shared → Prop), NestedIs s.heap k v → k.depth ≤ n → Q false s → wpAny (model P w) A (ofAClassStatement n v) Q E s
  | .none, _, n, A, E, Q, x, _, q => by
    cases x
    cases n <;> exact wpAny_pure q
  | .num i, _, n, A, E, Q, x, _, q => by
    cases x <;> cases n <;> exact wpAny_pure q
  | .text y, _, n, A, E, Q, x, _, q => by
    cases x
    cases n <;> exact wpAny_pure q
  | .tup ks, _, n, A, E, Q, x, hn, q => by
    cases x with
    | @tup a o vs m _ g1 g2 g3 g4 =>
      simp only [NestedKey.depth] at hn
      cases n with
      | zero => omega
      | succ n =>
        unfold ofAClassStatement
        refine wpAny_bind (wpAny_typeOf (T := "tuple") ⟨o, g1, g2⟩ ?_)
        dsimp only
        have yes : (("tuple" : String) == "tuple") = true := by decide
        simp only [yes, if_true, Bool.not_true, Bool.false_eq_true, if_false]
        try refine wpAny_bind (wpAny_pure ?_)
        try simp only [Bool.not_true, Bool.false_eq_true, if_false]
        refine wpAny_bind (wpAny_seqItems g1 g3 ?_)
        dsimp only
        refine wpAny_bind ?_
        show wpAny _ _ (forIn vs _ _) _ _ s
        rw [← Array.forIn_toList]
        refine ask_all (g := fun _ => false) (c := true) vs.toList (fun v hv R' q' => ?_) ?_
        · refine wpAny_bind (noCls_keys ks vs.toList n A E _ g4 (by omega) v hv ?_)
          simp only [Bool.false_eq_true, if_false] at q' ⊢
          exact wpAny_pure q'
        · have none_ : (vs.toList.any fun _ => false) = false := by simp
          rw [none_]
          exact wpAny_pure q
theorem noCls_keys : ∀ (ks : List NestedKey) (vs : List Value) (n : Nat) (A : Around) (E : Value → Shared → Prop) (Q : Bool → Shared → Prop), NestedAll s.heap ks vs → NestedKey.depthAll ks ≤ n → ∀ v ∈ vs, Q false s → wpAny (model P w) A (ofAClassStatement n v) Q E s
  | [], _, n, A, E, Q, x, _, v, hv, _ => by
    cases x
    cases hv
  | k :: ks, _, n, A, E, Q, x, hn, v, hv, q => by
    cases x with
    | cons x1 x2 =>
      simp only [NestedKey.depthAll] at hn
      rcases List.mem_cons.mp hv with e | hv
      · rw [e]
        exact noCls_key k _ n A E Q x1 (by omega) q
      · exact noCls_keys ks _ n A E Q x2 (by omega) v hv q
end
/-- a search among such tuples shows nothing -/
theorem unseen {ys : List Value} {Q : Bool → Shared → Prop} (n : NKI s.heap k b) (hy : ∀ y ∈ ys, ∃ k' c, y = Value.ref c ∧ NKI s.heap k' c) (q : Q false s) : wpAny (model P w) A (searchCouldBeSeen (.ref b) ys) Q E s := by
  unfold searchCouldBeSeen
  refine wpAny_bind (ask_all (g := fun _ => false) (c := true) ys (fun v hv R' q' => ?_) ?_)
  · obtain ⟨k', c, rfl, n'⟩ := hy v hv
    simp only [Bool.false_eq_true, if_false] at q'
    dsimp only
    by_cases same : (b == c || (carriedByValue (.ref b) && carriedByValue (.ref c))) = true
    · rw [if_pos same]
      exact wpAny_pure q'
    · rw [if_neg same]
      refine wpAny_bind ((nestedKind P w).quiet n ?_)
      simp only [Bool.not_true, Bool.false_eq_true, if_false]
      refine wpAny_bind ((nestedKind P w).quiet n' ?_)
      simp only [Bool.not_true, Bool.false_eq_true, if_false]
      refine wpAny_bind (noCls_key k _ 8 _ _ _ n.1 n.2 ?_)
      simp only [Bool.false_eq_true, if_false]
      refine wpAny_bind (noCls_key k' _ 8 _ _ _ n'.1 n'.2 ?_)
      simp only [Bool.false_eq_true, if_false]
      exact wpAny_pure q'
  · have none_ : (ys.any fun _ => false) = false := by simp
    rw [none_]
    exact wpAny_pure q
end
end Own

namespace Own
open PySem PySem.Spec PyProof.Rows L2 Evl
abbrev KA : Type := Addr × NestedKey
def kh (w : World) (p : KA) : Int := p.2.hash w
def ent (w : World) (p : KA) : Int × Value := (kh w p, Value.ref p.1)
/-- the set at a holds just the tuples L, in the order of its places -/
structure SetN (w : World) (h : Heap) (a : Addr) (L : List KA) (es : Array (Int × Value)) (ep : Nat) (t : SetTable) : Prop where
  obj : ∃ o, h.get? a = some o ∧ o.ExactSet ∧ o.data = .set es ep t
  row : es.toList = L.map (ent w)
  tab : TabOk t (L.map (kh w))
  one : (L.map Prod.snd).Nodup
  key : ∀ p ∈ L, NKI h p.2 p.1
  ld : w.params.followText "set-order" = true ∨ t.led = true
  air : L.length * 5 < t.mask * 3
  low : L.length < 64
section
variable {P : Program} {w : World} {A : Around} {E : Value → Shared → Prop} {s : Shared} {h h' : Heap} {a x : Addr} {k : NestedKey} {L : List KA} {es : Array (Int × Value)} {ep : Nat} {t : SetTable}
theorem SetN.esz (R : SetN w h a L es ep t) : es.size = L.length := by
  rw [← Array.length_toList, R.row, List.length_map]
theorem SetN.psz (R : SetN w h a L es ep t) : t.place.size = L.length := by
  rw [R.tab.sz, List.length_map]
theorem SetN.fit (R : SetN w h a L es ep t) : t.fits es.size = true := by
  have e1 := R.psz
  have e2 := R.esz
  have e3 := R.air
  unfold SetTable.fits SetTable.fill
  rw [R.tab.dm, Bool.and_eq_true, beq_iff_eq, decide_eq_true_eq]
  show t.place.size = es.size ∧ t.place.size + 0 ≤ t.mask
  omega
theorem SetN.nth (R : SetN w h a L es ep t) {i : Nat} {p : KA} (hp : L[i]? = some p) : es[i]? = some (ent w p) := by
  rw [← Array.getElem?_toList, R.row, List.getElem?_map, hp]
  rfl
theorem SetN.keep (R : SetN w h a L es ep t) (ha : ∀ o, h.get? a = some o → h'.get? a = some o) (hk : ∀ p ∈ L, NKI h' p.2 p.1) : SetN w h' a L es ep t := by
  obtain ⟨o, ho, q⟩ := R.obj
  exact ⟨⟨o, ha o ho, q⟩, R.row, R.tab, R.one, hk, R.ld, R.air, R.low⟩
theorem SetN.fresh (ho : h.get? a = some { cls := .type "set", dict := none, data := .set #[] 0 (.fresh 0 0 (!w.params.followText "set-order")) }) : SetN w h a [] #[] 0 (.fresh 0 0 (!w.params.followText "set-order")) := by
  refine ⟨⟨_, ho, ⟨rfl, rfl, rfl⟩, rfl⟩, rfl, ⟨.nil, rfl, rfl, .inl rfl, fun y hy => (by cases hy), fun i g j hi => (by simp at hi)⟩, .nil, fun p hp => (by cases hp), ?_, ?_, ?_⟩
  · show _ ∨ (!w.params.followText "set-order") = true
    cases w.params.followText "set-order"
    · exact .inr rfl
    · exact .inl rfl
  · show 0 * 5 < 7 * 3
    decide
  · show 0 < 64
    decide
/-- the place behind c steps of the way -/
def pr (t : SetTable) (g : Int) (c : Nat) : SetTable.Probe := L2.nth t.mask (runAt t.mask (SetTable.bits g % (t.mask + 1)) (SetTable.bits g)) c
theorem pr_way (t : SetTable) (g : Int) (c : Nat) : (pr t g c).j = way t.mask g c := rfl
theorem pr_add (t : SetTable) (g : Int) (c q : Nat) : L2.nth t.mask (pr t g c) q = pr t g (c + q) := (nth_add t.mask c _ q).symm
theorem pr_dummy (t : SetTable) (g : Int) : ∀ c, (pr t g c).dummy = none
  | 0 => rfl
  | c + 1 => by
    have e : pr t g (c + 1) = adv t.mask (pr t g c) := nth_succ t.mask _ c
    rw [e]
    unfold adv
    split <;> exact pr_dummy t g c
/-- the search for a tuple -/
theorem seek (R : SetN w s.heap a L es ep t) (n : NKI s.heap k x) (hu : A.units + 8 < cLine) {Z : Nat} (far : Z < 10 * SetTable.turns t.mask) (gap : way t.mask (k.hash w) Z ∉ t.place.toList) (full : ∀ c, c < Z → way t.mask (k.hash w) c ∈ t.place.toList)
    {Q : SetFound → Shared → Prop} (yes : k ∈ L.map Prod.snd → Q (.there none) s) (no : k ∉ L.map Prod.snd → Q (.free (way t.mask (k.hash w) Z) false) s) : ∀ (f c : Nat) (st : Option SetTable.Probe), st.getD (t.probeStart (k.hash w)) = pr t (k.hash w) c → c ≤ Z → Z - c < f →
      (∀ (i : Nat) (p : KA), L[i]? = some p → p.2 = k → ∃ d, c ≤ d ∧ d < Z ∧ t.place.toList[i]? = some (way t.mask (k.hash w) d)) → wpAny (model P w) A (setSearchFrom a (.ref x) (k.hash w) true f st) Q E s := by
  intro f
  induction f with
  | zero => exact fun c st _ _ lt => absurd lt (Nat.not_lt_zero _)
  | succ f ih =>
    intro c st est le lt still
    obtain ⟨o, ho, hex, hd⟩ := R.obj
    rw [setSearchFrom_succ]
    refine wpAny_bind (wpAny_setState_of ho hd R.fit ?_)
    dsimp only
    have gw : ¬ t.gaveWay = true := by
      unfold SetTable.gaveWay
      rw [mask_odd R.tab.mok]
      decide
    refine wp_if_neg gw ?_
    try refine wpAny_bind (wpAny_pure ?_)
    let ha : Nat → Int := fun i => (es[i]?.map (·.1)).getD 0
    have hash_at : ∀ (i : Nat) (p : KA), L[i]? = some p → ha i = kh w p := fun i p hp => by
      show (es[i]?.map (·.1)).getD 0 = _
      rw [R.nth hp]
      rfl
    have gap' : (L2.nth t.mask (pr t (k.hash w) c) (Z - c)).j ∉ t.place.toList := by
      rw [pr_add, pr_way, Nat.add_sub_cancel' le]
      exact gap
    rcases go_spec t R.tab.ris R.tab.dm ha (k.hash w) (10 * SetTable.turns t.mask) (Z - c) (pr t (k.hash w) c) (pr_dummy t _ c) (by omega) (fun q hq => by rw [pr_add, pr_way]; exact full _ (by omega)) gap' with ⟨q, i, hq, hi, _, hno, met⟩ | ⟨hno, met⟩
    · rw [pr_add, pr_way] at hi
      rw [pr_add, pr_add, pr_way] at met
      have met' : t.probe (fun i => (es[i]?.map (·.1)).getD 0) (k.hash w) (st.getD (t.probeStart (k.hash w))) = some (.candidate (way t.mask (k.hash w) (c + q)) i (pr t (k.hash w) (c + (q + 1)))) := by
        rw [est]
        exact met
      have li : i < L.length := by
        have z := (List.getElem?_eq_some_iff.mp hi).1
        rw [Array.length_toList, R.psz] at z
        exact z
      obtain ⟨p, hp⟩ : ∃ p, L[i]? = some p := ⟨_, List.getElem?_eq_getElem li⟩
      have pm := List.mem_of_getElem? hp
      have go : wpAny (model P w) A (searchRest a (.ref x) (k.hash w) true f es t (way t.mask (k.hash w) (c + q)) i (pr t (k.hash w) (c + (q + 1)))) Q E s := by
        unfold searchRest
        rw [R.nth hp]
        dsimp only [ent]
        refine wpAny_bind (wpAny_holding ((nestedKind P w).eqBool hu (R.key p pm) n ?_))
        refine wpAny_bind (wpAny_setState_of ho hd R.fit ?_)
        dsimp only
        by_cases e : p.2 = k
        · rw [if_pos (by rw [decide_eq_true e]; rfl)]
          exact wpAny_pure (yes (List.mem_map.mpr ⟨p, pm, e⟩))
        · rw [if_neg (by rw [decide_eq_false e]; exact Bool.false_ne_true)]
          try refine wpAny_bind (wpAny_pure ?_)
          rw [sameMem]
          dsimp only
          have live : t.slot (way t.mask (k.hash w) (c + q)) = .live i := slot_live R.tab.ris hi
          simp only [if_true, live, R.nth hp, ent]
          refine wpAny_bind (wpAny_isSame_ref_self (wpAny_bind (wpAny_pure ?_)))
          simp only [if_true]
          rw [if_neg (by rw [decide_eq_false e]; exact Bool.false_ne_true)]
          refine ih (c + (q + 1)) _ rfl (by omega) (by omega) fun i0 p0 h0 e0 => ?_
          obtain ⟨d, d1, d2, d3⟩ := still i0 p0 h0 e0
          refine ⟨d, ?_, d2, d3⟩
          rcases Nat.lt_trichotomy d (c + q) with lt1 | eq1 | gt1
          · refine absurd ((hash_at i0 p0 h0).trans ?_) (hno (d - c) i0 (by omega) ?_)
            · unfold kh
              rw [e0]
            · rw [pr_add, pr_way, Nat.add_sub_cancel' d1]
              exact d3
          · rw [eq1] at d3
            have z := slot_live R.tab.ris d3
            rw [live] at z
            injection z with z
            rw [← z, hp] at h0
            cases h0
            exact absurd e0 e
          · omega
      rw [met']
      dsimp only
      by_cases hl : t.led = true
      · refine wp_if_neg (by simp [hl]) ?_
        try refine wpAny_bind (wpAny_pure ?_)
        exact go
      · refine wp_if_pos (by simp [hl]) ?_
        refine wpAny_bind (unseen n (fun y hy => ?_) ?_)
        · obtain ⟨e, he, rfl⟩ := List.mem_map.mp hy
          have he : e ∈ es ∧ e.1 = k.hash w := by simpa using he
          have he := Array.mem_toList_iff.mpr he.1
          rw [R.row] at he
          obtain ⟨p2, m2, rfl⟩ := List.mem_map.mp he
          exact ⟨p2.2, p2.1, rfl, R.key p2 m2⟩
        · refine wp_if_neg (by decide) ?_
          try refine wpAny_bind (wpAny_pure ?_)
          exact go
    · rw [pr_add, pr_way, Nat.add_sub_cancel' le] at met
      have met' : t.probe (fun i => (es[i]?.map (·.1)).getD 0) (k.hash w) (st.getD (t.probeStart (k.hash w))) = some (.empty (way t.mask (k.hash w) Z) none) := by
        rw [est]
        exact met
      rw [met']
      dsimp only
      refine wpAny_pure (no fun hm => ?_)
      obtain ⟨p0, m0, e0⟩ := List.mem_map.mp hm
      obtain ⟨i0, l0, g0⟩ := List.getElem_of_mem m0
      have h0 : L[i0]? = some p0 := by rw [List.getElem?_eq_getElem l0, g0]
      obtain ⟨d, d1, d2, d3⟩ := still i0 p0 h0 e0
      refine absurd ((hash_at i0 p0 h0).trans ?_) (hno (d - c) i0 (by omega) ?_)
      · unfold kh
        rw [e0]
      · rw [pr_add, pr_way, Nat.add_sub_cancel' d1]
        exact d3
/-- the search as adding asks for it -/
theorem seek0 (R : SetN w s.heap a L es ep t) (n : NKI s.heap k x) (hu : A.units + 8 < cLine) {Q : SetFound → Shared → Prop} (yes : k ∈ L.map Prod.snd → Q (.there none) s)
    (no : ∀ Z, k ∉ L.map Prod.snd → way t.mask (k.hash w) Z ∉ t.place.toList → (∀ c, c < Z → way t.mask (k.hash w) c ∈ t.place.toList) → Q (.free (way t.mask (k.hash w) Z) false) s) : wpAny (model P w) A (setSearch a (.ref x) (k.hash w) true) Q E s := by
  have hair := R.air
  obtain ⟨Z, far, gap, full⟩ := R.tab.first (by rw [List.length_map]; omega) (k.hash w)
  have few : 10 * SetTable.turns t.mask ≤ 1420 := by
    unfold SetTable.turns
    rcases R.tab.mok with e | e | e <;> omega
  unfold setSearch
  refine seek R n hu far gap full yes (fun hm => no Z hm gap full) 100000 0 none rfl (Nat.zero_le _) (by omega) fun i p hp e => ?_
  have hi : (L.map (kh w))[i]? = some (k.hash w) := by
    rw [List.getElem?_map, hp, ← e]
    rfl
  have li : i < t.place.toList.length := by
    rw [Array.length_toList, R.psz]
    exact (List.getElem?_eq_some_iff.mp hp).1
  obtain ⟨c, lt, e⟩ := R.tab.before gap hi (List.getElem?_eq_getElem li)
  exact ⟨c, Nat.zero_le _, lt, by rw [List.getElem?_eq_getElem li, e]⟩
end
end Own

namespace Own
open PySem PySem.Spec PyProof.Rows L2 Evl
theorem range_all {α : Type} : ∀ L : List α, (List.range L.length).filterMap (L[·]?) = L
  | [] => rfl
  | x :: L => by
    rw [List.length_cons, List.range_succ_eq_map, List.filterMap_cons]
    show x :: _ = _
    rw [List.filterMap_map]
    exact congrArg (x :: ·) (range_all L)
theorem order_out {w : World} {L : List KA} {es : Array (Int × Value)} {ord : Array Nat} (row : es.toList = L.map (ent w)) (pm : ord.toList.Perm (List.range L.length)) :
    ∃ L2 : List KA, (ord.filterMap (es[·]?)).toList = L2.map (ent w) ∧ L2.Perm L ∧ L2.map (kh w) = ord.toList.map fun i => (es.map (·.1)).getD i 0 := by
  have at_ : ∀ i, es[i]? = (L[i]?).map (ent w) := fun i => by rw [← Array.getElem?_toList, row, List.getElem?_map]
  refine ⟨ord.toList.filterMap (L[·]?), ?_, ?_, ?_⟩
  · rw [Array.toList_filterMap, List.map_filterMap]
    congr 1
    funext i
    exact at_ i
  · have q := pm.filterMap (L[·]?)
    rw [range_all] at q
    exact q
  · have go : ∀ l : List Nat, (∀ i ∈ l, i < L.length) → (l.filterMap (L[·]?)).map (kh w) = l.map fun i => (es.map (·.1)).getD i 0 := by
      intro l
      induction l with
      | nil => intro _; rfl
      | cons i l ih =>
        intro hl
        have hi := hl i List.mem_cons_self
        have g : L[i]? = some L[i] := List.getElem?_eq_getElem hi
        rw [List.filterMap_cons_some g, List.map_cons, List.map_cons, ih fun j hj => hl j (List.mem_cons_of_mem _ hj)]
        congr 1
        have e : (es.map (·.1))[i]? = some (kh w L[i]) := by
          rw [Array.getElem?_map, at_ i, g]
          rfl
        rw [Array.getD_eq_getD_getElem?, e]
        rfl
    exact go _ fun i hi => List.mem_range.mp (pm.mem_iff.mp hi)
section
variable {P : Program} {w : World} {A : Around} {E : Value → Shared → Prop} {s : Shared} {h h' : Heap} {a x : Addr} {k : NestedKey} {L : List KA} {es : Array (Int × Value)} {ep : Nat} {t : SetTable}
/-- the table laid anew -/
theorem relay {o : Obj} (ho : s.heap.get? a = some o) (hex : o.ExactSet) (hd : o.data = .set es ep t) (row : es.toList = L.map (ent w)) (psz : t.place.size = es.size) (dm : t.dummies = #[]) (fl : es.size ≤ t.mask) (one : (L.map Prod.snd).Nodup)
    (key : ∀ p ∈ L, NKI s.heap p.2 p.1) (ld : w.params.followText "set-order" = true ∨ t.led = true) (low : L.length < 64) {want M : Nat} (hw : SetTable.sizeAbove want - 1 = M) (hM : MaskOk M) (top : SetTable.sizeAbove want ≤ 128) (air : L.length * 5 < M * 3)
    {Q : Unit → Shared → Prop} (hQ : ∀ hp L' es' ep' t', Heap.SameBut a s.heap hp → SetN w hp a L' es' ep' t' → L'.Perm L → Q () { s with heap := hp }) : wpAny (model P w) A (setRelay a want) Q E s := by
  have esz : es.size = L.length := by rw [← Array.length_toList, row, List.length_map]
  have fit : t.fits es.size = true := by
    unfold SetTable.fits SetTable.fill
    rw [dm, Bool.and_eq_true, beq_iff_eq, decide_eq_true_eq]
    show t.place.size = es.size ∧ t.place.size + 0 ≤ t.mask
    omega
  obtain ⟨t', ord, e, pm, T, em, el, _, _⟩ := relaid_ok t (hs := es.map (·.1)) (wanted := want) hw hM (by rw [Array.size_map, esz]; omega)
  rw [Array.size_map, esz] at pm
  obtain ⟨L2, r1, r2, r3⟩ := order_out (w := w) row pm
  rw [← r3] at T
  have sz2 : (ord.filterMap (es[·]?)).size = es.size := by rw [← Array.length_toList, r1, List.length_map, r2.length_eq, esz]
  rw [setRelay_eq]
  refine wpAny_bind (wpAny_setState_of ho hd fit ?_)
  dsimp only
  refine wp_if_neg (by rw [sizeLine_eq]; omega) ?_
  try refine wpAny_bind (wpAny_pure ?_)
  rw [e]
  dsimp only
  refine wpAny_bind ?_
  refine wp_if_neg (by rw [sz2]; simp) ?_
  try refine wpAny_bind (wpAny_pure ?_)
  refine wpAny_pure ?_
  dsimp only
  refine wpAny_storeSet_of ho hd ?_ (by rw [sz2, esz, sizeLine_eq]; omega)
  have sb : Heap.SameBut a s.heap (s.heap.update a (Obj.putSet (ord.filterMap (es[·]?)) t')) := Heap.SameBut.update ..
  exact hQ _ L2 _ (ep + 1) t' sb ⟨⟨_, store_at ho hd, ⟨hex.1, hex.2.1, hex.2.2⟩, rfl⟩, r1, T, (r2.map Prod.snd).nodup_iff.mpr one, fun p hp => (key p (r2.mem_iff.mp hp)).same ho hd sb, by rw [el]; exact ld, by rw [r2.length_eq, em]; exact air, by rw [r2.length_eq]; exact low⟩ r2
/-- a tuple is put in, if its like is not there -/
theorem putN (R : SetN w s.heap a L es ep t) (n : NKI s.heap k x) (hu : A.units + 8 < cLine) (few : L.length + 1 < 64) {Q : Bool → Shared → Prop}
    (hQ : ∀ c hp L' es' ep' t', Heap.SameBut a s.heap hp → SetN w hp a L' es' ep' t' → (k ∈ L.map Prod.snd → L' = L) → (k ∉ L.map Prod.snd → L'.Perm ((x, k) :: L)) → Q c { s with heap := hp }) :
    wpAny (model P w) A (setAddHashed a (.ref x) (k.hash w)) Q E s := by
  obtain ⟨o, ho, hex, hd⟩ := R.obj
  have hair := R.air
  have esz := R.esz
  have psz := R.psz
  unfold setAddHashed
  refine wpAny_holding ?_
  rw [show (100000 : Nat) = 99999 + 1 from rfl, setAddHashedIn_succ]
  refine wpAny_bind (wpAny_setState_of ho hd R.fit ?_)
  dsimp only
  refine wp_if_neg (by simp [byScan, Value.scannable]) ?_
  try refine wpAny_bind (wpAny_pure ?_)
  refine wpAny_bind (seek0 R n hu (fun hm => ?_) fun Z hm gap full => ?_)
  · dsimp only
    exact wpAny_pure (hQ false s.heap L es ep t (Heap.SameBut.refl a s.heap) R (fun _ => rfl) fun z => absurd hm z)
  · dsimp only
    refine wpAny_bind (wpAny_setState_of ho hd R.fit ?_)
    dsimp only
    obtain ⟨b1, b2, T1, m1, l1, _, _, _, f1⟩ := R.tab.put gap full
    generalize hpt : t.put (way t.mask (k.hash w) Z) = pt at b1 T1 m1 l1 f1 ⊢
    obtain ⟨t1, p⟩ := pt
    dsimp only at b1 T1 m1 l1 f1 ⊢
    subst b1
    generalize hp0 : SetTable.below t.place (way t.mask (k.hash w) Z) = p at b2 T1 ⊢
    have row1 : (SetTable.insertAt es p (k.hash w, Value.ref x)).toList = (L.take p ++ (x, k) :: L.drop p).map (ent w) := by
      rw [SetTable.toList_insertAt, R.row, List.map_append, List.map_cons, List.map_take, List.map_drop]
      rfl
    have T2 : TabOk t1 ((L.take p ++ (x, k) :: L.drop p).map (kh w)) := by
      rw [List.map_append, List.map_cons, List.map_take, List.map_drop]
      exact T1
    have pm : (L.take p ++ (x, k) :: L.drop p).Perm ((x, k) :: L) := put_perm L p (x, k)
    generalize L.take p ++ (x, k) :: L.drop p = L1 at row1 T2 pm
    generalize SetTable.insertAt es p (k.hash w, Value.ref x) = es1 at row1 ⊢
    have len1 : L1.length = L.length + 1 := pm.length_eq
    have esz1 : es1.size = L.length + 1 := by rw [← Array.length_toList, row1, List.length_map, len1]
    have one1 : (L1.map Prod.snd).Nodup := by
      refine (pm.map Prod.snd).nodup_iff.mpr ?_
      rw [List.map_cons]
      exact List.nodup_cons.mpr ⟨hm, R.one⟩
    obtain ⟨c, hc⟩ := byVal_key (P := P) (w := w) k (.ref x) 8 n.1 n.2
    have fin : ∀ t2 : SetTable, TabOk t2 (L1.map (kh w)) → t2.mask = t.mask → t2.led = t.led → t2.fill = L.length + 1 →
        wpAny (model P w) A (do
          storeSet a es1 t2
          if (!false && t2.tooFull) = true then setRelay a (SetTable.grown (es.size + 1))
          return true) Q E s := by
      intro t2 T3 m2 l2 f2
      refine wpAny_bind (wpAny_storeSet_of ho hd ?_ (by rw [esz1, sizeLine_eq]; omega))
      have sb : Heap.SameBut a s.heap (s.heap.update a (Obj.putSet es1 t2)) := Heap.SameBut.update ..
      have ho1 := store_at (es' := es1) (t' := t2) ho hd
      generalize s.heap.update a (Obj.putSet es1 t2) = h1 at sb ho1 ⊢
      have key1 : ∀ p ∈ L1, NKI h1 p.2 p.1 := fun p hp => by
        rcases List.mem_cons.mp (pm.mem_iff.mp hp) with e | hp
        · rw [e]
          exact n.same ho hd sb
        · exact (R.key p hp).same ho hd sb
      have ld1 : w.params.followText "set-order" = true ∨ t2.led = true := by rw [l2]; exact R.ld
      have ex1 : Obj.ExactSet { o with data := .set es1 (ep + 1) t2 } := ⟨hex.1, hex.2.1, hex.2.2⟩
      by_cases hf : t2.tooFull = true
      · have hfull : (L.length + 1) * 5 ≥ t2.mask * 3 := by
          have z := hf
          unfold SetTable.tooFull at z
          rw [decide_eq_true_eq, f2] at z
          exact z
        have two : (t.mask = 7 ∧ L.length = 4) ∨ (t.mask = 31 ∧ L.length = 18) := by
          rcases R.tab.mok with e | e | e
          · left; rw [m2, e] at hfull; rw [e] at hair; exact ⟨e, by omega⟩
          · right; rw [m2, e] at hfull; rw [e] at hair; exact ⟨e, by omega⟩
          · exfalso; rw [m2, e] at hfull; omega
        have psz1 : t2.place.size = es1.size := by rw [T3.sz, List.length_map, len1, esz1]
        have go : ∀ M, SetTable.sizeAbove (SetTable.grown (L.length + 1)) - 1 = M → MaskOk M → SetTable.sizeAbove (SetTable.grown (L.length + 1)) ≤ 128 → (L.length + 1) * 5 < M * 3 →
            wpAny (model P w) A (setRelay a (SetTable.grown (L.length + 1))) (fun _ s' => wpAny (model P w) A (pure true) Q E s') E { s with heap := h1 } := by
          intro M y1 y2 y3 y4
          refine relay (s := { s with heap := h1 }) ho1 ex1 rfl row1 psz1 T3.dm (by rw [esz1, m2]; rcases two with ⟨e, e2⟩ | ⟨e, e2⟩ <;> omega) one1 key1 ld1 (by omega) y1 y2 y3 (by rw [len1]; exact y4) ?_
          intro h2 L2 es2 ep2 t3 sb2 R2 pm2
          exact wpAny_pure (hQ true h2 L2 es2 ep2 t3 (sb.trans sb2) R2 (fun z => absurd z hm) fun _ => pm2.trans pm)
        rw [esz]
        first
          | (refine wpAny_bind ?_; refine wp_if_pos (by simp [hf]) ?_)
          | (refine wp_if_pos (by simp [hf]) ?_; refine wpAny_bind ?_)
        rcases two with ⟨_, e2⟩ | ⟨_, e2⟩
        · exact go 31 (by rw [e2, size_20]) (.inr (.inl rfl)) (by rw [e2, size_20]; decide) (by omega)
        · exact go 127 (by rw [e2, size_76]) (.inr (.inr rfl)) (by rw [e2, size_76]; decide) (by omega)
      · have hroom : ¬ (L.length + 1) * 5 ≥ t2.mask * 3 := fun z => hf (by
          unfold SetTable.tooFull
          rw [decide_eq_true_eq, f2]
          exact z)
        first
          | refine wp_if_neg (by simp [hf]) ?_
          | (refine wpAny_bind ?_; refine wp_if_neg (by simp [hf]) ?_; refine wpAny_pure ?_)
        exact wpAny_pure (hQ true h1 L1 es1 (ep + 1) t2 sb ⟨⟨_, ho1, ex1, rfl⟩, row1, T3, one1, key1, ld1, by rw [len1]; omega, by omega⟩ (fun z => absurd z hm) fun _ => pm)
    rw [List.length_map] at f1
    cases hpl : t1.plain with
    | true =>
      first
        | (refine wpAny_bind ?_; refine wp_if_pos rfl ?_; refine hc _ _ _ ?_)
        | refine wp_if_pos rfl (wpAny_bind (hc _ _ _ ?_))
      cases c with
      | true => exact fin t1 T2 m1 l1 f1
      | false => exact fin { t1 with plain := false } ⟨T2.ris, T2.dm, T2.sz, T2.mok, T2.bd, T2.reach⟩ m1 l1 f1
    | false =>
      first
        | (refine wpAny_bind ?_; refine wp_if_neg Bool.false_ne_true ?_; refine wpAny_pure ?_)
        | refine wp_if_neg Bool.false_ne_true (wpAny_bind (wpAny_pure ?_))
      exact fin t1 T2 m1 l1 f1
end
end Own

namespace Own
open PySem PySem.Spec PyProof.Rows L2 Evl
/-- what is in the set behind i of the tuples zs -/
structure Has (zs : List KA) (i : Nat) (L : List KA) : Prop where
  le : L.length ≤ i
  of : ∀ p ∈ L, p ∈ zs.take i
  on : ∀ p ∈ zs.take i, p.2 ∈ L.map Prod.snd
theorem Has.none (zs : List KA) : Has zs 0 [] := ⟨Nat.le_refl _, fun p hp => (by cases hp), fun p hp => by
  rw [List.take_zero] at hp
  cases hp⟩
theorem Has.step {zs L L' : List KA} {i : Nat} {z : KA} (g : Has zs i L) (hz : zs[i]? = some z) (c1 : z.2 ∈ L.map Prod.snd → L' = L) (c2 : z.2 ∉ L.map Prod.snd → L'.Perm (z :: L)) : Has zs (i + 1) L' := by
  have e : zs.take (i + 1) = zs.take i ++ [z] := take_next hz
  by_cases m : z.2 ∈ L.map Prod.snd
  · rw [c1 m]
    refine ⟨Nat.le_succ_of_le g.le, fun p hp => ?_, fun p hp => ?_⟩
    · rw [e]
      exact List.mem_append_left _ (g.of p hp)
    · rw [e, List.mem_append, List.mem_singleton] at hp
      rcases hp with hp | rfl
      · exact g.on p hp
      · exact m
  · have pm := c2 m
    refine ⟨?_, fun p hp => ?_, fun p hp => ?_⟩
    · rw [pm.length_eq, List.length_cons]
      exact Nat.succ_le_succ g.le
    · rw [e, List.mem_append, List.mem_singleton]
      rcases List.mem_cons.mp (pm.mem_iff.mp hp) with q | q
      · exact .inr q
      · exact .inl (g.of p q)
    · rw [(pm.map Prod.snd).mem_iff, List.map_cons, List.mem_cons]
      rw [e, List.mem_append, List.mem_singleton] at hp
      rcases hp with hp | rfl
      · exact .inr (g.on p hp)
      · exact .inl rfl
section
variable {P : Program} {w : World} {A : Around} {E : Value → Shared → Prop} {s : Shared} {a : Addr}
theorem fillN {it : Addr} {fa wa : List Addr} {G : Array GenState → Array GenState → Prop} {n : Nat} {Pv : Nat → Value → Prop} {St : Nat → Shared → Prop} {R : Result → Shared → Prop}
    (W : WalksS P w A.in1 it fa wa G n Pv St) (hfa : a ∉ fa) (zs : List KA) (hn : n = zs.length) (low : zs.length < 64) (hv : ∀ i v, Pv i v → ∃ z, zs[i]? = some z ∧ v = .ref z.1) (h0 : Heap) (key : ∀ z ∈ zs, NKI h0 z.2 z.1) (ha0 : h0.get? a = none) (hw0 : ∀ b ∈ wa, h0.get? b = none) (hu : A.in1.units + 8 < cLine) :
    ∀ (m i : Nat) (s : Shared), n - i = m → i ≤ n → St i s → (∀ b o, h0.get? b = some o → s.heap.get? b = some o) → (∃ L es ep t, SetN w s.heap a L es ep t ∧ Has zs i L) →
      (∀ s' L es ep t, Moved (a :: wa) G s s' → SetN w s'.heap a L es ep t → Has zs n L → (∀ b o, h0.get? b = some o → s'.heap.get? b = some o) → R (.ok (.ret .none)) s') →
      codeAny (model P w) A (.builtin "set.update.loop" ⟨[.ref a, .ref it], []⟩) R s := by
  have hwa : a ∉ wa := fun q => hfa (W.sub _ q)
  have more : ∀ b ∈ wa, b ∈ a :: wa := fun b q => List.mem_cons_of_mem _ q
  have stay : ∀ {s1 s2 : Shared}, Moved wa G s1 s2 → (∀ b o, h0.get? b = some o → s1.heap.get? b = some o) → ∀ b o, h0.get? b = some o → s2.heap.get? b = some o := fun mv q b o e => mv.heap b o (fun hb => by rw [hw0 b hb] at e; cases e) (q b o e)
  intro m
  induction m with
  | zero =>
    intro i s hm hi hst q ⟨L, es, ep, t, X, g⟩ hR
    have ei : i = n := by omega
    subst ei
    refine codeAny_builtin F.entry_set_update_loop ?_
    rw [Around.under_plainId F.plain_set_update_loop _]
    show wpAny _ A.in1 (pyNext (.ref it) >>= _) _ _ s
    refine wpAny_bind (W.done s _ _ hst fun s' mv => ?_)
    show wpAny _ A.in1 (ret Value.none) _ _ s'
    have q' := stay mv q
    exact wpAny_pure (hR s' L es ep t (mv.mono more) (X.keep (fun o e => mv.heap a o hwa e) fun p hp => (key p (List.mem_of_mem_take (g.of p hp))).keep q') g q')
  | succ m ih =>
    intro i s hm hi hst q ⟨L, es, ep, t, X, g⟩ hR
    have lt : i < n := by omega
    refine codeAny_builtin F.entry_set_update_loop ?_
    rw [Around.under_plainId F.plain_set_update_loop _]
    show wpAny _ A.in1 (pyNext (.ref it) >>= _) _ _ s
    refine wpAny_bind (W.item i s _ _ lt hst fun v s' pv hst' mv => ?_)
    obtain ⟨z, hz, rfl⟩ := hv i v pv
    have q' := stay mv q
    have zm := List.mem_of_getElem? hz
    have X' : SetN w s'.heap a L es ep t := X.keep (fun o e => mv.heap a o hwa e) fun p hp => (key p (List.mem_of_mem_take (g.of p hp))).keep q'
    have nz : NKI s'.heap z.2 z.1 := (key z zm).keep q'
    show wpAny _ A.in1 (holding [Value.ref z.1] (setAdd a (.ref z.1)) >>= _) _ _ s'
    refine wpAny_bind (wpAny_holding ?_)
    unfold setAdd
    refine wpAny_holding ?_
    refine wpAny_bind ((nestedKind P w).pyHash hu nz ?_)
    refine putN (s := { s' with toks := s'.toks + (nestedKind P w).draws z.2 }) X' nz hu (by have := g.le; omega) fun c hp L' es' ep' t' sb X2 c1 c2 => ?_
    have g' := g.step hz c1 c2
    have q2 : ∀ b o, h0.get? b = some o → hp.get? b = some o := fun b o e => (sb.2 b (fun y => by rw [y, ha0] at e; cases e)).trans (q' b o e)
    refine wpAny_pure ⟨plainId_quiet F.plain_set_update_loop _, ih (i + 1) _ (by omega) lt (W.frame _ s' _ _ hst' (Nat.le_add_right _ _) fun b hb2 o e => ?_) q2 ⟨L', es', ep', t', X2, g'⟩ fun s2 L2 es2 ep2 t2 mv2 X3 g3 q3 => ?_⟩
    · rw [sb.2 b (fun y : b = a => hfa (by rw [← y]; exact hb2))]
      exact e
    · refine hR s2 L2 es2 ep2 t2 (Moved.trans W.gtrans ((mv.mono more).then_heap (Nat.le_add_right _ _) fun b o hb2 e => ?_) mv2) X3 g3 q3
      rw [sb.2 b (fun y : b = a => hb2 (by rw [y]; exact List.mem_cons_self))]
      exact e
set_option maxRecDepth 100000 in
set_option maxHeartbeats 3200000 in
theorem setN_call {p : Addr} {items : Array Value} (zs : List KA) {Q : Value → Shared → Prop} (hh : A.handled = none) (hp : s.heap.IsList p items) (are : items.toList = zs.map fun z => Value.ref z.1) (key : ∀ z ∈ zs, NKI s.heap z.2 z.1) (low : zs.length < 64) (hu : A.units + 12 < cLine)
    (fin : ∀ (hp' : Heap) (tk : Nat) L es ep t, SetN w hp' s.heap.objs.size L es ep t → Has zs zs.length L → (∀ b o, s.heap.get? b = some o → hp'.get? b = some o) → Q (.ref s.heap.objs.size) { s with heap := hp', toks := tk }) :
    wpAny (model P w) A (call (.type "set") [.ref p]) Q E s := by
  have size : items.size = zs.length := by rw [← Array.length_toList, are, List.length_map]
  obtain ⟨c, tl, hmro⟩ := F.called_set.mro
  have hmade := F.called_set.made
  have hsub := F.called_set.sub
  refine wpAny_call (codeAny_of_tree ?_)
  show wpAny _ _ (callAny (.type "set") _) _ _ _
  refine wpAny_pure ⟨Code.quiet_builtin _ (by decide +kernel), codeAny_builtin F.entry_type_call ?_⟩
  rw [Around.under_plain (weight_type_call_type "set" [.ref p] []) rfl]
  have q1 := F.called_set.notType
  have q2 := F.called_set.canCreate
  have q3 := F.typeCall_set_1 (.ref p)
  repeat (any_goals (first | assumption | wp_step))
  refine codeAny_mono (code_set_led1 (.ref p) (E := E) (Q₁ := fun ob s1 => ob = .ref s.heap.objs.size ∧ s1 = { s with heap := s.heap.push { cls := .type "set", dict := none, data := .set #[] 0 (.fresh 0 0 (!w.params.followText "set-order")) } }) ⟨rfl, rfl⟩) fun r s1 hr => ?_
  cases r with
  | error e => exact hr
  | ok fl =>
    cases fl with
    | ret ob =>
      obtain ⟨rfl, rfl⟩ := hr
      have gS : (s.heap.push { cls := .type "set", dict := none, data := .set #[] 0 (.fresh 0 0 (!w.params.followText "set-order")) }).get? s.heap.objs.size = some { cls := .type "set", dict := none, data := .set #[] 0 (.fresh 0 0 (!w.params.followText "set-order")) } := Heap.get?_push_size _ rfl
      have tS : Shared.TypeIs { s with heap := s.heap.push { cls := .type "set", dict := none, data := .set #[] 0 (.fresh 0 0 (!w.params.followText "set-order")) } } (.ref s.heap.objs.size) "set" := ⟨_, gS, rfl⟩
      have q4 := F.called_set.init.lookup
      have q5 := F.called_set.init.bind (.ref s.heap.objs.size)
      repeat (any_goals (first | assumption | wp_step))
      refine codeAny_mono (codeAny_call_builtin (R := wants (fun r s2 => r = .none ∧ ∃ hp' tk L es ep t, s2 = { s with heap := hp', toks := tk } ∧ SetN w hp' s.heap.objs.size L es ep t ∧ Has zs zs.length L ∧
          (∀ b o, s.heap.get? b = some o → hp'.get? b = some o)) E) F.called_set.init.plain F.entry_set_init (check_set_init_1 tS ?_)) fun r2 s2 hr2 => ?_
      · obtain ⟨⟨oc, od, oda, osl⟩, hol, hcl, nl, hdl⟩ := hp
        simp only at hcl hdl
        subst hcl hdl
        have hol' : (s.heap.push { cls := .type "set", dict := none, data := .set #[] 0 (.fresh 0 0 (!w.params.followText "set-order")) }).get? p = some { cls := .type "list", dict := od, data := .seq items nl, slots := osl } := Heap.get?_push_of_some _ hol
        have q6 := F.sub_list_set
        have q7 := F.sub_list_frozenset
        have q8 : (Value.type "list" == Value.type "dict") = false := by decide
        have hl1 : (s.heap.push { cls := .type "set", dict := none, data := .set #[] 0 (.fresh 0 0 (!w.params.followText "set-order")) }).IsList p items := ⟨_, hol', rfl, nl, rfl⟩
        unfold Builtin.«set.__init__» noKeywords Builtin.Frozenset.updateFrom
        generalize hPI : pyIter = PI
        wp_walk
        subst hPI
        refine wpAny_pyIter_list hl1 ?_
        refine wpAny_bind (wpAny_runValue ?_)
        have lt : p < s.heap.objs.size := Heap.lt_size hol
        have calm3 : A.in1.in1.in1.handled = none := by simp [hh]
        have neI : p ≠ (s.heap.push { cls := .type "set", dict := none, data := .set #[] 0 (.fresh 0 0 (!w.params.followText "set-order")) }).objs.size := by
          rw [Heap.size_push]
          exact Nat.ne_of_lt (Nat.lt_succ_of_lt lt)
        have notin : s.heap.objs.size ∉ [(s.heap.push { cls := .type "set", dict := none, data := .set #[] 0 (.fresh 0 0 (!w.params.followText "set-order")) }).objs.size, p] := by
          rw [Heap.size_push]
          simp only [List.mem_cons, List.mem_singleton, List.not_mem_nil, or_false, not_or]
          exact ⟨Nat.ne_of_lt (Nat.lt_succ_self _), Nat.ne_of_gt lt⟩
        have each : ∀ (i : Nat) (v : Value), items[i]? = some v → ∃ z, zs[i]? = some z ∧ v = .ref z.1 := fun i v hv => by
          have g : items.toList[i]? = some v := by rw [Array.getElem?_toList]; exact hv
          rw [are, List.getElem?_map] at g
          obtain ⟨z, hz, e⟩ := Option.map_eq_some_iff.mp g
          exact ⟨z, hz, e.symm⟩
        have out : ∀ b, s.heap.objs.size ≤ b → s.heap.get? b = none := fun b hb => Heap.get?_none_of_le hb
        refine fillN ((Walks.list calm3 _ p neI items).toS) notin zs size low each s.heap key (out _ (Nat.le_refl _)) (fun b hb => out b (by
            rw [List.mem_singleton.mp hb, Heap.size_push]
            exact Nat.le_succ _)) (by simp only [Around.in1_units]; omega) (items.size - 0) 0 _ (by omega) (Nat.zero_le _) ⟨⟨_, Heap.get?_push_size _ rfl, rfl, rfl⟩, (hl1.push _)⟩ (fun b o e => Heap.get?_push_of_some _ (Heap.get?_push_of_some _ e))
          ⟨[], #[], 0, _, SetN.fresh (Heap.get?_push_of_some _ gS), .none zs⟩ (fun s' L es ep t mv X g kk => ?_)
        obtain ⟨hp', g2, d2, tk, o2⟩ := s'
        have eg : g2 = s.gens := mv.gens
        have ed : d2 = s.drawn := mv.drawn
        have eo : o2 = s.os := mv.os
        subst eg ed eo
        show wpAny _ _ _ _ _ _
        refine wpAny_pure ?_
        show wpAny _ _ (ret Value.none) _ _ _
        rw [size] at g
        exact wpAny_pure ⟨rfl, hp', tk, L, es, ep, t, rfl, X, g, kk⟩
      · cases r2 with
        | error e => exact hr2
        | ok fl2 =>
          cases fl2 with
          | ret r =>
            obtain ⟨rfl, hp', tk, L, es, ep, t, rfl, X, g, kk⟩ := hr2
            repeat (any_goals (first | assumption | wp_step))
            exact fin _ _ _ _ _ _ X g kk
          | _ => exact hr2.elim
    | _ => exact hr.elim
end
end Own

namespace Own
open PySem PySem.Spec PyProof.Rows L2 Evl
/-! ### data as keys, and their order -/
mutual
/-- ints, texts and tuples of such -/
def kyD : PyData → Bool
  | .int _ => true
  | .str _ => true
  | .tuple ds => kyDs ds
  | _ => false
def kyDs : List PyData → Bool
  | [] => true
  | d :: ds => kyD d && kyDs ds
end
mutual
def nk : PyData → NestedKey
  | .int i => .num i
  | .str z => .text z
  | .tuple ds => .tup (nks ds)
  | _ => .none
def nks : List PyData → List NestedKey
  | [] => []
  | d :: ds => nk d :: nks ds
end
theorem kyDs_cons {d : PyData} {ds : List PyData} : kyDs (d :: ds) = (kyD d && kyDs ds) := rfl
theorem kyDs_iff {ds : List PyData} : kyDs ds = true ↔ ∀ d ∈ ds, kyD d = true := by
  induction ds with
  | nil => exact ⟨fun _ d hd => (by cases hd), fun _ => rfl⟩
  | cons x ds ih =>
    rw [kyDs_cons, Bool.and_eq_true, ih]
    exact ⟨fun h d hd => (List.mem_cons.mp hd).elim (fun e => e ▸ h.1) (h.2 d), fun h => ⟨h x List.mem_cons_self, fun d hd => h d (List.mem_cons_of_mem _ hd)⟩⟩
mutual
theorem nk_inj : ∀ (d d' : PyData), kyD d = true → kyD d' = true → nk d = nk d' → d = d'
  | .int i, d', _, h', e => by
    cases d' with
    | int j => cases e; rfl
    | str _ => cases e
    | tuple _ => rw [nk, nk] at e; cases e
    | _ => cases h'
  | .str z, d', _, h', e => by
    cases d' with
    | int j => cases e
    | str _ => cases e; rfl
    | tuple _ => rw [nk, nk] at e; cases e
    | _ => cases h'
  | .tuple ds, d', h, h', e => by
    cases d' with
    | int j => rw [nk, nk] at e; cases e
    | str _ => rw [nk, nk] at e; cases e
    | tuple ds' =>
      rw [nk, nk] at e
      injection e with e
      rw [kyD] at h h'
      rw [nks_inj ds ds' h h' e]
    | _ => cases h'
theorem nks_inj : ∀ (ds ds' : List PyData), kyDs ds = true → kyDs ds' = true → nks ds = nks ds' → ds = ds'
  | [], [], _, _, _ => rfl
  | [], _ :: _, _, _, e => by rw [nks, nks] at e; cases e
  | _ :: _, [], _, _, e => by rw [nks, nks] at e; cases e
  | d :: ds, d' :: ds', h, h', e => by
    rw [nks, nks] at e
    injection e with e1 e2
    rw [kyDs, Bool.and_eq_true] at h h'
    rw [nk_inj d d' h.1 h'.1 e1, nks_inj ds ds' h.2 h'.2 e2]
end
mutual
theorem nk_depth : ∀ (d : PyData), kyD d = true → (nk d).depth = d.depth
  | .int i, _ => rfl
  | .str z, _ => rfl
  | .tuple ds, h => by
    rw [kyD] at h
    show NestedKey.depthAll (nks ds) + 1 = PyData.depthAll ds + 1
    rw [nks_depth ds h]
theorem nks_depth : ∀ (ds : List PyData), kyDs ds = true → NestedKey.depthAll (nks ds) = PyData.depthAll ds
  | [], _ => rfl
  | d :: ds, h => by
    rw [kyDs, Bool.and_eq_true] at h
    show max (nk d).depth (NestedKey.depthAll (nks ds)) = max d.depth (PyData.depthAll ds)
    rw [nk_depth d h.1, nks_depth ds h.2]
end
mutual
theorem read_one {h : Heap} : ∀ (d d' : PyData) (v : Value) (as as' : List Addr), kyD d = true → kyD d' = true → Reads h v d as → Reads h v d' as' → d = d'
  | .int i, d', _, _, _, _, _, r, r' => by
    cases r
    cases r'
    rfl
  | .str z, d', _, _, _, _, _, r, r' => by
    cases r
    cases r'
    rfl
  | .tuple ds, d', _, _, _, k, k', r, r' => by
    cases r with
    | tuple h1 h2 h3 h4 =>
      cases r' with
      | tuple g1 g2 g3 g4 =>
        rw [h1] at g1
        cases g1
        rw [h3] at g3
        cases g3
        rw [kyD] at k k'
        rw [reads_one ds _ _ _ _ k k' h4 g4]
      | list g1 g2 g3 g4 => cases k'
      | dict g1 g2 g3 g4 g5 => cases k'
  | .none, _, _, _, _, k, _, _, _ => by cases k
  | .bool _, _, _, _, _, k, _, _, _ => by cases k
  | .list _, _, _, _, _, k, _, _, _ => by cases k
  | .dict _, _, _, _, _, k, _, _, _ => by cases k
theorem reads_one {h : Heap} : ∀ (ds ds' : List PyData) (vs : List Value) (as as' : List Addr), kyDs ds = true → kyDs ds' = true → ReadsAll h vs ds as → ReadsAll h vs ds' as' → ds = ds'
  | [], _, _, _, _, _, _, r, r' => by
    cases r
    cases r'
    rfl
  | d :: ds, _, _, _, _, k, k', r, r' => by
    cases r with
    | cons h1 h2 =>
      cases r' with
      | cons g1 g2 =>
        rw [kyDs_cons, Bool.and_eq_true] at k k'
        rw [read_one d _ _ _ _ k.1 k'.1 h1 g1, reads_one ds _ _ _ _ k.2 k'.2 h2 g2]
end
section
variable {X : Cx} {pk : List (Addr × Obj)} {σ : L2.St} {H : Hp} {s : Shared}
mutual
theorem da_key (I : Inv X pk σ H s) : ∀ (d : PyData) (v : V) (u : Value), kyD d = true → Da H v d → RelV v u → NestedIs s.heap (nk d) u ∧ ∃ as, Reads s.heap u d as
  | .int i, _, _, _, h, r => by
    cases h
    obtain ⟨t, rfl⟩ := r
    exact ⟨.int i t, _, .int i t⟩
  | .str x, _, _, _, h, r => by
    cases h
    obtain ⟨t, rfl⟩ := r
    exact ⟨.text x t, _, .str x t⟩
  | .tuple ds, _, _, k, h, r => by
    cases h with
    | tup hh ha =>
      cases r
      rw [kyD] at k
      obtain ⟨its, rv, ⟨o, ho, hc, n, hd⟩, _⟩ := I.tuple (st_of hh)
      obtain ⟨q1, as, q2⟩ := da_keys I ds _ its k ha rv
      refine ⟨?_, _, .tuple ho hc hd q2⟩
      rw [nk]
      exact .tup ho hc hd q1
  | .none, _, _, k, _, _ => by cases k
  | .bool _, _, _, k, _, _ => by cases k
  | .list _, _, _, k, _, _ => by cases k
  | .dict _, _, _, k, _, _ => by cases k
theorem da_keys (I : Inv X pk σ H s) : ∀ (ds : List PyData) (vs : List V) (us : List Value), kyDs ds = true → DaAll H vs ds → Vals vs us → NestedAll s.heap (nks ds) us ∧ ∃ as, ReadsAll s.heap us ds as
  | [], _, _, _, h, r => by
    cases h
    cases r
    exact ⟨.nil, _, .nil⟩
  | d :: ds, _, _, k, h, r => by
    rw [kyDs, Bool.and_eq_true] at k
    cases h with
    | cons h1 h2 =>
      cases r with
      | cons r1 r2 =>
        obtain ⟨a1, a2, a3⟩ := da_key I d _ _ k.1 h1 r1
        obtain ⟨b1, b2, b3⟩ := da_keys I ds _ _ k.2 h2 r2
        exact ⟨.cons a1 b1, _, .cons a3 b3⟩
end
end
/-! ### tuples that begin with a text, in order -/
/-- those that begin alike go on alike -/
structure Mix (ds : List PyData) : Prop where
  ky : ∀ d ∈ ds, kyD d = true
  hd : ∀ d ∈ ds, ∃ z r, d = .tuple (.str z :: r)
  al : ∀ z r r', .tuple (.str z :: r) ∈ ds → .tuple (.str z :: r') ∈ ds → PySem.W.alikeAll r r' = true
theorem key_at {h : Heap} {ds : List PyData} (ky : ∀ d ∈ ds, kyD d = true) {v : Value} {d : PyData} {as : List Addr} (hd : d ∈ ds) (r : Reads h v d as) : (PySem.W.dataKind h ds).keyOf v = some (PySem.W.keyToks d) := by
  have q : ∃ d, d ∈ ds ∧ ∃ as, Reads h v d as := ⟨d, hd, as, r⟩
  have e : (PySem.W.dataKind h ds).keyOf v = some (PySem.W.keyToks q.choose) := by
    show (open Classical in if q : ∃ d, d ∈ ds ∧ ∃ as, Reads h v d as then some (PySem.W.keyToks q.choose) else none) = _
    rw [dif_pos q]
  obtain ⟨m, as', r'⟩ := q.choose_spec
  rw [e, read_one _ _ _ _ _ (ky _ m) (ky _ hd) r' r]
section
variable {P : Program} {w : World} {A : Around} {s : Shared}
theorem sorts_mix {vs : List Value} {ds : List PyData} (e : PySem.W.EachIs (fun v d => ∃ as, Reads s.heap v d as) vs ds) (hm : Mix ds) (hu : ∀ d ∈ ds, A.units + d.depth < cLine) : PySem.W.SortsAt P w A s (PySem.W.dataKind s.heap ds) vs := by
  refine ⟨fun v hv => ?_, tuples' true, ?_, fun h2 E Q hq => ?_⟩
  · obtain ⟨d, hd, as, r⟩ := e.left v hv
    exact ⟨_, key_at hm.ky hd r⟩
  · intro E x y a b Q ha hb hq
    obtain ⟨d, as, hd, ra, rfl⟩ := PySem.W.dataKind_inv ha
    obtain ⟨d', as', hd', rb, rfl⟩ := PySem.W.dataKind_inv hb
    have room := hu d hd
    obtain ⟨z, r, rfl⟩ := hm.hd d hd
    obtain ⟨z', r', rfl⟩ := hm.hd d' hd'
    have hq2 : Q (PySem.W.dataLt (.tuple (.str z :: r)) (.tuple (.str z' :: r'))) s := hq
    rw [PySem.W.dataLt_tuple] at hq2
    clear hq
    cases ra with
    | @tuple l o xs n _ _ h1 h2 h3 h4 =>
      cases rb with
      | @tuple l' o' xs' n' _ _ k1 k2 k3 k4 =>
        have n1 : xs.size = (PyData.str z :: r).length := by simpa using SeqAt.ReadsAll.length _ _ _ h4
        have n2 : xs'.size = (PyData.str z' :: r').length := by simpa using SeqAt.ReadsAll.length _ _ _ k4
        refine PySem.W.kat_lt h1 h3 k1 k3 ?_
        rw [n1, n2]
        generalize xs.toList = ls at h4
        generalize xs'.toList = ls' at k4
        cases h4 with
        | cons r1 r2 =>
          cases k4 with
          | cons q1 q2 =>
            rw [List.zip_cons_cons]
            have al : PySem.W.alike (.str z) (.str z') = true := by simp [PySem.W.alike]
            have d0 : PyData.depthAll r + 1 ≤ (PyData.tuple (.str z :: r)).depth := by
              show PyData.depthAll r + 1 ≤ max 0 (PyData.depthAll r) + 1
              omega
            refine PySem.W.kat_cons (PySem.W.eqAt_alike _ _ A s _ _ _ _ r1 q1 al (by show A.units + min 0 0 < cLine; omega) P w _ _ ?_)
            cases hx : PyData.eqv (.str z) (.str z') with
            | true =>
              have ez : z = z' := by simpa [PyData.eqv] using hx
              rw [PySem.W.dataLt_all_yes al hx] at hq2
              subst ez
              refine PySem.W.kat_yes (PySem.W.katLex_alike r r' 1 _ _ _ _ r2 q2 (hm.al z r r' hd hd') (by omega) (fun _ hi => absurd hi (by decide)) ?_ hq2)
              rw [List.length_cons, List.length_cons]
              exact decide_eq_decide.mpr (by omega)
            | false =>
              rw [PySem.W.dataLt_all_no al hx] at hq2
              exact PySem.W.kat_no (PySem.W.oneLt_alike (fun _ xs ex => by cases ex) r1 q1 al (fun ex => by cases ex) (by show A.units + min 0 0 < cLine; omega) hq2)
  · obtain ⟨fs, t1, t2, t3⟩ := PySem.W.each_katTups e fun d hd => by
      obtain ⟨z, r, rfl⟩ := hm.hd d hd
      exact ⟨_, _, rfl⟩
    refine PySem.W.kat_kind (T := Value.type "str") t1 (by omega) (fun f hf => ?_) (beq_self_eq_true _) ?_
    · obtain ⟨x, r, as, m1, m2⟩ := t3 f hf
      obtain ⟨z, r', ez⟩ := hm.hd _ m1
      cases ez
      cases m2
      exact PySem.W.Looks.of_pure rfl
    · have e1 : (Value.type "str" != Value.type "tuple") = true := by first | rfl | decide
      rw [e1]
      exact hq
end
end Own

namespace Own
open PySem PySem.Spec PyProof.Rows L2 Evl
/-- ascending -/
def ascD (ds : List PyData) : Prop := ds.Pairwise fun d d' => PySem.W.dataLt d' d = false
theorem Mix.sub {ds ds' : List PyData} (m : Mix ds) (h : ∀ d ∈ ds', d ∈ ds) : Mix ds' := ⟨fun d hd => m.ky d (h d hd), fun d hd => m.hd d (h d hd), fun z r r' h1 h2 => m.al z r r' (h _ h1) (h _ h2)⟩
theorem ms_asc {β : Type} (enc : β → PyData) (bs : List β) : ascD ((bs.mergeSort (PySem.W.dataLe false enc)).map enc) := by
  refine List.pairwise_map.mpr ((PySem.W.sort_pairwise (PySem.W.sortLe_total _ _ _) bs).imp fun {b b'} h => ?_)
  have h : (!PySem.W.dataLt (enc b') (enc b)) = true := h
  rw [Bool.not_eq_true'] at h
  exact h
theorem keys_mix {β : Type} {h : Heap} {enc : β → PyData} : ∀ {vs : List Value} {bs : List β} {ds : List PyData}, (∀ d ∈ ds, kyD d = true) → (∀ b ∈ bs, enc b ∈ ds) → PySem.W.EachIs (fun v b => ∃ as, Reads h v (enc b) as) vs bs → PySem.W.EachIs (fun v b => (PySem.W.dataKind h ds).keyOf v = some (PySem.W.keyToks (enc b))) vs bs
  | _, _, _, _, _, .nil => .nil
  | _, _, _, ky, m, .cons ⟨as, r⟩ t => .cons (key_at ky (m _ List.mem_cons_self) r) (keys_mix ky (fun b hb => m b (List.mem_cons_of_mem _ hb)) t)
theorem each_map' {β γ : Type} {R : Value → γ → Prop} (f : β → γ) : ∀ {vs : List Value} {bs : List β}, PySem.W.EachIs (fun v b => R v (f b)) vs bs → PySem.W.EachIs R vs (bs.map f)
  | _, _, .nil => .nil
  | _, _, .cons h t => .cons h (each_map' f t)
section
variable {P : Program} {w : World} {A : Around} {E : Value → Shared → Prop} {s : Shared}
/-- sorted(xs) of such tuples -/
theorem sort_mix {β : Type} {R : Value → β → Prop} {enc : β → PyData} {l : Addr} {vs : List Value} {bs : List β} {Q : Value → Shared → Prop} (hl : s.heap.IsList l vs.toArray) (e : PySem.W.EachIs R vs bs) (er : PySem.W.EachIs (fun v b => ∃ as, Reads s.heap v (enc b) as) vs bs) (hm : Mix (bs.map enc))
    (hu : ∀ b ∈ bs, A.units + 2 + (enc b).depth < cLine) (hL : vs.length ≤ sizeLine) (fin : ∀ out : List Value, PySem.W.EachIs R out (bs.mergeSort (PySem.W.dataLe false enc)) → Q (.ref (s.heap.objs.size + 1)) { s with heap := sortedAll s.heap vs out.toArray }) :
    wpAny (model P w) A (call (.builtin "sorted") [.ref l]) Q E s := by
  have er' : PySem.W.EachIs (fun v b => ∃ as, Reads (PySem.W.sortingHeap (PySem.W.copyHeap s.heap vs) (s.heap.objs.size + 1) vs) v (enc b) as) vs bs := er.mono fun _ _ ⟨as, r⟩ => ⟨as, PyProof.Rows.Reads.keeps (fun _ _ => PySem.W.sorting_copy_old) r⟩
  refine PySem.W.sorted_vals hl (sorts_mix (s := { s with heap := PySem.W.sortingHeap (PySem.W.copyHeap s.heap vs) (s.heap.objs.size + 1) vs }) (each_map' (R := fun v d => ∃ as, Reads (PySem.W.sortingHeap (PySem.W.copyHeap s.heap vs) (s.heap.objs.size + 1) vs) v d as) enc er') hm (fun d hd => ?_)) hL (fin _ ?_)
  · obtain ⟨b, hb, rfl⟩ := List.mem_map.mp hd
    exact hu b hb
  · exact PySem.W.sortVals_each (κ := PySem.W.dataKind (PySem.W.sortingHeap (PySem.W.copyHeap s.heap vs) (s.heap.objs.size + 1) vs) (bs.map enc)) (rev := false) (fun b => PySem.W.keyToks (enc b)) e (keys_mix hm.ky (fun b hb => List.mem_map.mpr ⟨b, hb, rfl⟩) er')
/-- sorted(set) of such tuples -/
theorem sort_set {a : Addr} {L : List (Addr × PyData)} {es : Array (Int × Value)} {ep : Nat} {t : SetTable} {Q : Value → Shared → Prop} (R : SetN w s.heap a (L.map fun q => (q.1, nk q.2)) es ep t) (hh : A.handled = none) (hm : Mix (L.map Prod.snd)) (hr : ∀ q ∈ L, ∃ as, Reads s.heap (.ref q.1) q.2 as) (hu : ∀ q ∈ L, A.units + 2 + q.2.depth < cLine)
    (fin : ∀ s' p (out : List Value) (c : Nat) (L2 : List (Addr × PyData)), (∀ b o, s.heap.get? b = some o → s'.heap.get? b = some o) → s'.gens = s.gens → s'.os = s.os → s.heap.objs.size ≤ p → s'.heap.get? p = some (seqObj "list" out.toArray c) → out = L2.map (fun q => Value.ref q.1) → L2.Perm L → ascD (L2.map Prod.snd) → Q (.ref p) s') :
    wpAny (model P w) A (call (.builtin "sorted") [.ref a]) Q E s := by
  obtain ⟨o, ho, hex, hd⟩ := R.obj
  have esz := R.esz
  have low := R.low
  have lowL : L.length < 64 := by rw [List.length_map] at low; exact low
  rw [List.length_map] at esz
  refine Calls.call_function_entry kind_sorted plain_sorted entry_sorted (args_sorted1 _) ?_
  unfold Builtin.«sorted»
  refine wpAny_bind (m := checkCount "sorted" 1 1 _) (wpAny_pure ?_)
  refine wpAny_bind (collect_set (A := A.in1) hh ⟨o, ho, hex.1, hd⟩ R.fit (by have : scanBound = 4096 := rfl; omega) R.tab.ris R.ld fun s1 vs k1 sz1 g1 o1 pm => ?_)
  have eL : es.toList.map Prod.snd = L.map fun q => Value.ref q.1 := by
    rw [R.row, List.map_map, List.map_map]
    rfl
  rw [show (es.toList.map (·.2)) = L.map fun q => Value.ref q.1 from eL] at pm
  obtain ⟨L1, p1, e1⟩ := perm_lift (fun q : Addr × PyData => Value.ref q.1) pm L rfl
  have lenV : vs.length = L.length := by rw [← e1, List.length_map, p1.length_eq]
  refine wpAny_bind (wpAny_newList ?_ (by rw [sizeLine_eq]; omega))
  have hoL : (s1.heap.push (seqObj "list" vs.toArray 0)).get? s1.heap.objs.size = some (seqObj "list" vs.toArray 0) := Heap.get?_push_size _ rfl
  have kept : ∀ b u, s1.heap.get? b = some u → (PySem.W.sortingHeap (s1.heap.push (seqObj "list" vs.toArray 0)) s1.heap.objs.size vs).get? b = some u := fun b u g => PySem.W.sortingHeap_old (Nat.ne_of_lt (Heap.lt_size g)) (Heap.get?_push_of_some _ g)
  have each : ∀ l : List (Addr × PyData), (∀ q ∈ l, q ∈ L) → PySem.W.EachIs (fun v (q : Addr × PyData) => v = Value.ref q.1 ∧ ∃ as, Reads (PySem.W.sortingHeap (s1.heap.push (seqObj "list" vs.toArray 0)) s1.heap.objs.size vs) v q.2 as) (l.map fun q => Value.ref q.1) l := by
    intro l
    induction l with
    | nil => intro _; exact .nil
    | cons q l ih =>
      intro hq
      obtain ⟨as, r⟩ := hr q (hq q List.mem_cons_self)
      exact .cons ⟨rfl, as, PyProof.Rows.Reads.keeps (fun b u g => kept b u (k1 b u g)) r⟩ (ih fun y hy => hq y (List.mem_cons_of_mem _ hy))
  have e := each L1 fun q hq => p1.mem_iff.mp hq
  rw [e1] at e
  have mem1 : ∀ d ∈ L1.map Prod.snd, d ∈ L.map Prod.snd := fun d hd => (p1.map Prod.snd).mem_iff.mp hd
  have m1 := hm.sub mem1
  have S : PySem.W.SortsAt P w A.in1.in1 { s1 with heap := PySem.W.sortingHeap (s1.heap.push (seqObj "list" vs.toArray 0)) s1.heap.objs.size vs } _ vs := sorts_mix (s := { s1 with heap := PySem.W.sortingHeap (s1.heap.push (seqObj "list" vs.toArray 0)) s1.heap.objs.size vs }) (each_map' (R := fun v d => ∃ as, Reads (PySem.W.sortingHeap (s1.heap.push (seqObj "list" vs.toArray 0)) s1.heap.objs.size vs) v d as) Prod.snd (e.mono fun _ _ z => z.2)) m1 (fun d hd => by
    obtain ⟨q, hq, rfl⟩ := List.mem_map.mp hd
    have := hu q (p1.mem_iff.mp hq)
    simp only [Around.in1_units]
    omega)
  refine wpAny_bind (wpAny_holding (wpAny_call_entry slot_list_sort ⟨_, hoL, rfl⟩ entry_list_sort (PySem.W.list_sort_vals hoL S (by rw [lenV, sizeLine_eq]; omega) ⟨_, rfl, ?_⟩) (args_list_sort _)))
  have eo := PySem.W.sortVals_each (κ := PySem.W.dataKind (PySem.W.sortingHeap (s1.heap.push (seqObj "list" vs.toArray 0)) s1.heap.objs.size vs) (L1.map Prod.snd)) (rev := false) (fun q : Addr × PyData => PySem.W.keyToks q.2) (e.mono fun _ _ z => z.1) (keys_mix m1.ky (fun b hb => List.mem_map.mpr ⟨b, hb, rfl⟩) (e.mono fun _ _ z => z.2))
  have out_eq : ∀ {us : List Value} {l : List (Addr × PyData)}, PySem.W.EachIs (fun v (q : Addr × PyData) => v = Value.ref q.1) us l → us = l.map fun q => Value.ref q.1 := by
    intro us l z
    induction z with
    | nil => rfl
    | cons h _ ih => rw [List.map_cons, h, ih]
  obtain ⟨c, hc⟩ := sortedHeap_at (vs := vs) (out := (PySem.W.sortVals (PySem.W.dataKind (PySem.W.sortingHeap (s1.heap.push (seqObj "list" vs.toArray 0)) s1.heap.objs.size vs) (L1.map Prod.snd)) false vs vs).toArray) hoL
  refine wpAny_pure ⟨_, rfl, fin _ s1.heap.objs.size _ c _ (fun b u g => ?_) g1 o1 sz1 hc (out_eq eo) ((List.mergeSort_perm L1 _).trans p1) (ms_asc Prod.snd L1)⟩
  have q := k1 b u g
  have lt := Heap.lt_size q
  show (sortedHeap (s1.heap.push (seqObj "list" vs.toArray 0)) s1.heap.objs.size vs _).get? b = some u
  rw [sortedHeap_old (Nat.ne_of_lt lt) (by rw [size_push']; exact Nat.lt_succ_of_lt lt)]
  exact Heap.get?_push_of_some _ q
end
/-! ### as calls -/
/-- the set at a, without the tuples themselves -/
def SetM (w : World) (h : Heap) (a : Addr) (L : List KA) : Prop := ∃ es ep t, (∃ o, h.get? a = some o ∧ o.ExactSet ∧ o.data = .set es ep t) ∧ es.toList = L.map (ent w) ∧ TabOk t (L.map (kh w)) ∧ (L.map Prod.snd).Nodup ∧ (w.params.followText "set-order" = true ∨ t.led = true) ∧ L.length * 5 < t.mask * 3 ∧ L.length < 64
theorem SetN.m {w : World} {h : Heap} {a : Addr} {L : List KA} {es : Array (Int × Value)} {ep : Nat} {t : SetTable} (R : SetN w h a L es ep t) : SetM w h a L := ⟨es, ep, t, R.obj, R.row, R.tab, R.one, R.ld, R.air, R.low⟩
theorem SetM.n {w : World} {h : Heap} {a : Addr} {L : List KA} (R : SetM w h a L) (key : ∀ p ∈ L, NKI h p.2 p.1) : ∃ es ep t, SetN w h a L es ep t := by
  obtain ⟨es, ep, t, h1, h2, h3, h4, h5, h6, h7⟩ := R
  exact ⟨es, ep, t, h1, h2, h3, h4, key, h5, h6, h7⟩
theorem SetM.at {w : World} {h h' : Heap} {a : Addr} {L : List KA} (R : SetM w h a L) (k : ∀ o, h.get? a = some o → h'.get? a = some o) : SetM w h' a L := by
  obtain ⟨es, ep, t, ⟨o, ho, q⟩, r⟩ := R
  exact ⟨es, ep, t, ⟨o, k o ho, q⟩, r⟩
def SetDO (w : World) (a : Addr) (L : List (Addr × PyData)) : HO := .ext fun h => SetM w h a (L.map fun q => (q.1, nk q.2))
theorem setDO_new {w : World} {P : Program} {H : Hp} {h : Heap} {a : Addr} {L : List (Addr × PyData)} (R : SetM w h a (L.map fun q => (q.1, nk q.2))) : ObjOk P w H h a (SetDO w a L) := by
  have ⟨_, _, _, ⟨o, ho, _⟩, _⟩ := R
  exact ⟨R, ⟨_, ho⟩, fun _ _ p k => SetM.at p k⟩
/-- each of the tuples zq once -/
structure Dist (zq L : List (Addr × PyData)) : Prop where
  of : ∀ q ∈ L, q ∈ zq
  on : ∀ q ∈ zq, q.2 ∈ L.map Prod.snd
  nd : (L.map Prod.snd).Nodup
  le : L.length ≤ zq.length
def isT (d : PyData) : Prop := kyD d = true ∧ d.depth ≤ 8 ∧ ∃ r, d = .tuple r
section
variable {X : Cx}
def rSetD (K : PySem.W.Frag) (w : World) : List V → Hp → VK → Prop := fun vs H Q => ∃ (l : Addr) (zq : List (Addr × PyData)), vs = [.ref l] ∧ SqL K H l (zq.map fun q => V.ref q.1) ∧ (∀ q ∈ zq, Da H (.ref q.1) q.2 ∧ isT q.2) ∧ zq.length < 64 ∧
  ∀ (a : Addr) (L : List (Addr × PyData)), Dist zq L → H a = none → Q (.ref a) (upd H a (SetDO w a L))
theorem pre_map {α β : Type} (f : α → β) {zs : List α} : ∀ {L : List β}, (∀ p ∈ L, p ∈ zs.map f) → ∃ L0 : List α, L = L0.map f ∧ ∀ q ∈ L0, q ∈ zs
  | [], _ => ⟨[], rfl, fun q hq => by cases hq⟩
  | p :: L, h => by
    obtain ⟨q, hq, e⟩ := List.mem_map.mp (h p List.mem_cons_self)
    obtain ⟨L0, e0, h0⟩ := pre_map f (L := L) fun y hy => h y (List.mem_cons_of_mem _ hy)
    exact ⟨q :: L0, by rw [List.map_cons, e, e0], fun y hy => (List.mem_cons.mp hy).elim (fun z => z ▸ hq) (h0 y)⟩
theorem vals_refs : ∀ {zq : List (Addr × PyData)} {us : List Value}, Vals (zq.map fun q => V.ref q.1) us → us = zq.map fun q => Value.ref q.1
  | [], _, r => by
    cases r
    rfl
  | q :: zq, _, r => by
    cases r with
    | cons r1 r2 =>
      cases r1
      rw [vals_refs r2]
      rfl
theorem refs_vals : ∀ (zq : List (Addr × PyData)), Vals (zq.map fun q => V.ref q.1) (zq.map fun q => Value.ref q.1)
  | [] => .nil
  | _ :: zq => .cons rfl (refs_vals zq)
theorem cr_setD (hc : X.calm = true) (hu : X.A.units + 12 < cLine) : CallR X (.type "set") (rSetD X.K X.w) := by
  intro pk s τ H vs us Q I r h
  obtain ⟨l, zq, rfl, hl, hz, low, q⟩ := h
  rw [Vals.ref1 r]
  obtain ⟨its, rv, pl, _⟩ := I.list hl
  have key : ∀ y ∈ zq.map (fun q : Addr × PyData => ((q.1, nk q.2) : KA)), NKI s.heap y.2 y.1 := fun y hy => by
    obtain ⟨q0, m0, rfl⟩ := List.mem_map.mp hy
    obtain ⟨h1, h2, h3, _⟩ := hz q0 m0
    exact ⟨(da_key I _ _ _ h2 h1 rfl).1, by rw [nk_depth _ h2]; exact h3⟩
  refine setN_call (zq.map fun q => (q.1, nk q.2)) (I.ok.hd hc) pl.isList (by rw [List.map_map]; exact vals_refs rv) key (by rw [List.length_map]; exact low) hu fun hp' tk L es ep t S g kk => ?_
  rw [List.length_map] at g
  obtain ⟨L0, e0, m0⟩ := pre_map (fun q : Addr × PyData => ((q.1, nk q.2) : KA)) (zs := zq) (L := L) fun p hp => List.mem_of_mem_take (g.of p hp)
  subst e0
  have tk_all : (zq.map fun q : Addr × PyData => ((q.1, nk q.2) : KA)).take zq.length = zq.map fun q => (q.1, nk q.2) := List.take_of_length_le (by rw [List.length_map]; exact Nat.le_refl _)
  have D : Dist zq L0 := by
    refine ⟨m0, fun q0 hq => ?_, ?_, ?_⟩
    · have z := g.on (q0.1, nk q0.2) (by rw [tk_all]; exact List.mem_map.mpr ⟨q0, hq, rfl⟩)
      rw [List.map_map] at z
      obtain ⟨q1, hq1, e⟩ := List.mem_map.mp z
      have e2 : nk q1.2 = nk q0.2 := e
      have e3 := nk_inj _ _ (hz q1 (m0 q1 hq1)).2.1 (hz q0 hq).2.1 e2
      exact List.mem_map.mpr ⟨q1, hq1, e3⟩
    · have z := S.one
      rw [List.map_map] at z
      have z2 : ((L0.map Prod.snd).map nk).Nodup := by rw [List.map_map]; exact z
      exact nodup_of_map z2
    · have z := g.le
      rw [List.length_map] at z
      exact z
  exact ⟨.ref _, upd H s.heap.objs.size (SetDO X.w s.heap.objs.size L0), I.laid (t' := tk) kk (Nat.le_refl _) (setDO_new S.m), rfl, q _ L0 D (I.hok.fresh (Nat.le_refl _))⟩
def rSortD (w : World) : List V → Hp → VK → Prop := fun vs H Q => ∃ (a : Addr) (L : List (Addr × PyData)), vs = [.ref a] ∧ H a = some (SetDO w a L) ∧ (∀ q ∈ L, Da H (.ref q.1) q.2 ∧ isT q.2) ∧ Mix (L.map Prod.snd) ∧
  ∀ (p : Addr) (L2 : List (Addr × PyData)), L2.Perm L → ascD (L2.map Prod.snd) → H p = none → Q (.ref p) (upd H p (.lst (L2.map fun q => V.ref q.1)))
theorem cr_sortD (hc : X.calm = true) (hu : X.A.units + 12 < cLine) : CallR X (.builtin "sorted") (rSortD X.w) := by
  intro pk s τ H vs us Q I r h
  obtain ⟨a, L, rfl, ha, hz, hm, q⟩ := h
  have R : SetM X.w s.heap a (L.map fun q => (q.1, nk q.2)) := (I.hok a _ ha).1
  rw [Vals.ref1 r]
  obtain ⟨es, ep, t, S⟩ := R.n fun y hy => by
    obtain ⟨q0, m0, rfl⟩ := List.mem_map.mp hy
    obtain ⟨h1, h2, h3, _⟩ := hz q0 m0
    exact ⟨(da_key I _ _ _ h2 h1 rfl).1, by rw [nk_depth _ h2]; exact h3⟩
  have low := S.low
  rw [List.length_map] at low
  refine sort_set S (I.ok.hd hc) hm (fun q0 m0 => (da_key I _ _ _ (hz q0 m0).2.1 (hz q0 m0).1 rfl).2) (fun q0 m0 => by have := (hz q0 m0).2.2.1; omega) fun s' p out c L2 k g o hp hg eo pm as => ?_
  have hlen : (L2.map fun q : Addr × PyData => V.ref q.1).length ≤ sizeLine := by rw [List.length_map, pm.length_eq, sizeLine_eq]; omega
  have hn : H p = none := I.hok.fresh hp
  have rv : Vals (L2.map fun q : Addr × PyData => V.ref q.1) out := by rw [eo]; exact refs_vals L2
  have J : Inv X pk τ (upd H p (.lst (L2.map fun q => V.ref q.1))) { s with heap := s'.heap, gens := s'.gens, drawn := s'.drawn, toks := s'.toks } :=
    I.call (ch := []) (Un.laid k hp hn) (I.hok.laid k hp ⟨hlen, out, c, rv, hg⟩) (by rw [g]; exact I.bare) (fun _ z => nomatch z)
  have e : s' = { s with heap := s'.heap, gens := s'.gens, drawn := s'.drawn, toks := s'.toks } := by
    cases s'
    cases s
    cases o
    rfl
  rw [e]
  exact ⟨.ref p, _, J, rfl, q p L2 pm as hn⟩
/-- sorted(xs), xs a list -/
def rSortQ (K : PySem.W.Frag) : List V → Hp → VK → Prop := fun vs H Q => ∃ (l : Addr) (zq : List (Addr × PyData)), vs = [.ref l] ∧ SqL K H l (zq.map fun q => V.ref q.1) ∧ (∀ q ∈ zq, Da H (.ref q.1) q.2 ∧ isT q.2) ∧ Mix (zq.map Prod.snd) ∧ zq.length ≤ 4000 ∧
  ∀ (p : Addr) (L2 : List (Addr × PyData)), L2.Perm zq → ascD (L2.map Prod.snd) → H p = none → Q (.ref p) (upd H p (.lst (L2.map fun q => V.ref q.1)))
theorem cr_sortQ (hu : X.A.units + 12 < cLine) : CallR X (.builtin "sorted") (rSortQ X.K) := by
  intro pk s τ H vs us Q I r h
  obtain ⟨l, zq, rfl, hl, hz, hm, low, q⟩ := h
  rw [Vals.ref1 r]
  obtain ⟨its, rv, pl, _⟩ := I.list hl
  have ei := vals_refs rv
  subst ei
  have each : ∀ l : List (Addr × PyData), (∀ q ∈ l, q ∈ zq) → PySem.W.EachIs (fun v (q : Addr × PyData) => v = Value.ref q.1 ∧ ∃ as, Reads s.heap v q.2 as) (l.map fun q => Value.ref q.1) l := by
    intro l
    induction l with
    | nil => intro _; exact .nil
    | cons q l ih =>
      intro hq
      have m := hq q List.mem_cons_self
      exact .cons ⟨rfl, (da_key I _ _ _ (hz q m).2.1 (hz q m).1 rfl).2⟩ (ih fun y hy => hq y (List.mem_cons_of_mem _ hy))
  have e := each zq fun q hq => hq
  refine sort_mix (R := fun v (q : Addr × PyData) => v = Value.ref q.1) (enc := Prod.snd) pl.isList (e.mono fun _ _ z => z.1) (e.mono fun _ _ z => z.2) hm (fun q m => by have := (hz q m).2.2.1; omega) (by rw [List.length_map, sizeLine_eq]; omega) fun out eo => ?_
  have out_eq : ∀ {us : List Value} {l : List (Addr × PyData)}, PySem.W.EachIs (fun v (q : Addr × PyData) => v = Value.ref q.1) us l → us = l.map fun q => Value.ref q.1 := by
    intro us l z
    induction z with
    | nil => rfl
    | cons h _ ih => rw [List.map_cons, h, ih]
  have eo := out_eq eo
  have pm := List.mergeSort_perm zq (PySem.W.dataLe false Prod.snd)
  obtain ⟨c, hc⟩ := sortedAll_at s.heap (zq.map fun q => Value.ref q.1) out.toArray
  have hlen : ((zq.mergeSort (PySem.W.dataLe false Prod.snd)).map fun q : Addr × PyData => V.ref q.1).length ≤ sizeLine := by rw [List.length_map, pm.length_eq, sizeLine_eq]; omega
  have rv2 : Vals ((zq.mergeSort (PySem.W.dataLe false Prod.snd)).map fun q : Addr × PyData => V.ref q.1) out := by rw [eo]; exact refs_vals _
  exact ⟨.ref _, _, I.laid (a := s.heap.objs.size + 1) (o := .lst ((zq.mergeSort (PySem.W.dataLe false Prod.snd)).map fun q => V.ref q.1)) (t' := s.toks) (fun b u g => sortedAll_old g) (Nat.le_succ _) ⟨hlen, out, c, rv2, hc⟩, rfl, q _ _ pm (ms_asc Prod.snd zq) (I.hok.fresh (Nat.le_succ _))⟩
end
end Own

namespace Own
open PySem PySem.Spec PyProof.Rows L2 Evl
/-! ### three sources in one comprehension -/
section
variable {prog : Program} {w : World} {A : Around} {elt t0 i0 t1 i1 t2 i2 : Expr} {q0 q1 q2 : List Expr} {scope : Scope} {pos : Pos} {acc : Value} {env : Env}
abbrev lc3E (elt t0 i0 t1 i1 t2 i2 : Expr) (q0 q1 q2 : List Expr) (scope : Scope) (pos : Pos) : Expr := .ListComp elt [⟨t0, i0, q0, 0⟩, ⟨t1, i1, q1, 0⟩, ⟨t2, i2, q2, 0⟩] scope pos
/-- what a turn of a clause's loop does once its tests are true -/
def Loops (prog : Program) (w : World) (A : Around) (e : Expr) (d : Nat) (tg : Expr) (ifs : List Expr) (acc : Value) (env : Env) (go : (Shared → Prop) → Shared → Prop) : Prop :=
  ∀ (it : Value) (R : Result → Shared → Prop) (I : Nat → Shared → Prop), (∀ n s, I n s → wpAny (model prog w) A (pyNext it) (fun r s1 => match r with
      | none => R (.ok .next) s1
      | some v => wpAny (model prog w) A (letOwnedTupleGo tg it v) (fun _ s2 => wpAny (model prog w) A (assign tg env v) (fun _ s3 =>
          wpAny (model prog w) A (forIn ifs true fun c r => if r = true then do let ok ← isTrue c env (eval c env); pure (ForInStep.yield ok) else pure (ForInStep.yield r)) (fun ok s4 =>
            if ok = true then go (fun s5 => ∃ m, m < n ∧ I m s5) s4 else ∃ m, m < n ∧ I m s4) (fun _ _ => False) s3) (fun _ _ => False) s2) (fun _ _ => False) s1) (fun _ _ => False) s) →
    ∀ n s, I n s → codeAny (model prog w) A (.compLoop e d it acc env) R s
/-- the next clause's loop -/
def goCl (prog : Program) (w : World) (A : Around) (e : Expr) (d : Nat) (src : Expr) (acc : Value) (env : Env) : (Shared → Prop) → Shared → Prop := fun Post s => wpAny (model prog w) A (eval src env) (fun x s1 => wpAny (model prog w) A (pyIter x) (fun it s2 =>
  codeAny (model prog w) A (.compStart e d it acc env) (fun r s3 => match r with
    | .ok _ => Post s3
    | .error _ => False) s2) (fun _ _ => False) s1) (fun _ _ => False) s
/-- the item put in -/
def goAp (prog : Program) (w : World) (A : Around) (elt : Expr) (acc : Value) (env : Env) : (Shared → Prop) → Shared → Prop := fun Post s => wpAny (model prog w) A (eval elt env) (fun x s1 => wpAny (model prog w) A (call (.builtin "list.append") [acc, x]) (fun _ s2 => Post s2) (fun _ _ => False) s1) (fun _ _ => False) s
theorem loops0 (hs : ∀ x, foldedSetIterable i1 env x = pure x) : Loops prog w A (lc3E elt t0 i0 t1 i1 t2 i2 q0 q1 q2 scope pos) 0 t0 q0 acc env (goCl prog w A (lc3E elt t0 i0 t1 i1 t2 i2 q0 q1 q2 scope pos) 1 i1 acc env) := by
  intro it R I turn n s h
  refine codeAny_loop rfl I (fun n s hI => ?_) n h
  show wpAny _ A ((compTurn (lc3E elt t0 i0 t1 i1 t2 i2 q0 q1 q2 scope pos) 0 it acc env).onRaise (fun x => do noteFrame x env; theTreesLotGoes x)) _ _ s
  refine wpAny_noted ?_
  have e : compTurn (lc3E elt t0 i0 t1 i1 t2 i2 q0 q1 q2 scope pos) 0 it acc env = (do
      standAt i0.pos
      match ← pyNext it with
      | none => pure (.done .next)
      | some v =>
        letOwnedTupleGo t0 it v
        assign t0 env v
        let mut ok := true
        for c in q0 do
          if ok then ok ← isTrue c env (eval c env)
        if ok then
          let x ← eval i1 env
          standAt i1.pos
          let x ← foldedSetIterable i1 env x
          let _ ← runOwn (.compStart (lc3E elt t0 i0 t1 i1 t2 i2 q0 q1 q2 scope pos) 1 (← holding [x] (pyIter x)) acc env) env
        again (.compLoop (lc3E elt t0 i0 t1 i1 t2 i2 q0 q1 q2 scope pos) 0 it acc env)) := by rfl
  rw [e]
  refine wpAny_bind (wpAny_standAt (wpAny_bind (thnF (turn n s hI) fun r s1 g1 => ?_)))
  cases r with
  | none => exact wpAny_pure g1
  | some v =>
    refine wpAny_bind (thnF g1 fun _ s2 g2 => wpAny_bind (thnF g2 fun _ s3 g3 => wpAny_bind (thnF g3 fun ok s4 g4 => ?_)))
    cases ok with
    | false => exact wpAny_pure ⟨rfl, g4⟩
    | true =>
      refine wpAny_bind (thnF g4 fun x s5 g5 => wpAny_bind (wpAny_standAt (wpAny_bind (wpAny_of_eq (hs x) (wpAny_bind (wpAny_holding (thnF g5 fun it1 s6 g6 => ?_)))))))
      refine wpAny_bind (wpAny_runOwn ?_)
      rw [Around.mark_none]
      refine codeAny_mono g6 fun r s7 hr => ?_
      cases r with
      | ok f =>
        first
          | exact wpAny_pure ⟨rfl, hr⟩
          | exact wpAny_bind (wpAny_pure (wpAny_pure ⟨rfl, hr⟩))
      | error e => exact hr.elim
theorem loops1 (hs : ∀ x, foldedSetIterable i2 env x = pure x) : Loops prog w A (lc3E elt t0 i0 t1 i1 t2 i2 q0 q1 q2 scope pos) 1 t1 q1 acc env (goCl prog w A (lc3E elt t0 i0 t1 i1 t2 i2 q0 q1 q2 scope pos) 2 i2 acc env) := by
  intro it R I turn n s h
  refine codeAny_loop rfl I (fun n s hI => ?_) n h
  show wpAny _ A ((compTurn (lc3E elt t0 i0 t1 i1 t2 i2 q0 q1 q2 scope pos) 1 it acc env).onRaise (fun x => do noteFrame x env; theTreesLotGoes x)) _ _ s
  refine wpAny_noted ?_
  have e : compTurn (lc3E elt t0 i0 t1 i1 t2 i2 q0 q1 q2 scope pos) 1 it acc env = (do
      standAt i1.pos
      match ← pyNext it with
      | none => pure (.done .next)
      | some v =>
        letOwnedTupleGo t1 it v
        assign t1 env v
        let mut ok := true
        for c in q1 do
          if ok then ok ← isTrue c env (eval c env)
        if ok then
          let x ← eval i2 env
          standAt i2.pos
          let x ← foldedSetIterable i2 env x
          let _ ← runOwn (.compStart (lc3E elt t0 i0 t1 i1 t2 i2 q0 q1 q2 scope pos) 2 (← holding [x] (pyIter x)) acc env) env
        again (.compLoop (lc3E elt t0 i0 t1 i1 t2 i2 q0 q1 q2 scope pos) 1 it acc env)) := by rfl
  rw [e]
  refine wpAny_bind (wpAny_standAt (wpAny_bind (thnF (turn n s hI) fun r s1 g1 => ?_)))
  cases r with
  | none => exact wpAny_pure g1
  | some v =>
    refine wpAny_bind (thnF g1 fun _ s2 g2 => wpAny_bind (thnF g2 fun _ s3 g3 => wpAny_bind (thnF g3 fun ok s4 g4 => ?_)))
    cases ok with
    | false => exact wpAny_pure ⟨rfl, g4⟩
    | true =>
      refine wpAny_bind (thnF g4 fun x s5 g5 => wpAny_bind (wpAny_standAt (wpAny_bind (wpAny_of_eq (hs x) (wpAny_bind (wpAny_holding (thnF g5 fun it1 s6 g6 => ?_)))))))
      refine wpAny_bind (wpAny_runOwn ?_)
      rw [Around.mark_none]
      refine codeAny_mono g6 fun r s7 hr => ?_
      cases r with
      | ok f =>
        first
          | exact wpAny_pure ⟨rfl, hr⟩
          | exact wpAny_bind (wpAny_pure (wpAny_pure ⟨rfl, hr⟩))
      | error e => exact hr.elim
theorem loops2 : Loops prog w A (lc3E elt t0 i0 t1 i1 t2 i2 q0 q1 q2 scope pos) 2 t2 q2 acc env (goAp prog w A elt acc env) := by
  intro it R I turn n s h
  refine codeAny_loop rfl I (fun n s hI => ?_) n h
  show wpAny _ A ((compTurn (lc3E elt t0 i0 t1 i1 t2 i2 q0 q1 q2 scope pos) 2 it acc env).onRaise (fun x => do noteFrame x env; theTreesLotGoes x)) _ _ s
  refine wpAny_noted ?_
  have e : compTurn (lc3E elt t0 i0 t1 i1 t2 i2 q0 q1 q2 scope pos) 2 it acc env = (do
      standAt i2.pos
      match ← pyNext it with
      | none => pure (.done .next)
      | some v =>
        letOwnedTupleGo t2 it v
        assign t2 env v
        let mut ok := true
        for c in q2 do
          if ok then ok ← isTrue c env (eval c env)
        if ok then
          (do let _ ← call (.builtin "list.append") [acc, ← eval elt env])
        again (.compLoop (lc3E elt t0 i0 t1 i1 t2 i2 q0 q1 q2 scope pos) 2 it acc env)) := by rfl
  rw [e]
  refine wpAny_bind (wpAny_standAt (wpAny_bind (thnF (turn n s hI) fun r s1 g1 => ?_)))
  cases r with
  | none => exact wpAny_pure g1
  | some v =>
    refine wpAny_bind (thnF g1 fun _ s2 g2 => wpAny_bind (thnF g2 fun _ s3 g3 => wpAny_bind (thnF g3 fun ok s4 g4 => ?_)))
    cases ok with
    | false => exact wpAny_pure ⟨rfl, g4⟩
    | true => exact wpAny_bind (wpAny_bind (thnF g4 fun x s5 g5 => wpAny_bind (thnF g5 fun _ s6 g6 => wpAny_pure (wpAny_pure ⟨rfl, g6⟩))))
/-- a clause's start -/
def Starts (prog : Program) (w : World) (A : Around) (e : Expr) (d : Nat) (acc : Value) (env : Env) : Prop := ∀ (it : Value) (R : Result → Shared → Prop) (s : Shared), codeAny (model prog w) A (.compLoop e d it acc env) R s →
  wpAny (model prog w) A (pyIter it) (fun it' s' => codeAny (model prog w) A (.compLoop e d it' acc env) R s') (notedBy (model prog w) A env fun x s' => R (.error x) s') s → codeAny (model prog w) A (.compStart e d it acc env) R s
theorem starts1 : Starts prog w A (lc3E elt t0 i0 t1 i1 t2 i2 q0 q1 q2 scope pos) 1 acc env := by
  intro it R s g0 g
  refine codeAny_of_tree ?_
  show wpAny _ _ ((compStart (lc3E elt t0 i0 t1 i1 t2 i2 q0 q1 q2 scope pos) 1 it acc env).onRaise (fun x => do noteFrame x env; standAt theWindowsPlace)) _ _ s
  refine wpAny_notedAt ?_
  unfold compStart
  show wpAny _ _ (ask >>= _) _ _ s
  refine wpAny_bind (wpAny_askSetting (wpAny_ite ?_))
  split
  · first
      | exact wpAny_bind (wpAny_pure (wpAny_pure (And.intro rfl g0)))
      | exact wpAny_pure (And.intro rfl g0)
  · first
      | exact wpAny_bind (wpAny_rule (wpAny_bind (wpAny_standAt (wpAny_bind (wpAny_mono g (fun it' s' g' => wpAny_pure (And.intro rfl g')) fun _ _ x => x)))))
      | (refine wpAny_bind (wpAny_rule ?_); show wpAny _ _ (standAt i1.pos >>= _) _ _ s; exact wpAny_bind (wpAny_standAt (wpAny_bind (wpAny_mono g (fun it' s' g' => wpAny_pure (And.intro rfl g')) fun _ _ x => x))))
theorem starts2 : Starts prog w A (lc3E elt t0 i0 t1 i1 t2 i2 q0 q1 q2 scope pos) 2 acc env := by
  intro it R s g0 g
  refine codeAny_of_tree ?_
  show wpAny _ _ ((compStart (lc3E elt t0 i0 t1 i1 t2 i2 q0 q1 q2 scope pos) 2 it acc env).onRaise (fun x => do noteFrame x env; standAt theWindowsPlace)) _ _ s
  refine wpAny_notedAt ?_
  unfold compStart
  show wpAny _ _ (ask >>= _) _ _ s
  refine wpAny_bind (wpAny_askSetting (wpAny_ite ?_))
  split
  · first
      | exact wpAny_bind (wpAny_pure (wpAny_pure (And.intro rfl g0)))
      | exact wpAny_pure (And.intro rfl g0)
  · first
      | exact wpAny_bind (wpAny_rule (wpAny_bind (wpAny_standAt (wpAny_bind (wpAny_mono g (fun it' s' g' => wpAny_pure (And.intro rfl g')) fun _ _ x => x)))))
      | (refine wpAny_bind (wpAny_rule ?_); show wpAny _ _ (standAt i2.pos >>= _) _ _ s; exact wpAny_bind (wpAny_standAt (wpAny_bind (wpAny_mono g (fun it' s' g' => wpAny_pure (And.intro rfl g')) fun _ _ x => x))))
end
end Own

namespace Own
open PySem PySem.Spec PyProof.Rows L2 Evl
/-- what a clause's inside must reach, told of slots and heap -/
abbrev TB : Type := (Hp → Prop) → L2.St → Hp → Prop
def tbAp (te : TE) (D : Addr) : TB := fun Nx σ H => te σ H fun y H1 => ∃ acc, H1 D = some (.lst acc) ∧ acc.length < sizeLine ∧ Nx (upd H1 D (.lst (acc ++ [y])))
def ClRest (g : TG) (tt : TT) (tb : TB) (vs : List Nat) (Nx : Hp → Prop) (σ : L2.St) : It → Hp → Prop := fun J H4 => ∃ W1 : Nat → Nat → Hp → Prop, (∃ m, W1 0 m H4) ∧ ∀ j k H, W1 j k H →
  (J.stop j H ∧ Nx H) ∨ (J.go j H ∧ ∃ Nx1 : Hp → Prop, (∀ H', Nx1 H' → ∃ k', k' < k ∧ W1 (j + 1) k' H') ∧ ∀ x H', J.yld j H x H' → g x (wipe σ vs) H' fun σ3 H5 => wipe σ3 vs = wipe σ vs ∧ tt σ3 H5 fun b H6 => if b = true then tb Nx1 σ3 H6 else Nx1 H6)
def tbCl (wi : TI) (g : TG) (tt : TT) (tb : TB) (vs : List Nat) : TB := fun Nx σ H => wi σ H (ClRest g tt tb vs Nx σ)
def BodyOf (X : Cx) (own : List Nat) (go : (Shared → Prop) → Shared → Prop) (tb : TB) : Prop := ∀ (pk : List (Addr × Obj)) (s : Shared) (σ : L2.St) (H : Hp) (Nx : Hp → Prop), Inv X pk σ H s → tb Nx σ H →
  go (fun s' => ∃ (σ' : L2.St) (H' : Hp), Inv X pk σ' H' s' ∧ σ'.length = σ.length ∧ (∀ (j : Nat) v, j ∉ own → σ[j]? = some (some v) → σ'[j]? = some (some v)) ∧ Nx H') s
section
variable {X : Cx} {s0 : Shared} {G0 : Hp} {scope : Scope} {ce : Env} {fp : List Addr} {own : List Nat} {D : Addr}
theorem body_ap {elt : Expr} {te : TE} (pe : PE (X.blk s0 G0 scope ce fp) elt te) : BodyOf (X.blk s0 G0 scope ce fp) own (goAp X.prog X.w X.A elt (.ref D) ce) (tbAp te D) := by
  intro pk s σ H Nx I h
  refine thnF (pe.run pk s σ H _ I h) fun z s1 ⟨y, H1, I1, r1, acc, d1, z1, nx⟩ => ?_
  exact app_ok (X := X.blk s0 G0 scope ce fp) I1 d1 z1 r1 fun s2 I2 => ⟨σ, _, I2, rfl, fun _ _ _ e => e, nx⟩
def Mono (go : (Shared → Prop) → Shared → Prop) : Prop := ∀ (P Q : Shared → Prop) (s : Shared), (∀ s, P s → Q s) → go P s → go Q s
theorem mono_ap {prog : Program} {w : World} {A : Around} {elt : Expr} {acc : Value} {env : Env} : Mono (goAp prog w A elt acc env) := fun P Q s h g => thn g fun _ s1 g1 => thn g1 fun _ s2 g2 => h s2 g2
theorem mono_cl {prog : Program} {w : World} {A : Around} {e src : Expr} {d : Nat} {acc : Value} {env : Env} : Mono (goCl prog w A e d src acc env) := fun P Q s h g => thn g fun _ s1 g1 => thn g1 fun _ s2 g2 => codeAny_mono g2 fun r s3 hr => by
  cases r with
  | ok f => exact h s3 hr
  | error e => exact hr
theorem body_cl {tg src e : Expr} {ifs : List Expr} {d : Nat} {wi : TI} {g : TG} {tt : TT} {tb : TB} {vs : List Nat} {go : (Shared → Prop) → Shared → Prop} (hc : X.calm = true) (hv : ∀ i ∈ own, i ∈ vs) (gm : Mono go) (pi : PI (X.blk s0 G0 scope ce fp) tg src wi) (pg : PG (X.blk s0 G0 scope ce fp) tg g) (pt : PTs (X.blk s0 G0 scope ce fp) ifs tt)
    (inner : BodyOf (X.blk s0 G0 scope ce fp) own go tb) (lo : Loops X.prog X.w X.A e d tg ifs (.ref D) ce go) (st : Starts X.prog X.w X.A e d (.ref D) ce) : BodyOf (X.blk s0 G0 scope ce fp) vs (goCl X.prog X.w X.A e d src (.ref D) ce) (tbCl wi g tt tb vs) := by
  intro pk s σ H Nx I h
  refine thnF (pi.run pk s σ H _ I h) fun xv s1 hx => thnF hx fun itv s2 h2 => ?_
  obtain ⟨it, fp1, tn1, J1, H2, e1, I2, T1, st2, f2, W1, ⟨m1, w1⟩, turn1⟩ := h2
  subst e1
  have stat1 : ∀ {H' : Hp}, (∀ b ∈ fp1, H' b = none) → ∀ b ∈ fp1, FpOk (X.blk s0 G0 scope ce fp) pk H' b := fun hn b hb => ⟨hn b hb, (f2 b hb).2⟩
  have loop1 : codeAny (model X.prog X.w) X.A (.compLoop e d (.ref it) (.ref D) ce) (fun r s' => match r with
      | .ok _ => ∃ (σ' : L2.St) (H' : Hp), Inv (X.blk s0 G0 scope ce fp) pk σ' H' s' ∧ σ'.length = σ.length ∧ (∀ (j : Nat) v, j ∉ vs → σ[j]? = some (some v) → σ'[j]? = some (some v)) ∧ Nx H'
      | .error _ => False) s2 := by
    refine lo (.ref it) _ (fun k s' => ∃ j H', Inv (X.blk s0 G0 scope ce fp) pk (wipe σ vs) H' s' ∧ tn1 j s'.heap ∧ (∀ b ∈ fp1, H' b = none) ∧ W1 j k H') ?_ m1 s2 ⟨0, H2, I2.weak (wipe_length _ _) (fun j v e => (wipe_some e).1), st2, fun b hb => (f2 b hb).1, w1⟩
    rintro k s3 ⟨j, H3, I3, st3, n3, w3⟩
    rcases turn1 j k H3 w3 with ⟨stop1, nx1⟩ | ⟨go1, Nx1, hNx1, step1⟩
    · refine thnF (T1.done (X.blk s0 G0 scope ce fp) rfl rfl rfl hc j _ s3 (wipe σ vs) H3 (fun _ _ => False) I3 (stat1 n3) st3 stop1) fun r s4 ⟨hr, I4⟩ => ?_
      subst hr
      exact ⟨_, H3, I4, wipe_length _ _, fun i v hi ev => by rw [wipe_out hi]; exact ev, nx1⟩
    · refine thnF (T1.item (X.blk s0 G0 scope ce fp) rfl rfl rfl hc j _ s3 (wipe σ vs) H3 (fun _ _ => False) I3 (stat1 n3) st3 go1) fun r s4 ⟨u1, hr, h4⟩ => ?_
      subst hr
      refine thnF h4 fun _ s5 ⟨x1, H5, I5, r5, y5, st5, n5⟩ => ?_
      have I5' := I5.pinned (stat1 n5) (T1.obj _ _ st5)
      refine thnF (pg.run _ s5 (wipe σ vs) H5 x1 u1 _ I5' r5 (step1 x1 H5 y5)) fun _ s6 ⟨σ6, H6, I6, hw6, q6⟩ => ?_
      refine thnF (pt.run _ s6 σ6 H6 _ I6 q6) fun b1 s7 ⟨H7, I7, q7⟩ => ?_
      have fin1 : ∀ {σ' : L2.St} {s' : Shared} {H' : Hp}, Inv (X.blk s0 G0 scope ce fp) (pk ++ pinsAt fp1 s5.heap) σ' H' s' → σ'.length = σ6.length → (∀ (i : Nat) v, i ∉ own → σ6[i]? = some (some v) → σ'[i]? = some (some v)) → Nx1 H' →
          ∃ m, m < k ∧ ∃ j H', Inv (X.blk s0 G0 scope ce fp) pk (wipe σ vs) H' s' ∧ tn1 j s'.heap ∧ (∀ b ∈ fp1, H' b = none) ∧ W1 j m H' := fun {σ' s' H'} I' hl hk nx => by
        obtain ⟨m', hm, w'⟩ := hNx1 H' nx
        have pin' : ∀ b ∈ fp1, ∀ o, s5.heap.get? b = some o → s'.heap.get? b = some o ∧ H' b = none := fun b hb o eo =>
          let z := I'.pin (b, o) (List.mem_append_right _ (List.mem_append_right _ (mem_pinsAt hb eo)))
          ⟨z.1, z.2.1⟩
        refine ⟨m', hm, j + 1, H', ?_, T1.keep _ _ _ st5 fun b hb o eo => (pin' b hb o eo).1, fun b hb => ?_, w'⟩
        · refine I'.unpinned.weak ?_ fun i v ev => ?_
          · rw [← hw6, wipe_length, hl]
          · rw [← hw6] at ev
            obtain ⟨e1, e2⟩ := wipe_some ev
            exact hk i v (fun z => e2 (hv i z)) e1
        · obtain ⟨o, eo, _⟩ := T1.obj _ _ st5 b hb
          exact (pin' b hb o eo).2
      cases b1 with
      | false =>
        simp only [Bool.false_eq_true, if_false] at q7 ⊢
        exact fin1 I7 rfl (fun _ _ _ ev => ev) q7
      | true =>
        simp only [if_true] at q7 ⊢
        exact gm _ _ _ (fun s' ⟨σ', H', I', hl, hk, nx⟩ => fin1 I' hl hk nx) (inner _ s7 σ6 H7 Nx1 I7 q7)
  exact st (.ref it) _ s2 loop1 (T1.self X.A 0 _ _ _ st2 loop1)
end
end Own

namespace Own
open PySem PySem.Spec PyProof.Rows L2 Evl
def Lc3Rest (g : TG) (tt : TT) (tb : Addr → TB) (vs : List Nat) (σ : L2.St) (Q : VK) : It → Hp → Prop := fun J H1 => ∀ D, H1 D = none → ∃ W : Nat → Nat → Hp → Prop, (∃ m, W 0 m (upd H1 D (.lst []))) ∧ ∀ i m H, W i m H →
  (J.stop i H ∧ Q (.ref D) H) ∨ (J.go i H ∧ ∃ Nx : Hp → Prop, (∀ H', Nx H' → ∃ m', m' < m ∧ W (i + 1) m' H') ∧ ∀ x H', J.yld i H x H' → g x (wipe σ vs) H' fun σ2 H2 => wipe σ2 vs = wipe σ vs ∧ tt σ2 H2 fun b H3 => if b = true then tb D Nx σ2 H3 else Nx H3)
def tLc3 (wi : TI) (g : TG) (tt : TT) (wi1 : TI) (g1 : TG) (tt1 : TT) (wi2 : TI) (g2 : TG) (tt2 : TT) (te : TE) (vs vs1 vs2 : List Nat) : TE := fun σ H Q => wi σ H (Lc3Rest g tt (fun D => tbCl wi1 g1 tt1 (tbCl wi2 g2 tt2 (tbAp te D) vs2) vs1) vs σ Q)
section
variable {X : Cx}
theorem pe_lc3 {elt t0 i0 t1 i1 t2 i2 : Expr} {q0 q1 q2 : List Expr} {scope : Scope} {own : List (Str × Nat)} {vs1 vs2 : List Nat} {pos : Pos} {wi wi1 wi2 : TI} {g g1 g2 : TG} {tt tt1 tt2 : TT} {te : TE} (hc : X.calm = true) (hN : X.N.Nodup) (hi : PI X t0 i0 wi) (ok : BlkOk X.N X.env.scope scope own)
    (hv1 : ∀ i ∈ vs1, i ∈ own.map (·.2)) (hv2 : ∀ i ∈ vs2, i ∈ vs1)
    (hg : ∀ (s : Shared) (H : Hp) (C : Addr) (cl : List (Str × Addr)) (fp : List Addr), PG (X.blk s H scope (compEnvC scope cl C X.env) fp) t0 g) (ht : ∀ (s : Shared) (H : Hp) (C : Addr) (cl : List (Str × Addr)) (fp : List Addr), PTs (X.blk s H scope (compEnvC scope cl C X.env) fp) q0 tt)
    (hi1 : ∀ (s : Shared) (H : Hp) (C : Addr) (cl : List (Str × Addr)) (fp : List Addr), PI (X.blk s H scope (compEnvC scope cl C X.env) fp) t1 i1 wi1)
    (hg1 : ∀ (s : Shared) (H : Hp) (C : Addr) (cl : List (Str × Addr)) (fp : List Addr), PG (X.blk s H scope (compEnvC scope cl C X.env) fp) t1 g1) (ht1 : ∀ (s : Shared) (H : Hp) (C : Addr) (cl : List (Str × Addr)) (fp : List Addr), PTs (X.blk s H scope (compEnvC scope cl C X.env) fp) q1 tt1)
    (hi2 : ∀ (s : Shared) (H : Hp) (C : Addr) (cl : List (Str × Addr)) (fp : List Addr), PI (X.blk s H scope (compEnvC scope cl C X.env) fp) t2 i2 wi2)
    (hg2 : ∀ (s : Shared) (H : Hp) (C : Addr) (cl : List (Str × Addr)) (fp : List Addr), PG (X.blk s H scope (compEnvC scope cl C X.env) fp) t2 g2) (ht2 : ∀ (s : Shared) (H : Hp) (C : Addr) (cl : List (Str × Addr)) (fp : List Addr), PTs (X.blk s H scope (compEnvC scope cl C X.env) fp) q2 tt2)
    (he : ∀ (s : Shared) (H : Hp) (C : Addr) (cl : List (Str × Addr)) (fp : List Addr), PE (X.blk s H scope (compEnvC scope cl C X.env) fp) elt te) (hs : ∀ x, foldedSetIterable i0 X.env x = pure x := by intro _; rfl) (hs1 : ∀ env x, foldedSetIterable i1 env x = pure x := by intro _ _; rfl) (hs2 : ∀ env x, foldedSetIterable i2 env x = pure x := by intro _ _; rfl) :
    PE X (.ListComp elt [⟨t0, i0, q0, 0⟩, ⟨t1, i1, q1, 0⟩, ⟨t2, i2, q2, 0⟩] scope pos) (tLc3 wi g tt wi1 g1 tt1 wi2 g2 tt2 te (own.map (·.2)) vs1 vs2) := by
  refine ⟨fun pk s σ H Q I h => ?_⟩
  rw [eval_ListComp]
  have cells : ∀ y ∈ scope.names, y.2 = .free → ∃ c, X.env.cells.lookup y.1 = some c := fun y hy e => by
    rcases ok.free y hy e with z | z
    · exact I.ok.has _ (.inl z)
    · exact I.ok.has _ (.inr z)
  refine wpAny_comprehension_free (use := none) rfl hs (closure_ok cells) ok.kind (fun y hy e => by rw [ok.uniq y hy, e]) (thn (hi.run pk s σ H _ I h) fun xv s1 hx => thn hx fun itv s2 h2 => ?_)
  obtain ⟨it, fp, tn, J, H2, e, I2, T, st2, f2, q⟩ := h2
  subst e
  refine wpAny_newObj_type (newEnv_comp ?_) (by show 0 ≤ sizeLine; decide)
  generalize hD : s2.heap.objs.size = D
  have Dn : H2 D = none := I2.hok.fresh (Nat.le_of_eq hD)
  obtain ⟨W, ⟨m0, w0⟩, turn⟩ := q D Dn
  generalize hs3 : ({ s2 with heap := s2.heap.push { cls := .type "list", data := .seq ([] : List Value).toArray } } : Shared) = s3
  have I3 : Inv X pk σ (upd H2 D (.lst [])) s3 := by
    rw [← hs3]
    refine I2.laid (t' := s2.toks) (fun b o e => Heap.get?_push_of_some _ e) (Nat.le_of_eq hD) ⟨Nat.zero_le _, [], 0, .nil, ?_⟩
    rw [← hD]
    exact Heap.get?_push_size _ rfl
  have h3 : s3.heap = s2.heap.push { cls := .type "list", data := .seq ([] : List Value).toArray } := by rw [← hs3]
  have f3 : ∀ b ∈ fp, FpOk X pk (upd H2 D (.lst [])) b ∧ b < s3.heap.objs.size := fun b hb => by
    obtain ⟨o, e, _⟩ := T.obj _ _ st2 b hb
    have lt := Heap.lt_size e
    refine ⟨⟨?_, (f2 b hb).2⟩, by rw [h3, Heap.size_push]; exact Nat.lt_succ_of_lt lt⟩
    rw [upd_ne (by rw [← hD]; exact Nat.ne_of_lt lt)]
    exact (f2 b hb).1
  have st3 : tn 0 s3.heap := T.keep _ _ _ st2 fun b _ o e => by rw [h3]; exact Heap.get?_push_of_some _ e
  have I4 := block_start I3 ok hN f3
  generalize hcl : cellsFrom (s3.heap.objs.size + 1) scope.names (cloFrom X.env.cells scope.names []) = cl at I4
  have pg := hg s3 (upd H2 D (.lst [])) s3.heap.objs.size cl fp
  have pt := ht s3 (upd H2 D (.lst [])) s3.heap.objs.size cl fp
  have pe := he s3 (upd H2 D (.lst [])) s3.heap.objs.size cl fp
  have pi1 := hi1 s3 (upd H2 D (.lst [])) s3.heap.objs.size cl fp
  have pg1 := hg1 s3 (upd H2 D (.lst [])) s3.heap.objs.size cl fp
  have pt1 := ht1 s3 (upd H2 D (.lst [])) s3.heap.objs.size cl fp
  have pi2 := hi2 s3 (upd H2 D (.lst [])) s3.heap.objs.size cl fp
  have pg2 := hg2 s3 (upd H2 D (.lst [])) s3.heap.objs.size cl fp
  have pt2 := ht2 s3 (upd H2 D (.lst [])) s3.heap.objs.size cl fp
  show codeAny _ _ (.compStart (lc3E elt t0 i0 t1 i1 t2 i2 q0 q1 q2 scope pos) 0 (.ref it) (.ref D) (compEnvC scope cl s3.heap.objs.size X.env)) (compPost (model X.prog X.w) X.A X.xe none _ (.ref D) s3.heap.objs.size) { s3 with heap := pushCells (s3.heap.push { cls := .type "dict", data := .dict #[] }) scope.names }
  have nfp : ∀ b ∈ fp, (upd H2 D (.lst [])) b = none := fun b hb => (f3 b hb).1.1
  generalize hce : compEnvC scope cl s3.heap.objs.size X.env = ce at I4 pg pt pe pi1 pg1 pt1 pi2 pg2 pt2 ⊢
  have cL : ce.locals = s3.heap.objs.size := by subst hce; rfl
  generalize hH3 : upd H2 D (.lst []) = H3 at I3 I4 pg pt pe pi1 pg1 pt1 pi2 pg2 pt2 w0 nfp f3
  generalize hs4 : ({ s3 with heap := pushCells (s3.heap.push { cls := .type "dict", data := .dict #[] }) scope.names } : Shared) = s4 at I4 ⊢
  have st4 : tn 0 s4.heap := T.keep _ _ _ st3 fun b _ o e => by rw [← hs4]; exact pushCells_keeps _ _ _ _ (Heap.get?_push_of_some _ e)
  have stat : ∀ {σ' : L2.St} {H' : Hp} {s' : Shared}, Inv (X.blk s3 H3 scope ce fp) [] σ' H' s' → (∀ b ∈ fp, H' b = none) → ∀ b ∈ fp, FpOk (X.blk s3 H3 scope ce fp) [] H' b := fun {σ' H' s'} I' hn b hb =>
    ⟨hn b hb, (I'.ok.exf b hb).1, I'.ok.exfs b hb, .inl hb, fun x c e => (I'.ok.exf b hb).2 x c e, fun p hp => absurd (show p ∈ ([] : List (Addr × Obj)) ++ [] from hp) (by simp)⟩
  have B2 : BodyOf (X.blk s3 H3 scope ce fp) vs2 (goCl X.prog X.w X.A (lc3E elt t0 i0 t1 i1 t2 i2 q0 q1 q2 scope pos) 2 i2 (.ref D) ce) (tbCl wi2 g2 tt2 (tbAp te D) vs2) := body_cl (own := []) hc (fun i hi => by cases hi) mono_ap pi2 pg2 pt2 (body_ap pe) loops2 starts2
  have B1 : BodyOf (X.blk s3 H3 scope ce fp) vs1 (goCl X.prog X.w X.A (lc3E elt t0 i0 t1 i1 t2 i2 q0 q1 q2 scope pos) 1 i1 (.ref D) ce) (tbCl wi1 g1 tt1 (tbCl wi2 g2 tt2 (tbAp te D) vs2) vs1) := body_cl hc hv2 mono_cl pi1 pg1 pt1 B2 (loops1 (hs2 ce)) starts1
  have loop : codeAny (model X.prog X.w) X.A (.compLoop (lc3E elt t0 i0 t1 i1 t2 i2 q0 q1 q2 scope pos) 0 (.ref it) (.ref D) ce) (compPost (model X.prog X.w) X.A X.xe none (EP X pk σ Q) (.ref D) s3.heap.objs.size) s4 := by
    refine loops0 (hs1 ce) (.ref it) _ (fun n s' => ∃ i H', Inv (X.blk s3 H3 scope ce fp) [] (wipe σ (own.map (·.2))) H' s' ∧ tn i s'.heap ∧ (∀ b ∈ fp, H' b = none) ∧ W i n H') ?_ m0 s4 ⟨0, H3, I4, st4, nfp, w0⟩
    rintro n s5 ⟨i, H5, I5, st5, n5, w5⟩
    rcases turn i n H5 w5 with ⟨stop, qq⟩ | ⟨go, Nx, hNx, step⟩
    · refine thnF (T.done (X.blk s3 H3 scope ce fp) rfl rfl rfl hc i [] s5 _ H5 (fun _ _ => False) I5 (stat I5 n5) st5 stop) fun r s6 ⟨hr, I6⟩ => ?_
      subst hr
      have I7 : Inv X pk σ H5 s6 := I3.call' (ch := fp) I6.os I6.base I6.hok I6.bare fun b hb => ⟨(f3 b hb).1.2.2.2.1, (f3 b hb).1.2.1, (f3 b hb).1.2.2.2.2.1, (f3 b hb).1.2.2.2.2.2⟩
      have nC : H5 s3.heap.objs.size = none := by
        have z : H5 ce.locals = none := I6.free
        rw [cL] at z
        exact z
      obtain ⟨m, hn, _⟩ := I6.loc
      have hn : s6.heap.Ns ce.locals m := hn
      rw [cL] at hn
      obtain ⟨y0, y1, y2, y3, y4, y5⟩ := I3.fpOk (Nat.le_refl _) nC
      exact ⟨m, hn, fun h'' sb => ⟨.ref D, H5, I7.turned (t' := s6.toks) (fun b o hb e => (sb.2 b hb).trans e) y0 y1 y3 y4 y5, rfl, qq⟩⟩
    · refine thnF (T.item (X.blk s3 H3 scope ce fp) rfl rfl rfl hc i [] s5 _ H5 (fun _ _ => False) I5 (stat I5 n5) st5 go) fun r s6 ⟨u, hr, h6⟩ => ?_
      subst hr
      refine thnF h6 fun _ s7 ⟨x, H7, I7, r7, y7, st7, n7⟩ => ?_
      have I7' := I7.pinned (stat I7 n7) (T.obj _ _ st7)
      refine thnF (pg.run _ s7 _ H7 x u _ I7' r7 (step x H7 y7)) fun _ s8 ⟨σ8, H8, I8, hw8, q8⟩ => ?_
      refine thnF (pt.run _ s8 σ8 H8 _ I8 q8) fun b s9 ⟨H9, I9, q9⟩ => ?_
      have fin : ∀ {σ9 : L2.St} {s' : Shared} {H' : Hp}, Inv (X.blk s3 H3 scope ce fp) ([] ++ pinsAt fp s7.heap) σ9 H' s' → σ9.length = σ8.length → (∀ (j : Nat) v, j ∉ vs1 → σ8[j]? = some (some v) → σ9[j]? = some (some v)) → Nx H' →
          ∃ m, m < n ∧ ∃ i H', Inv (X.blk s3 H3 scope ce fp) [] (wipe σ (own.map (·.2))) H' s' ∧ tn i s'.heap ∧ (∀ b ∈ fp, H' b = none) ∧ W i m H' := fun {σ9 s' H'} I' hl hk nx => by
        obtain ⟨m', hm, w'⟩ := hNx H' nx
        have pin' : ∀ b ∈ fp, ∀ o, s7.heap.get? b = some o → s'.heap.get? b = some o ∧ H' b = none := fun b hb o eo =>
          let z := I'.pin (b, o) (List.mem_append_right _ (List.mem_append_right _ (mem_pinsAt hb eo)))
          ⟨z.1, z.2.1⟩
        refine ⟨m', hm, i + 1, H', (I'.unpinned (pins := [])).weak ?_ fun j v ev => ?_, T.keep _ _ _ st7 fun b hb o eo => (pin' b hb o eo).1, fun b hb => ?_, w'⟩
        · rw [← hw8, wipe_length, hl]
        · rw [← hw8] at ev
          obtain ⟨e1, e2⟩ := wipe_some ev
          exact hk j v (fun z => e2 (hv1 j z)) e1
        · obtain ⟨o, eo, _⟩ := T.obj _ _ st7 b hb
          exact (pin' b hb o eo).2
      cases b with
      | false =>
        simp only [Bool.false_eq_true, if_false] at q9 ⊢
        exact fin I9 rfl (fun _ _ _ ev => ev) q9
      | true =>
        simp only [if_true] at q9 ⊢
        exact mono_cl _ _ _ (fun s' ⟨σ', H', I', hl, hk, nx⟩ => fin I' hl hk nx) (B1 _ s9 σ8 H9 Nx I9 q9)
  exact codeAny_compStart_list loop (T.self X.A 0 _ _ _ st4 loop)
end
end Own

namespace Own
open PySem PySem.Spec PyProof.Rows L2 Evl
/-- the loop of a clause that is not the first: D the list so far -/
theorem clG {J1 : It} {n1 : Nat} {G1 : Hp → Prop} {Y1 : Nat → Hp → V → Hp → Prop} (w1 : Walk J1 n1 G1 Y1) {D : Addr} {Nx : Hp → Prop} {g1 : TG} {tt1 : TT} {tb : TB} {vs1 : List Nat} {σ2 : L2.St} {H1 H4 : Hp} {ys : List V}
    (hD : H1 D = none) (e0 : Ex H1 H4) (hd : H4 D = some (.lst ys)) (hG1 : ∀ H, Ex H1 H → TEx H4 H → G1 H) (hY1 : ∀ i H x H', Y1 i H x H' → Ex H H') (Pb : Nat → List V → Hp → Prop) (hm : ∀ j zs H H', TEx H H' → Pb j zs H → Pb j zs H') (p0 : Pb 0 ys H4)
    (hs : ∀ j x H5 H6 zs, j < n1 → Ex H1 H6 → TEx H4 H6 → Y1 j H5 x H6 → Pb j zs H6 → H6 D = some (.lst zs) → ∀ (N : Hp → Prop), (∀ zs' H7, Ex H1 H7 → TEx H6 H7 → H7 D = some (.lst zs') → Pb (j + 1) zs' H7 → N H7) →
      g1 x (wipe σ2 vs1) H6 fun σ3 H7 => wipe σ3 vs1 = wipe σ2 vs1 ∧ tt1 σ3 H7 fun b H8 => if b = true then tb N σ3 H8 else N H8)
    (hend : ∀ zs H, Ex H1 H → TEx H4 H → H D = some (.lst zs) → Pb n1 zs H → Nx H) : ClRest g1 tt1 tb vs1 Nx σ2 J1 H4 := by
  refine ⟨fun j k H => k = n1 - j ∧ j ≤ n1 ∧ ∃ zs, Ex H1 H ∧ TEx H4 H ∧ H D = some (.lst zs) ∧ Pb j zs H, ⟨n1, by simp, Nat.zero_le _, ys, e0, TEx.refl _, hd, p0⟩, ?_⟩
  rintro j k H ⟨rfl, hj, zs, e, t, d, p⟩
  have hg := hG1 H e t
  by_cases hlt : j < n1
  · refine .inr ⟨w1.goes j H hlt hg, fun H' => ∃ zs, Ex H1 H' ∧ TEx H4 H' ∧ H' D = some (.lst zs) ∧ Pb (j + 1) zs H', fun H' q => ⟨n1 - (j + 1), by omega, rfl, hlt, q⟩, fun x H' y => ?_⟩
    have hy := w1.yields j H x H' hlt hg y
    have e' := hY1 _ _ _ _ hy
    have t' := t.trans (TEx.of e')
    exact hs j x H H' zs hlt (e.trans e') t' hy (hm _ _ _ _ (TEx.of e') p) (e' _ _ d) _ fun zs' H7 e7 t7 d7 p7 => ⟨zs', e7, t'.trans t7, d7, p7⟩
  · have ej : j = n1 := by omega
    subst ej
    exact .inl ⟨w1.stops H hg, hend zs H e t d p⟩
/-- the item put in -/
theorem apG {te : TE} {D : Addr} {σ : L2.St} {H : Hp} {N : Hp → Prop} (h : te σ H fun y H1 => ∃ acc, H1 D = some (.lst acc) ∧ acc.length < sizeLine ∧ N (upd H1 D (.lst (acc ++ [y])))) : tbAp te D N σ H := h
/-- a comprehension's first clause, the others behind it -/
theorem lc3G {J : It} {n : Nat} {G : Hp → Prop} {Y : Nat → Hp → V → Hp → Prop} (w : Walk J n G Y) {g : TG} {tt : TT} {tb : Addr → TB} {vs : List Nat} {σ : L2.St} {H1 : Hp} {Q : VK} (hG0 : G H1) (hGm : ∀ H H', Ex H H' → G H → G H') (hY : ∀ i H x H', Y i H x H' → Ex H H')
    (Pa : Nat → List V → Hp → Prop) (hm : ∀ i ys H H', TEx H H' → Pa i ys H → Pa i ys H') (p0 : Pa 0 [] H1)
    (hs : ∀ i x H H' ys, i < n → Ex H1 H' → Y i H x H' → Pa i ys H' → ∀ (D : Addr) (Nx : Hp → Prop), H1 D = none → H' D = some (.lst ys) → (∀ zs H3, Ex H1 H3 → TEx H' H3 → H3 D = some (.lst zs) → Pa (i + 1) zs H3 → Nx H3) →
      g x (wipe σ vs) H' fun σ2 H2 => wipe σ2 vs = wipe σ vs ∧ tt σ2 H2 fun b H3 => if b = true then tb D Nx σ2 H3 else Nx H3)
    (k : ∀ D H2 ys, H1 D = none → Ex H1 H2 → H2 D = some (.lst ys) → Pa n ys H2 → Q (.ref D) H2) : Lc3Rest g tt tb vs σ Q J H1 := by
  intro D hD
  refine ⟨fun i m H => m = n - i ∧ i ≤ n ∧ ∃ ys, Ex H1 H ∧ H D = some (.lst ys) ∧ Pa i ys H, ⟨n, by simp, Nat.zero_le _, [], Ex.new hD, upd_same, hm _ _ _ _ (TEx.of (Ex.new hD)) p0⟩, ?_⟩
  rintro i m H ⟨rfl, hi, ys, e, d, p⟩
  have hg := hGm _ _ e hG0
  by_cases hlt : i < n
  · refine .inr ⟨w.goes i H hlt hg, fun H' => ∃ ys, Ex H1 H' ∧ H' D = some (.lst ys) ∧ Pa (i + 1) ys H', fun H' q => ⟨n - (i + 1), by omega, rfl, hlt, q⟩, fun x H' y => ?_⟩
    have hy := w.yields i H x H' hlt hg y
    have e' := hY _ _ _ _ hy
    exact hs i x H H' ys hlt (e.trans e') hy (hm _ _ _ _ (TEx.of e') p) D _ hD (e' _ _ d) fun zs H3 e3 t3 d3 p3 => ⟨zs, e3, d3, p3⟩
  · have ej : i = n := by omega
    subst ej
    exact .inl ⟨w.stops H hg, k D H ys hD e d p⟩
end Own

namespace Own
open PySem PySem.Spec PyProof.Rows L2 Evl
mutual
theorem eqv_ky : ∀ (d d' : PyData), kyD d = true → kyD d' = true → PyData.eqv d d' = true → PySem.W.alike d d' = true → d = d'
  | .int i, d', _, h, e, al => by
    cases d' with
    | int j => simpa [PyData.eqv] using e
    | _ => simp [PySem.W.alike] at al
  | .str z, d', _, h, e, al => by
    cases d' with
    | str y => simpa [PyData.eqv] using e
    | _ => simp [PySem.W.alike] at al
  | .tuple ds, d', k, h, e, al => by
    cases d' with
    | tuple ds' =>
      rw [kyD] at k h
      rw [eqvs_ky ds ds' k h (by simpa [PyData.eqv] using e) (by simpa [PySem.W.alike] using al)]
    | _ => simp [PySem.W.alike] at al
  | .none, _, k, _, _, _ => by cases k
  | .bool _, _, k, _, _, _ => by cases k
  | .list _, _, k, _, _, _ => by cases k
  | .dict _, _, k, _, _, _ => by cases k
theorem eqvs_ky : ∀ (ds ds' : List PyData), kyDs ds = true → kyDs ds' = true → PyData.eqvAll ds ds' = true → PySem.W.alikeAll ds ds' = true → ds = ds'
  | [], [], _, _, _, _ => rfl
  | [], _ :: _, _, _, e, _ => by simp [PyData.eqvAll] at e
  | _ :: _, [], _, _, e, _ => by simp [PyData.eqvAll] at e
  | d :: ds, d' :: ds', k, h, e, al => by
    rw [kyDs_cons, Bool.and_eq_true] at k h
    rw [PySem.W.eqv_all_cons, Bool.and_eq_true] at e
    obtain ⟨a1, a2⟩ := PySem.W.alike_all_cons al
    rw [eqv_ky d d' k.1 h.1 e.1 a1, eqvs_ky ds ds' k.2 h.2 e.2 a2]
end
theorem toks_one {r r' : List PyData} (k : kyDs r = true) (k' : kyDs r' = true) (al : PySem.W.alikeAll r r' = true) (e : PySem.W.keyToksAll r = PySem.W.keyToksAll r') : r = r' := by
  cases hv : PyData.eqvAll r r' with
  | true => exact eqvs_ky r r' k k' hv al
  | false =>
    have z := (PySem.W.toksAll_eqv r r' al).2 hv [] [.inl 0]
    rw [e, PySem.W.lex_pre, PyProof.Rows.lex_irrefl] at z
    exact absurd z (by simp [PyProof.Rows.lexLt])
theorem mix_anti {ds : List PyData} (m : Mix ds) {d d' : PyData} (h : d ∈ ds) (h' : d' ∈ ds) (l1 : PySem.W.dataLt d d' = false) (l2 : PySem.W.dataLt d' d = false) : d = d' := by
  have e : PySem.W.keyToks d = PySem.W.keyToks d' := (listOrd itemOrd).total _ _ l1 l2
  obtain ⟨z, r, rfl⟩ := m.hd d h
  obtain ⟨z', r', rfl⟩ := m.hd d' h'
  have e : PySem.W.keyToksAll (.str z :: r) = PySem.W.keyToksAll (.str z' :: r') := e
  rw [PySem.W.toks_all_cons, PySem.W.toks_all_cons] at e
  injection e with _ e
  have e : Sum.inr z.cps.toList :: PySem.W.keyToksAll r = (Sum.inr z'.cps.toList :: PySem.W.keyToksAll r' : List (Int ⊕ List Nat)) := e
  injection e with e1 e2
  have ez := PySem.W.str_of_cps (Sum.inr.inj e1)
  subst ez
  have k := m.ky _ h
  have k' := m.ky _ h'
  rw [kyD, kyDs_cons, Bool.and_eq_true] at k k'
  rw [toks_one k.2 k'.2 (m.al z r r' h h') e2]
/-- two ascending lists of the same, each once, are one -/
theorem asc_one {ds : List PyData} (m : Mix ds) : ∀ (xs ys : List PyData), (∀ d ∈ xs, d ∈ ds) → ascD xs → ascD ys → xs.Nodup → ys.Nodup → (∀ d, d ∈ xs ↔ d ∈ ys) → xs = ys
  | [], [], _, _, _, _, _, _ => rfl
  | [], y :: ys, _, _, _, _, _, q => by cases (q y).mpr List.mem_cons_self
  | x :: xs, [], _, _, _, _, _, q => by cases (q x).mp List.mem_cons_self
  | x :: xs, y :: ys, s, ax, ay, nx, ny, q => by
    obtain ⟨ax1, ax2⟩ := List.pairwise_cons.mp ax
    obtain ⟨ay1, ay2⟩ := List.pairwise_cons.mp ay
    obtain ⟨nx1, nx2⟩ := List.nodup_cons.mp nx
    obtain ⟨ny1, ny2⟩ := List.nodup_cons.mp ny
    have e : x = y := by
      have mx := (q x).mp List.mem_cons_self
      have my := (q y).mpr List.mem_cons_self
      rcases List.mem_cons.mp mx with e | mx
      · exact e
      · rcases List.mem_cons.mp my with e | my
        · exact e.symm
        · exact mix_anti m (s x List.mem_cons_self) (s y (List.mem_cons_of_mem _ my)) (ay1 x mx) (ax1 y my)
    subst e
    rw [asc_one m xs ys (fun d hd => s d (List.mem_cons_of_mem _ hd)) ax2 ay2 nx2 ny2 fun d => ?_]
    have z := q d
    rw [List.mem_cons, List.mem_cons] at z
    exact ⟨fun hd => (z.mp (.inr hd)).resolve_left fun e => nx1 (e ▸ hd), fun hd => (z.mpr (.inr hd)).resolve_left fun e => ny1 (e ▸ hd)⟩
section
variable {X : Cx} {k : Nat}
theorem cr_setDr (hc : X.calm = true) (hr : Room k X.A) : CallR X (.type "set") (rSetD X.K X.w) := cr_setD hc (by have := hr.un; omega)
theorem cr_sortDr (hc : X.calm = true) (hr : Room k X.A) : CallR X (.builtin "sorted") (rSortD X.w) := cr_sortD hc (by have := hr.un; omega)
theorem cr_sortQr (hr : Room k X.A) : CallR X (.builtin "sorted") (rSortQ X.K) := cr_sortQ (by have := hr.un; omega)
end
end Own

namespace Own
open PySem PySem.Spec PyProof.Rows L2 Evl
/-- all but D stays -/
def ExO (D : Addr) (H H' : Hp) : Prop := ∀ a o, a ≠ D → H a = some o → H' a = some o
theorem ExO.refl (D : Addr) (H : Hp) : ExO D H H := fun _ _ _ h => h
theorem ExO.of {D : Addr} {H H' : Hp} (e : Ex H H') : ExO D H H' := fun a o _ h => e a o h
theorem ExO.trans {D : Addr} {H H' H'' : Hp} (e : ExO D H H') (e' : ExO D H' H'') : ExO D H H'' := fun a o n h => e' a o n (e a o n h)
theorem ExO.set {D : Addr} {H : Hp} {o : HO} : ExO D H (upd H D o) := fun a u n h => by rw [upd_ne n]; exact h
/-- the second source's loop, its source made in the turn -/
theorem inGB {J1 : It} {n1 : Nat} {G1 : Hp → Prop} {Y1 : Nat → Hp → V → Hp → Prop} (w1 : Walk J1 n1 G1 Y1) {D : Addr} {Nx : Hp → Prop} {g1 : TG} {tt1 : TT} {te : TE} {vs1 : List Nat} {σ2 : L2.St} {H1 H4 : Hp} {ys : List V}
    (hD : H1 D = none) (e0 : Ex H1 H4) (hd : H4 D = some (.lst ys)) (hG1 : ∀ H, Ex H1 H → ExO D H4 H → G1 H) (hY1 : ∀ i H x H', Y1 i H x H' → Ex H H') (Pb : Nat → List V → Hp → Prop) (hm : ∀ j zs H H', TEx H H' → Pb j zs H → Pb j zs H') (hl : ∀ j zs H, Pb j zs H → zs.length ≤ 40000) (p0 : Pb 0 ys H4)
    (hs : ∀ j x H5 H6 zs, j < n1 → Ex H1 H6 → ExO D H4 H6 → Y1 j H5 x H6 → Pb j zs H6 → ∀ (N : V → Hp → Prop) (N1 : Hp → Prop), (∀ y H7, Ex H6 H7 → Pb (j + 1) (zs ++ [y]) H7 → N y H7) → (∀ H7, Ex H6 H7 → Pb (j + 1) zs H7 → N1 H7) →
      g1 x (wipe σ2 vs1) H6 fun σ3 H7 => wipe σ3 vs1 = wipe σ2 vs1 ∧ tt1 σ3 H7 fun b H8 => if b = true then te σ3 H8 N else N1 H8)
    (hend : ∀ zs H, Ex H1 H → ExO D H4 H → H D = some (.lst zs) → Pb n1 zs H → Nx H) : InRest D Nx g1 tt1 te vs1 σ2 J1 H4 := by
  refine ⟨fun j k H => k = n1 - j ∧ j ≤ n1 ∧ ∃ zs, Ex H1 H ∧ ExO D H4 H ∧ H D = some (.lst zs) ∧ Pb j zs H, ⟨n1, by simp, Nat.zero_le _, ys, e0, ExO.refl _ _, hd, p0⟩, ?_⟩
  rintro j k H ⟨rfl, hj, zs, e, t, d, p⟩
  have hg := hG1 H e t
  by_cases hlt : j < n1
  · refine .inr ⟨w1.goes j H hlt hg, fun H' => ∃ zs, Ex H1 H' ∧ ExO D H4 H' ∧ H' D = some (.lst zs) ∧ Pb (j + 1) zs H', fun H' q => ⟨n1 - (j + 1), by omega, rfl, hlt, q⟩, fun x H' y => ?_⟩
    have hy := w1.yields j H x H' hlt hg y
    have e' := hY1 _ _ _ _ hy
    refine hs j x H H' zs hlt (e.trans e') (t.trans (ExO.of e')) hy (hm _ _ _ _ (TEx.of e') p) _ _ (fun v H7 e7 p7 => ?_) (fun H7 e7 p7 => ?_)
    · have d7 := e7 _ _ (e' _ _ d)
      have b := hl _ _ _ p
      exact ⟨zs, d7, sz_lt (by omega), zs ++ [v], Ex.mut ((e.trans e').trans e7) hD, (t.trans (ExO.of (e'.trans e7))).trans ExO.set, upd_same, hm _ _ _ _ (TEx.lst d7) p7⟩
    · exact ⟨zs, (e.trans e').trans e7, t.trans (ExO.of (e'.trans e7)), e7 _ _ (e' _ _ d), p7⟩
  · have ej : j = n1 := by omega
    subst ej
    exact .inl ⟨w1.stops H hg, hend zs H e t d p⟩
theorem flat_step {α β : Type} {f : α → List β} {as : List α} {i : Nat} {a : α} (h : as[i]? = some a) : (as.take (i + 1)).flatMap f = (as.take i).flatMap f ++ f a := by
  rw [List.take_add_one, h, List.flatMap_append]
  simp
end Own

namespace Own
open PySem PySem.Spec PyProof.Rows L2 Evl
/-! ### dict(zip(texts, texts)) -/
theorem stored_new {K : Type} [DecidableEq K] {kvs : List (K × Value)} {k : K} {v : Value} (h : k ∉ kvs.map Prod.fst) : stored kvs k v = kvs ++ [(k, v)] := by
  have z : kvs.any (fun kv => decide (kv.1 = k)) = false := by
    rw [List.any_eq_false]
    intro kv hkv e
    exact h (List.mem_map.mpr ⟨kv, hkv, of_decide_eq_true e⟩)
  unfold stored
  rw [if_neg (by rw [z]; exact Bool.false_ne_true)]
theorem merged_new {K : Type} [DecidableEq K] : ∀ (more kvs : List (K × Value)), ((kvs ++ more).map Prod.fst).Nodup → merged kvs more = kvs ++ more
  | [], kvs, _ => by
    rw [List.append_nil]
    rfl
  | p :: more, kvs, h => by
    show merged (stored kvs p.1 p.2) more = _
    have h2 : (((kvs ++ [p]) ++ more).map Prod.fst).Nodup := by rw [List.append_assoc]; exact h
    rw [stored_new (fun hm => ?_), merged_new more (kvs ++ [p]) h2, List.append_assoc]
    · rfl
    · rw [List.map_append, List.map_cons] at h
      exact (List.nodup_append.mp h).2.2 _ hm _ List.mem_cons_self rfl
/-- the pairs of two lists of texts -/
def zkv (zs ws : List Str) : List (Key × V) := (zs.zip ws).map fun p => (Sum.inr p.1, .str p.2)
def tDZ (K : PySem.W.Frag) (ta : TA) : TE := fun σ H Q => ta σ H fun vs H1 => ∃ (a b : Addr) (zs ws : List Str), vs = [.ref a, .ref b] ∧ SqL K H1 a (zs.map V.str) ∧ SqL K H1 b (ws.map V.str) ∧ zs.Nodup ∧ zs.length = ws.length ∧ zs.length ≤ 4000 ∧
  ∀ d, H1 d = none → Q (.ref d) (upd H1 d (.dK (zkv zs ws)))
theorem str_get : ∀ {zs : List Str} {us : List Value} {i : Nat} {v : Value}, Vals (zs.map V.str) us → us[i]? = some v → ∃ z t, zs[i]? = some z ∧ v = .str z t
  | [], _, i, v, r, h => by
    cases r
    simp at h
  | z :: zs, _, 0, v, r, h => by
    cases r with
    | cons r1 r2 =>
      obtain ⟨t, rfl⟩ := r1
      cases h
      exact ⟨z, t, rfl, rfl⟩
  | z :: zs, _, i + 1, v, r, h => by
    cases r with
    | cons r1 r2 => exact str_get (zs := zs) (i := i) r2 (by simpa using h)
theorem kv_zip : ∀ {zs ws : List Str} {us : List Value}, Vals (ws.map V.str) us → KV (zkv zs ws) ((zs.zip us).map fun p => ((Sum.inr p.1 : Key), p.2))
  | [], _, _, _ => .nil
  | _ :: _, [], _, r => by
    cases r
    exact .nil
  | z :: zs, w :: ws, _, r => by
    cases r with
    | cons r1 r2 => exact .cons ⟨rfl, r1⟩ (kv_zip r2)
section
variable {X : Cx}
theorem pe_dictZip {a b : Expr} {ta : TA} {p p2 q pos : Pos} (hg : Gl X "dict") (hm : X.mg "dict" = none) (hg2 : Gl X "zip") (hm2 : X.mg "zip" = none) (ha : PA X [a, b] ta) (hc : X.calm = true := by rfl)
    (na : starEach [a, b] X.env = (false, eval a X.env) :: starEach [b] X.env := by rfl) (nb : (backTo q (starEach [b] X.env)).any (·.1) = false := by rfl)
    (nz : starEach [Expr.Call (.Name "zip" p2) [a, b] [] q] X.env = (false, eval (.Call (.Name "zip" p2) [a, b] [] q) X.env) :: starEach [] X.env := by rfl) :
    PE X (.Call (.Name "dict" p) [.Call (.Name "zip" p2) [a, b] [] q] [] pos) (tDZ X.K ta) := by
  refine ⟨fun pk s σ H Q I h => ?_⟩
  refine Call_ (ld_blt I hg hm PyProof.Rows.boot_dict ?_)
  refine PyProof.Rows.callWith_type1 (PyProof.Rows.args_cons ?_ nz) nz rfl
  refine Call_ (ld_blt I hg2 hm2 PyProof.Rows.boot_zip (PyProof.Rows.callWith_type1 (thn (ha.run q pk s σ H _ I h) fun us s1 ⟨vs, H1, I1, r1, q1⟩ => ?_) na nb))
  obtain ⟨l1, l2, zs, ws, rfl, h1, h2, nd, hl, small, q1⟩ := q1
  cases r1 with
  | cons r rr =>
    cases rr with
    | cons r' rr =>
      cases rr
      cases r
      cases r'
      obtain ⟨us1, rv1, p1, _⟩ := I1.list h1
      obtain ⟨us2, rv2, p2', _⟩ := I1.list h2
      have len1 : us1.length = zs.length := by rw [← rv1.length, List.length_map]
      have len2 : us2.length = ws.length := by rw [← rv2.length, List.length_map]
      refine call_zip_2 p1.isList p2'.isList fun h' hz hTI hTO hi1 hi2 hsz hk => ?_
      refine PyProof.Rows.args_nil ?_
      have D := PySem.W.ktu_apart s1.heap.objs.size l1 l2 p1.lt p2'.lt
      have have_ : PairsHave (mixKind X.prog X.w) (min us1.toArray.size us2.toArray.size) (fun i k v => us1.toArray[i]? = some k ∧ us2.toArray[i]? = some v) ((zs.zip us2).map fun p => ((Sum.inr p.1 : Key), p.2)) := by
        refine ⟨by rw [List.length_map, List.length_zip, List.size_toArray, List.size_toArray, len1], fun i key v hkv => ?_⟩
        obtain ⟨k1, k2⟩ := hkv
        have k1 : us1[i]? = some key := by simpa using k1
        have k2 : us2[i]? = some v := by simpa using k2
        obtain ⟨z, t, hz, rfl⟩ := str_get rv1 k1
        refine ⟨Sum.inr z, ?_, Froz.is_str (P := X.prog) (w := X.w) z t⟩
        rw [List.getElem?_map, show (zs.zip us2)[i]? = some (z, v) from List.getElem?_zip_eq_some.mpr ⟨hz, k2⟩]
        rfl
      have il1 : h'.IsList l1 us1.toArray := by
        obtain ⟨o, ho, r⟩ := p1.isList
        exact ⟨o, hk _ _ ho, r⟩
      have il2 : h'.IsList l2 us2.toArray := by
        obtain ⟨o, ho, r⟩ := p2'.isList
        exact ⟨o, hk _ _ ho, r⟩
      refine call_dict_pairs (s := { s1 with heap := h' }) (PairArg.zip _ _ _ _ _ l1 l2 D us1.toArray us2.toArray) (I1.ok.hd hc) ⟨hz, hTI, ⟨_, _, hTO⟩, hi1, hi2, il1, il2⟩ have_ (by rw [List.size_toArray, len1, sizeLine_eq]; omega) fun h'' tk hd hk2 => ?_
      have ndk : (([] ++ (zs.zip us2).map fun p : Str × Value => ((Sum.inr p.1 : Key), p.2)).map Prod.fst).Nodup := by
        rw [List.nil_append, List.map_map]
        have e : (zs.zip us2).map (Prod.fst ∘ fun p : Str × Value => ((Sum.inr p.1 : Key), p.2)) = ((zs.zip us2).map Prod.fst).map Sum.inr := by
          rw [List.map_map]
          rfl
        rw [e, List.map_fst_zip (by omega)]
        exact List.pairwise_map.mpr (nd.imp fun {x y} hne e => hne (Sum.inr.inj e))
      rw [merged_new _ _ ndk, List.nil_append] at hd
      have big := I1.big
      have le : s1.heap.objs.size ≤ h'.objs.size := by omega
      have kk : ∀ c o, s1.heap.get? c = some o → h''.get? c = some o := fun c o e => by
        have lt := Heap.lt_size e
        refine hk2 c o (fun hm => ?_) (hk c o e)
        simp only [List.mem_cons, List.not_mem_nil, or_false] at hm
        rcases hm with e1 | e1 | e1 | e1 <;> (have z : s1.heap.objs.size ≤ c := by rw [e1]; first | exact Nat.le_add_right _ _ | exact Nat.le_refl _) <;> exact absurd lt (Nat.not_lt_of_le z)
      have hlen : (zkv zs ws).length ≤ sizeLine := by
        unfold zkv
        rw [List.length_map, List.length_zip, sizeLine_eq]
        omega
      exact ⟨.ref _, _, I1.laid (a := h'.objs.size) (o := .dK (zkv zs ws)) (t' := tk) kk le ⟨hlen, beq_eq_false_iff_ne.mpr (Nat.ne_of_gt (Nat.lt_of_lt_of_le big le)), _, kv_zip rv2, hd⟩, rfl, q1 _ (I1.hok.fresh le)⟩
end
end Own

namespace Own
open PySem PySem.Spec PyProof.Rows L2 Evl
/-! ### y[i] of an object with an own __getitem__ that may raise -/
structure GetN (P : Program) (w : World) (K : PySem.W.Frag) (mg : Str → Option Value) (base : Heap) (k : Nat) (C : Addr) (sp : Sp) : Prop where
  cl : Cls K C
  ex : ∃ (f : Addr) (fd : FuncData) (ps : List Str), FnN P w K mg base k f fd ps sp ∧ Meth K C "__getitem__" f ∧ Binds K fd ps [] ∧ PySem.W.fnIn K f = true
def tIxN (C : Addr) (sp : Sp) (E : L2.St → XK) (ta tb : TE) : TE := fun σ H Q => ta σ H fun x H1 => tb σ H1 fun y H2 => ∃ a d fs, x = .ref a ∧ H2 a = some (.ins C d fs) ∧ sp [.ref a, y] H2 Q (E σ)
section
variable {X : Cx} {pk : List (Addr × Obj)} {τ : L2.St} {H : Hp} {s : Shared} {k j : Nat} {sp : Sp} {f C : Addr} {fd : FuncData} {ps : List Str} {Z : VK} {us : List Value} {vs : List V} {pos : Pos} {a b : Expr} {ta tb : TE} {E : L2.St → XK}
theorem run_fnN1 (F : FnN X.prog X.w X.K X.mg X.base k f fd ps sp) (hr : Room k X.A.in1) (hg : X.A.guards = some []) (hbd : Binds X.K fd ps []) (hx : PassesAt (L2N.CX X.prog X.w) X τ (E τ))
    (I : Inv X pk τ H s) (r : Vals vs us) (h : sp vs H Z (E τ)) : wpAny (model X.prog X.w) X.A.in1 (call (.ref f) us) (EP X pk τ Z) X.xe s := by
  have hlen : us.length = ps.length := by rw [← r.length]; exact F.len _ _ _ _ h
  refine wpAny_call (codeAny_mono (F.run X.A.in1 X.stack s H ⟨us, []⟩ us vs Z (E τ) hr hg I.env0.in1 (by have q := hbd s us I.kIn (by rw [List.append_nil]; exact hlen); rw [List.append_nil] at q; exact q) r h) fun r s' hsq => ?_)
  cases r with
  | error e => exact hx pk H s e s' I hsq
  | ok fl =>
    cases fl with
    | ret u => exact I.after hsq
    | next => exact False.elim hsq
    | brk => exact False.elim hsq
    | cont => exact False.elim hsq
theorem pe_ixN (c : GetN X.prog X.w X.K X.mg X.base k C sp) (hr : Room j X.A) (hg0 : X.A.guards = some []) (hkp : k + 1 ≤ j) (hx : ∀ σ, PassesAt (L2N.CX X.prog X.w) X σ (E σ)) (ha : PE X a ta) (hb : PE X b tb)
    (hsl : ∀ o i, subscripted b true o i = runValue (.builtin "lifetime.subscript" ⟨[o, i], []⟩) := by intro _ _; rfl) : PE X (.Subscript a b pos) (tIxN C sp E ta tb) := by
  obtain ⟨f, fd, ps, F, M, bd, fi⟩ := c.ex
  refine ⟨fun pins s σ H Q I h => ?_⟩
  refine Subscript_ (binT ha hb I h fun v u s2 x y H2 I2 rx ry q => ?_)
  obtain ⟨a, d, fs, rfl, hA, q⟩ := q
  cases rx
  obtain ⟨mA, J, _⟩ := ins_get I2.hok hA
  obtain ⟨od, J, _⟩ := J.look
  obtain ⟨m, hF⟩ := I2.fr
  have hr1 : Room k X.A.in1 := (show Room (k + 1) X.A from hr.mono hkp).in1
  exact PySem.W.sub_K hF I2.ok.mod.kin J M.at_ fi M.fn (run_fnN1 (us := [.ref a, u]) (vs := [.ref a, y]) F hr1 hg0 bd (hx σ) I2 (.cons rfl (.cons ry .nil)) q) (hsl _ _)
theorem passN0 : ∀ σ, PassesAt (L2N.CX X.prog X.w) X σ ((fun _ => E0) σ) := fun σ pins H s e s' I c => by
  obtain ⟨_, _, _, _, _, _, _, _, _, _, _, _, h⟩ := c
  exact (show False from h).elim
end
end Own

namespace Own
open PySem PySem.Spec PyProof.Rows L2 Evl
/-! ### enumerate as the second source -/
theorem pi_enumB {X : Cx} {s : Shared} {H : Hp} {sc : Scope} {ce : Env} {fp : List Addr} {e : Expr} {ta : TA} {p pos tpos : Pos} {elts : List Expr} {kk : Nat} (hg : Gl (X.blk s H sc ce fp) "enumerate") (hm : X.mg "enumerate" = none) (ha : PA (X.blk s H sc ce fp) [e] ta) (hs : starEach [e] (X.blk s H sc ce fp).env = [(false, eval e (X.blk s H sc ce fp).env)] := by rfl) :
    PI (X.blk s H sc ce fp) (.Tuple elts kk tpos) (.Call (.Name "enumerate" p) [e] [] pos) (iEnum X.K ta) := pi_enum hg hm ha hs
end Own

namespace Own
open PySem PySem.Spec PyProof.Rows L2 Evl
/-! ### x + y of two objects of one class with an own __add__ that may raise -/
def tAddN (C : Addr) (sp : Sp) (E : L2.St → XK) (ta tb : TE) : TE := fun σ H Q => ta σ H fun x H1 => tb σ H1 fun y H2 => ∃ a d fs a' d' fs', x = .ref a ∧ H2 a = some (.ins C d fs) ∧ y = .ref a' ∧ H2 a' = some (.ins C d' fs') ∧ sp [.ref a, .ref a'] H2 (fun v H' => (∃ r, v = .ref r) ∧ Q v H') (E σ)
section
variable {X : Cx} {j k : Nat} {sp : Sp} {C : Addr} {pos : Pos} {a b : Expr} {ta tb : TE} {E : L2.St → XK}
theorem pe_addN (c : MetN X.prog X.w X.K X.mg X.base k C "__add__" sp) (sf : PySem.W.selfFirst X.K C = true) (hr : Room j X.A) (hg0 : X.A.guards = some []) (hkp : k ≤ j) (hx : ∀ σ, PassesAt (L2N.CX X.prog X.w) X σ (E σ)) (ha : PE X a ta) (hb : PE X b tb) : PE X (.BinOp a .Add b pos) (tAddN C sp E ta tb) := by
  obtain ⟨f, fd, ps, F, M, bd⟩ := c.ex
  refine ⟨fun pins s σ H Q I h => ?_⟩
  refine wpAny_BinOp (binT ha hb I h fun v u s2 x y H2 I2 rx ry q => ?_)
  obtain ⟨a, d, fs, a', d', fs', rfl, hA, rfl, hA', q⟩ := q
  cases rx
  cases ry
  obtain ⟨mA, J, _⟩ := ins_get I2.hok hA
  obtain ⟨od, J, _⟩ := J.look
  obtain ⟨mA', J', _⟩ := ins_get I2.hok hA'
  obtain ⟨od', J', _⟩ := J'.look
  obtain ⟨m, hF⟩ := I2.fr
  refine PySem.W.binop_K (op := .Add) hF I2.ok.mod.kin J J'.type sf M.at_ M.fn ?_
  refine wpAny_mono (run_fnN (us := [.ref a, .ref a']) (vs := [.ref a, .ref a']) F (hr.mono hkp) hg0 bd (hx σ) I2 (.cons rfl (.cons rfl .nil)) q) (fun w s' z => ?_) (fun _ _ e => e)
  obtain ⟨z, H', I', rz, ⟨r, er⟩, q'⟩ := z
  subst er
  cases rz
  exact ⟨.ref r, H', I', rfl, q'⟩
end
end Own

namespace Own
open PySem PySem.Spec PyProof.Rows L2 Evl
/-! ### zip of three tuples -/
def ItzT3 (K : PySem.W.Frag) (a b c : Addr) : It :=
  ⟨fun i H => ∃ (xs ys zs : List V) (x y u : V), SqT K H a xs ∧ SqT K H b ys ∧ SqT K H c zs ∧ xs[i]? = some x ∧ ys[i]? = some y ∧ zs[i]? = some u,
    fun i H v H' => ∃ T x y u, v = .ref T ∧ H T = none ∧ H' = upd H T (.tup [x, y, u]) ∧ (∀ xs, SqT K H a xs → xs[i]? = some x) ∧ (∀ ys, SqT K H b ys → ys[i]? = some y) ∧ ∀ zs, SqT K H c zs → zs[i]? = some u,
    fun i H => ∃ xs ys zs : List V, SqT K H a xs ∧ SqT K H b ys ∧ SqT K H c zs ∧ i ≤ xs.length ∧ i ≤ ys.length ∧ i ≤ zs.length ∧ (i = xs.length ∨ i = ys.length ∨ i = zs.length)⟩
theorem turn_zipT3 {P : Program} {w : World} {K : PySem.W.Frag} {elts : List Expr} {kk : Nat} {tpos : Pos} {a b c z TI TO i1 i2 i3 : Addr} (D : ZipSep3 z TI TO i1 i2 i3 [i1, a] [i2, b] [i3, c]) :
    Turn P w K (.Tuple elts kk tpos) (ItzT3 K a b c) [z, TI, TO, i1, i2, i3] z (fun i h => IsZip h z TI TO .none ∧ IsTupOf3 h TI (.ref i1) (.ref i2) (.ref i3) ∧ (∃ x y u, IsTupOf3 h TO x y u) ∧ h.IsTupleIter i1 a i ∧ h.IsTupleIter i2 b i ∧ h.IsTupleIter i3 c i) where
  mem := by simp
  obj := fun i h st c hc => by
    obtain ⟨hz, hTI, ⟨x, y, u, hTO⟩, ⟨o1, e1, _, d1⟩, ⟨o2, e2, _, d2⟩, ⟨o3, e3, _, d3⟩⟩ := st
    have e' : c = z ∨ c = TI ∨ c = TO ∨ c = i1 ∨ c = i2 ∨ c = i3 := by simpa using hc
    rcases e' with q | q | q | q | q | q
    · rw [q]; exact ⟨_, hz, fun v q => nomatch q⟩
    · rw [q]; exact ⟨_, hTI, fun v q => nomatch q⟩
    · rw [q]; exact ⟨_, hTO, fun v q => nomatch q⟩
    · rw [q]; exact ⟨o1, e1, fun v q => by rw [d1] at q; cases q⟩
    · rw [q]; exact ⟨o2, e2, fun v q => by rw [d2] at q; cases q⟩
    · rw [q]; exact ⟨o3, e3, fun v q => by rw [d3] at q; cases q⟩
  keep := fun i h h' st k => by
    obtain ⟨hz, hTI, ⟨x, y, u, hTO⟩, h1, h2, h3⟩ := st
    exact ⟨k z (by simp) _ hz, k TI (by simp) _ hTI, ⟨x, y, u, k TO (by simp) _ hTO⟩, h1.at fun o q => k i1 (by simp) o q, h2.at fun o q => k i2 (by simp) o q, h3.at fun o q => k i3 (by simp) o q⟩
  item := by
    intro X hP hw hK hc i pins s σ H E I hf st hg
    subst hP hw hK
    obtain ⟨hz, hTI, ⟨x0, y0, u0, hTO⟩, h1, h2, h3⟩ := st
    obtain ⟨xs, ys, zs, x, y, t, hqx, hqy, hqz, hx, hy, ht⟩ := hg
    obtain ⟨its, rv, p, _⟩ := I.tuple hqx
    obtain ⟨its2, rv2, p2, _⟩ := I.tuple hqy
    obtain ⟨its3, rv3, p3, _⟩ := I.tuple hqz
    obtain ⟨u, hu, ru⟩ := rv.get hx
    obtain ⟨u2, hu2, ru2⟩ := rv2.get hy
    obtain ⟨u3, hu3, ru3⟩ := rv3.get ht
    have hzl : z < s.heap.objs.size := Heap.lt_size hz
    have hA : X.A.in1.handled = none := I.ok.hd hc
    have n1 : a ≠ i1 := fun q => by
      obtain ⟨o, e, cl, d⟩ := h1
      obtain ⟨o', e', cl', n', d'⟩ := p
      rw [q, e] at e'
      cases e'
      rw [d] at d'
      cases d'
    have n2 : b ≠ i2 := fun q => by
      obtain ⟨o, e, cl, d⟩ := h2
      obtain ⟨o', e', cl', n', d'⟩ := p2
      rw [q, e] at e'
      cases e'
      rw [d] at d'
      cases d'
    have n3 : c ≠ i3 := fun q => by
      obtain ⟨o, e, cl, d⟩ := h3
      obtain ⟨o', e', cl', n', d'⟩ := p3
      rw [q, e] at e'
      cases e'
      rw [d] at d'
      cases d'
    refine wpAny_pyNext_zipD3_item D (Draws.tuple hA i1 a n1 its.toArray) (Draws.tuple hA i2 b n2 its2.toArray) (Draws.tuple hA i3 c n3 its3.toArray) hz hTI hTO ⟨h1, p⟩ ⟨h2, p2⟩ ⟨h3, p3⟩
      (by have := (List.getElem?_eq_some_iff.mp hu).1; simpa using this) (by have := (List.getElem?_eq_some_iff.mp hu2).1; simpa using this) (by have := (List.getElem?_eq_some_iff.mp hu3).1; simpa using this)
      fun x1 x2 x3 h' tk e1 e2 e3 z' TO' h1' h2' h3' hT hsz hk => ?_
    have e1 : x1 = u := by
      have e1 : its.toArray[i]? = some x1 := e1
      rw [List.getElem?_toArray, hu] at e1
      cases e1
      rfl
    have e2 : x2 = u2 := by
      have e2 : its2.toArray[i]? = some x2 := e2
      rw [List.getElem?_toArray, hu2] at e2
      cases e2
      rfl
    have e3 : x3 = u3 := by
      have e3 : its3.toArray[i]? = some x3 := e3
      rw [List.getElem?_toArray, hu3] at e3
      cases e3
      rfl
    subst e1 e2 e3
    refine ⟨_, rfl, wpAny_letOwnedTupleGo_zip (s := { s with heap := h', toks := tk }) z' fun h'' z'' sb => ?_⟩
    have hT2 : h''.get? s.heap.objs.size = some { cls := .type "tuple", data := .seq #[x1, x2, x3] } := (sb.2 _ (Nat.ne_of_gt hzl)).trans hT
    have new : ObjOk X.prog X.w (upd H s.heap.objs.size (.tup [x, y, t])) h'' s.heap.objs.size (.tup [x, y, t]) :=
      ⟨by show 3 ≤ sizeLine; decide, [x1, x2, x3], .cons ru (.cons ru2 (.cons ru3 .nil)), ⟨_, hT2, rfl, _, rfl⟩⟩
    have I1 : Inv X pins σ (upd H s.heap.objs.size (.tup [x, y, t])) { s with heap := h'', toks := tk } :=
      I.turnedNew (t' := tk) (ch := [z, TI, TO, i1, i2, i3]) (fun c o hb q => (sb.2 c (fun q' => hb (by simp [q']))).trans (hk c o (fun q' => hb (by simp [q'])) (fun q' => hb (by simp [q'])) (fun q' => hb (by simp [q'])) (fun q' => hb (by simp [q'])) (fun q' => hb (by simp [q'])) q)) hf (Nat.le_refl _) new
    refine ⟨.ref s.heap.objs.size, _, I1, rfl, ⟨_, x, y, t, rfl, I.hok.fresh (Nat.le_refl _), rfl, fun l hl => by rw [I.tuple_inj hl hqx]; exact hx, fun l hl => by rw [I.tuple_inj hl hqy]; exact hy, fun l hl => by rw [I.tuple_inj hl hqz]; exact ht⟩, ⟨z'', ?_, ⟨x1, x2, x3, ?_⟩, ?_, ?_, ?_⟩, fun c hcm => ?_⟩
    · exact (sb.2 _ D.TIz).trans (hk _ _ D.TIz D.TITO D.TIi1 D.TIi2 D.TIi3 hTI)
    · exact (sb.2 _ D.TOz).trans TO'
    · exact h1'.1.at fun o q => (sb.2 _ D.zi1.symm).trans q
    · exact h2'.1.at fun o q => (sb.2 _ D.zi2.symm).trans q
    · exact h3'.1.at fun o q => (sb.2 _ D.zi3.symm).trans q
    · have hlt : c < s.heap.objs.size := by
        have e' : c = z ∨ c = TI ∨ c = TO ∨ c = i1 ∨ c = i2 ∨ c = i3 := by simpa using hcm
        rcases e' with q | q | q | q | q | q
        · rw [q]; exact hzl
        · rw [q]; exact Heap.lt_size hTI
        · rw [q]; exact Heap.lt_size hTO
        · rw [q]; obtain ⟨_, e1, _⟩ := h1; exact Heap.lt_size e1
        · rw [q]; obtain ⟨_, e2, _⟩ := h2; exact Heap.lt_size e2
        · rw [q]; obtain ⟨_, e3, _⟩ := h3; exact Heap.lt_size e3
      rw [upd_ne (Nat.ne_of_lt hlt)]
      exact (hf c hcm).1
  done := by
    intro X hP hw hK hc i pins s σ H E I hf st hg
    subst hP hw hK
    obtain ⟨hz, hTI, ⟨x0, y0, u0, hTO⟩, h1, h2, h3⟩ := st
    obtain ⟨xs, ys, zs, hqx, hqy, hqz, b1, b2, b3, hend⟩ := hg
    obtain ⟨its, rv, p, _⟩ := I.tuple hqx
    obtain ⟨its2, rv2, p2, _⟩ := I.tuple hqy
    obtain ⟨its3, rv3, p3, _⟩ := I.tuple hqz
    have l1 := rv.length
    have l2 := rv2.length
    have l3 := rv3.length
    have hA : X.A.in1.handled = none := I.ok.hd hc
    have n1 : a ≠ i1 := fun q => by
      obtain ⟨o, e, cl, d⟩ := h1
      obtain ⟨o', e', cl', n', d'⟩ := p
      rw [q, e] at e'
      cases e'
      rw [d] at d'
      cases d'
    have n2 : b ≠ i2 := fun q => by
      obtain ⟨o, e, cl, d⟩ := h2
      obtain ⟨o', e', cl', n', d'⟩ := p2
      rw [q, e] at e'
      cases e'
      rw [d] at d'
      cases d'
    have n3 : c ≠ i3 := fun q => by
      obtain ⟨o, e, cl, d⟩ := h3
      obtain ⟨o', e', cl', n', d'⟩ := p3
      rw [q, e] at e'
      cases e'
      rw [d] at d'
      cases d'
    exact wpAny_pyNext_zipD3_end D (Draws.tuple hA i1 a n1 its.toArray) (Draws.tuple hA i2 b n2 its2.toArray) (Draws.tuple hA i3 c n3 its3.toArray) hz hTI hTO ⟨h1, p⟩ ⟨h2, p2⟩ ⟨h3, p3⟩ (by simp; omega) (by simp; omega) (by simp; omega) (by simp; omega)
      fun h' tk hk => ⟨rfl, I.turnedL (t' := tk) (ch := [z, TI, TO, i1, i2, i3]) (fun c o hb q =>
      hk c o (fun q' => hb (by simp [q'])) (fun q' => hb (by simp [q'])) (fun q' => hb (by simp [q'])) (fun q' => hb (by simp [q'])) (fun q' => hb (by simp [q'])) q) hf⟩
  self := fun A i s Q E st h => wpAny_pyIter_zip st.1 h
def iZip3 (K : PySem.W.Frag) (ta : TA) : TI := fun σ H R => ta σ H fun vs H1 => ∃ a b c xs ys zs, vs = [.ref a, .ref b, .ref c] ∧ SqT K H1 a xs ∧ SqT K H1 b ys ∧ SqT K H1 c zs ∧ R (ItzT3 K a b c) H1
theorem pi_zip3 {X : Cx} {e e2 e3 : Expr} {ta : TA} {p pos tpos : Pos} {elts : List Expr} {kk : Nat} (hg : Gl X "zip") (hm : X.mg "zip" = none) (ha : PA X [e, e2, e3] ta)
    (hs : starEach [e, e2, e3] X.env = (false, eval e X.env) :: starEach [e2, e3] X.env := by rfl) (hpl : (backTo pos (starEach [e2, e3] X.env)).any (·.1) = false := by rfl) :
    PI X (.Tuple elts kk tpos) (.Call (.Name "zip" p) [e, e2, e3] [] pos) (iZip3 X.K ta) := by
  refine ⟨fun pins s σ H R I h => ?_⟩
  refine Call_ (ld_blt I hg hm PyProof.Rows.boot_zip (PyProof.Rows.callWith_type1 (thn (ha.run pos pins s σ H _ I h) fun us s1 ⟨vs, H1, I1, r1, q1⟩ => ?_) hs hpl))
  obtain ⟨a, b, c, xs, ys, zs, ex, hqx, hqy, hqz, q⟩ := q1
  subst ex
  cases r1 with
  | cons r rr => cases rr with
    | cons r' rr => cases rr with
      | cons r'' rr =>
        cases rr
        cases r
        cases r'
        cases r''
        have fresh6 : ∀ c, c ∈ [s1.heap.objs.size + 5, s1.heap.objs.size + 3, s1.heap.objs.size + 4, s1.heap.objs.size, s1.heap.objs.size + 1, s1.heap.objs.size + 2] → FpOk X pins H1 c := fun c hcm => by
          have e' : c = s1.heap.objs.size + 5 ∨ c = s1.heap.objs.size + 3 ∨ c = s1.heap.objs.size + 4 ∨ c = s1.heap.objs.size ∨ c = s1.heap.objs.size + 1 ∨ c = s1.heap.objs.size + 2 := by simpa using hcm
          have hle : s1.heap.objs.size ≤ c := by
            rcases e' with z | z | z | z | z | z
            · rw [z]; exact Nat.le_add_right _ _
            · rw [z]; exact Nat.le_add_right _ _
            · rw [z]; exact Nat.le_add_right _ _
            · rw [z]; exact Nat.le_refl _
            · rw [z]; exact Nat.le_add_right _ _
            · rw [z]; exact Nat.le_add_right _ _
          exact I1.fpOk hle (I1.hok.fresh hle)
        obtain ⟨its, rv, p1, _⟩ := I1.tuple hqx
        obtain ⟨its2, rv2, p2, _⟩ := I1.tuple hqy
        obtain ⟨its3, rv3, p3, _⟩ := I1.tuple hqz
        obtain ⟨o1, ho1, _⟩ := id p1
        obtain ⟨o2, ho2, _⟩ := id p2
        obtain ⟨o3, ho3, _⟩ := id p3
        refine zip_begins3 (begins_tuple a its.toArray) (begins_tuple b its2.toArray) (begins_tuple c its3.toArray) p1 p2 p3 fun h' hz hTI hTO g1 g2 g3 hsz hk => wpAny_pyIter_zip hz ?_
        have I2 : Inv X pins σ H1 { s1 with heap := h' } := I1.kept (t' := s1.toks) hk
        exact ⟨s1.heap.objs.size + 5, [s1.heap.objs.size + 5, s1.heap.objs.size + 3, s1.heap.objs.size + 4, s1.heap.objs.size, s1.heap.objs.size + 1, s1.heap.objs.size + 2], _, _, H1, rfl, I2,
          turn_zipT3 (zip_sep3 (fp1 := [a]) (fp2 := [b]) (fp3 := [c]) (fun b hb => by rw [List.mem_singleton.mp hb]; exact Heap.lt_size ho1) (fun b hb => by rw [List.mem_singleton.mp hb]; exact Heap.lt_size ho2) (fun b hb => by rw [List.mem_singleton.mp hb]; exact Heap.lt_size ho3)),
          ⟨hz, hTI, ⟨_, _, _, hTO⟩, ⟨_, g1, rfl, rfl⟩, ⟨_, g2, rfl, rfl⟩, ⟨_, g3, rfl, rfl⟩⟩, fresh6, q⟩
/-- three tuples of one length, zipped -/
def YTri (fx fy fz : Nat → Option V) : Nat → Hp → V → Hp → Prop := fun i H v H' => ∃ T x y u, v = .ref T ∧ H T = none ∧ H' = upd H T (.tup [x, y, u]) ∧ fx i = some x ∧ fy i = some y ∧ fz i = some u
theorem yTri_ex {fx fy fz : Nat → Option V} : ∀ i H x H', YTri fx fy fz i H x H' → Ex H H' := fun i H x H' ⟨T, _, _, _, _, h, e, _⟩ => by
  rw [e]
  exact Ex.new h
theorem walk_zip3 {K : PySem.W.Frag} {a b c : Addr} {xs ys zs : List V} (h1 : ys.length = xs.length) (h2 : zs.length = xs.length) :
    Walk (ItzT3 K a b c) xs.length (fun H => SqT K H a xs ∧ SqT K H b ys ∧ SqT K H c zs) (YTri (fun i => xs[i]?) (fun i => ys[i]?) (fun i => zs[i]?)) := by
  refine ⟨fun i H hi h => ?_, fun H h => ⟨xs, ys, zs, h.1, h.2.1, h.2.2, Nat.le_refl _, by omega, by omega, .inl rfl⟩, fun i H x H' hi h y => ?_⟩
  · exact ⟨xs, ys, zs, xs[i], ys[i], zs[i], h.1, h.2.1, h.2.2, List.getElem?_eq_getElem (by omega), List.getElem?_eq_getElem (by omega), List.getElem?_eq_getElem (by omega)⟩
  · obtain ⟨T, u, v, t, rfl, h1, h2, h3, h4, h5⟩ := y
    exact ⟨T, u, v, t, rfl, h1, h2, h3 _ h.1, h4 _ h.2.1, h5 _ h.2.2⟩
end Own

namespace Own
open PySem PySem.Spec PyProof.Rows L2 Evl
/-! ### x in t, x not in t, t a tuple of data of any depth -/
section
variable {X : Cx}
def rInT (K : PySem.W.Frag) : R2 := fun x y H Q => ∃ d ds, Dp K H x d ∧ Dp K H y (.tuple ds) ∧ SeqAt.shaped d = true ∧ SeqAt.shaped (.tuple ds) = true ∧ Q (.bl (ds.any fun z => PyData.eqv z d)) H
def rNotInT (K : PySem.W.Frag) : R2 := fun x y H Q => ∃ d ds, Dp K H x d ∧ Dp K H y (.tuple ds) ∧ SeqAt.shaped d = true ∧ SeqAt.shaped (.tuple ds) = true ∧ Q (.bl (!ds.any fun z => PyData.eqv z d)) H
theorem op_inT (hu : X.A.units + 65 < cLine) : OpR X (compareOp .In) (rInT X.K) := by
  intro pins s σ H x y v u Q I rx ry h
  obtain ⟨d, ds, hd, he, sd, se, q⟩ := h
  obtain ⟨as, r1⟩ := Dp.reads I d x v hd rx
  obtain ⟨bs, r2⟩ := Dp.reads I (.tuple ds) y u he ry
  exact SeqAt.in_tuple_reads r2 r1 (SeqAt.canLay_of_shaped se) (SeqAt.canLay_of_shaped sd) (room_in_shaped sd hu) ⟨.bl _, H, I, rfl, q⟩
theorem op_notInT (hu : X.A.units + 65 < cLine) : OpR X (compareOp .NotIn) (rNotInT X.K) := by
  intro pins s σ H x y v u Q I rx ry h
  obtain ⟨d, ds, hd, he, sd, se, q⟩ := h
  obtain ⟨as, r1⟩ := Dp.reads I d x v hd rx
  obtain ⟨bs, r2⟩ := Dp.reads I (.tuple ds) y u he ry
  exact SeqAt.notIn_tuple_reads r2 r1 (SeqAt.canLay_of_shaped se) (SeqAt.canLay_of_shaped sd) (room_in_shaped sd hu) ⟨.bl _, H, I, rfl, q⟩
def rInU (K : PySem.W.Frag) : R2 := fun x y H Z => rInA K x y H Z ∨ rInT K x y H Z
def rNotInU (K : PySem.W.Frag) : R2 := fun x y H Z => rNotInA K x y H Z ∨ rNotInT K x y H Z
theorem opInU {k : Nat} (hr : Room k X.A) : OpR X (compareOp .In) (rInU X.K) := OpR.or opIn (op_inT (by have := hr.un; omega))
theorem opNotInU {k : Nat} (hr : Room k X.A) : OpR X (compareOp .NotIn) (rNotInU X.K) := OpR.or opNotIn (op_notInT (by have := hr.un; omega))
end
end Own

namespace Own
open PySem PySem.Spec PyProof.Rows L2 Evl
section
variable {X : Cx} {s : Shared} {H : Hp} {sc : Scope} {ce : Env} {fp : List Addr}
theorem call_tuple_ofB : CallR (X.blk s H sc ce fp) (.type "tuple") (fun xs H Q => ∃ p ys, xs = [V.ref p] ∧ ((SqL X.K H p ys ∧ ∀ l : Addr, H l = none → Q (V.ref l) (upd H l (HO.tup ys))) ∨ SqT X.K H p ys ∧ Q (V.ref p) H)) := call_tuple_of (X := X.blk s H sc ce fp)
end
end Own

namespace Own
open PySem PySem.Spec PyProof.Rows L2 Evl
/-! ### dicts whose keys are tuples of any depth -/
abbrev DE := Addr × PyData × V
abbrev XE := NestedKey × Addr × Value
def RelE (l : DE) (x : XE) : Prop := x.1 = nk l.2.1 ∧ x.2.1 = l.1 ∧ RelV l.2.2 x.2.2
def entX (w : World) (x : XE) : DictEntry := ⟨x.1.hash w, .ref x.2.1, x.2.2⟩
def DicM (w : World) (h : Heap) (d : Addr) (xs : List XE) : Prop := ∃ o es ep, h.get? d = some o ∧ o.ExactDict ∧ o.data = .dict es ep ∧ es.toList = xs.map (entX w) ∧ (xs.map (·.1)).Nodup
def DicO (w : World) (d : Addr) (L : List DE) : HO := .ext fun h => L.length ≤ sizeLine ∧ (d == sysModules) = false ∧ ∃ xs, Paired RelE L xs ∧ DicM w h d xs
theorem DicM.of {P : Program} {w : World} {h : Heap} {d : Addr} {xs : List XE} (R : h.DictOfH (nestedKind P w) d xs) : DicM w h d xs := by
  obtain ⟨o, es, ep, h1, h2, h3, h4, _, h5⟩ := R
  exact ⟨o, es, ep, h1, h2, h3, h4, h5⟩
theorem DicM.at {w : World} {h h' : Heap} {d : Addr} {xs : List XE} (R : DicM w h d xs) (k : ∀ o, h.get? d = some o → h'.get? d = some o) : DicM w h' d xs := by
  obtain ⟨o, es, ep, h1, r⟩ := R
  exact ⟨o, es, ep, k _ h1, r⟩
theorem dicO_new {P : Program} {w : World} {H : Hp} {h : Heap} {d : Addr} {L : List DE} {xs : List XE} (z : L.length ≤ sizeLine) (hd : (d == sysModules) = false) (r : Paired RelE L xs) (R : DicM w h d xs) : ObjOk P w H h d (DicO w d L) := by
  have ⟨o, _, _, h1, _⟩ := R
  exact ⟨⟨z, hd, xs, r, R⟩, ⟨o, h1⟩, fun _ _ ⟨z, hd, xs, r, R⟩ k => ⟨z, hd, xs, r, R.at k⟩⟩
/-- what is held of the keys -/
def KeysAt (H : Hp) (L : List DE) : Prop := ∀ l ∈ L, Da H (.ref l.1) l.2.1 ∧ isT l.2.1
theorem KeysAt.ex {H H' : Hp} {L : List DE} (e : Ex H H') (h : KeysAt H L) : KeysAt H' L := fun l hl => ⟨Da.ex e _ (h l hl).1, (h l hl).2⟩
def atL (L : List DE) (k : PyData) : Option V := (L.find? fun l => decide (nk l.2.1 = nk k)).map (·.2.2)
theorem dicr_at {k : PyData} : ∀ {L : List DE} {xs : List XE}, Paired RelE L xs → RelO (atL L k) ((atKey xs (nk k)).map (·.2))
  | _, _, .nil => trivial
  | l :: L, x :: xs, .cons ⟨h1, h2, h3⟩ t => by
    have ih := dicr_at (k := k) t
    unfold atL atKey at ih ⊢
    rw [List.find?_cons, List.find?_cons, h1]
    cases hb : decide (nk l.2.1 = nk k) with
    | true => exact h3
    | false => exact ih
theorem dicr_len : ∀ {L : List DE} {xs : List XE}, Paired RelE L xs → L.length = xs.length
  | _, _, .nil => rfl
  | _ :: _, _ :: _, .cons _ t => by rw [List.length_cons, List.length_cons, dicr_len t]
theorem atL_none {k : PyData} {L : List DE} (hk : kyD k = true) (hL : ∀ l ∈ L, kyD l.2.1 = true) : atL L k = none ↔ k ∉ L.map (·.2.1) := by
  unfold atL
  rw [Option.map_eq_none_iff, List.find?_eq_none]
  constructor
  · intro h hm
    obtain ⟨l, hl, e⟩ := List.mem_map.mp hm
    refine h l hl (decide_eq_true ?_)
    rw [e]
  · intro h l hl hd
    exact h (List.mem_map.mpr ⟨l, hl, nk_inj _ _ (hL l hl) hk (of_decide_eq_true hd)⟩)
section
variable {X : Cx} {pins : List (Addr × Obj)} {σ : L2.St} {H : Hp} {s : Shared} {d : Addr} {L : List DE}
theorem dic_key {k : PyData} {b : Addr} (I : Inv X pins σ H s) (hb : Da H (.ref b) k) (hk : isT k) : (nestedKind X.prog X.w).is s.heap (nk k) b := by
  obtain ⟨h2, h3, _⟩ := hk
  exact ⟨(da_key I _ _ _ h2 hb rfl).1, by rw [nk_depth _ h2]; exact h3⟩
theorem dic_of (I : Inv X pins σ H s) (hd : H d = some (DicO X.w d L)) (hk : KeysAt H L) : L.length ≤ sizeLine ∧ (d == sysModules) = false ∧ ∃ xs, Paired RelE L xs ∧ s.heap.DictOfH (nestedKind X.prog X.w) d xs := by
  obtain ⟨⟨z, y, xs, r, o, es, ep, h1, h2, h3, h4, h5⟩, _⟩ := (show ObjOk X.prog X.w H s.heap d (DicO X.w d L) from I.hok d _ hd)
  refine ⟨z, y, xs, r, o, es, ep, h1, h2, h3, h4, ?_, h5⟩
  have all : ∀ {L : List DE} {xs : List XE}, KeysAt H L → Paired RelE L xs → ∀ x ∈ xs, (nestedKind X.prog X.w).is s.heap x.1 x.2.1 := by
    intro L xs hk r
    induction r with
    | nil => intro x hx; cases hx
    | @cons l x L xs h t ih =>
      intro y hy
      rcases List.mem_cons.mp hy with e | hy
      · subst e
        obtain ⟨k1, k2⟩ := hk l List.mem_cons_self
        rw [h.1, h.2.1]
        exact dic_key I k1 k2
      · exact ih (fun l hl => hk l (List.mem_cons_of_mem _ hl)) y hy
  exact all hk r
theorem dicO_is {a : Addr} {L : List DE} (I : Inv X pins σ H s) (e : H a = some (DicO X.w a L)) : s.TypeIs (.ref a) "dict" ∧ ∀ b, Value.ref a = .ref b → ∃ ob, s.heap.get? b = some ob ∧ ob.dict = none := by
  obtain ⟨⟨_, _, _, _, o, es, ep, h1, h2, _⟩, _⟩ := (show ObjOk X.prog X.w H s.heap a (DicO X.w a L) from I.hok a _ e)
  refine ⟨⟨o, h1, h2.1⟩, fun b e => ?_⟩
  cases e
  exact ⟨o, h1, h2.2.1⟩
end
section
variable {X : Cx}
/-! k in d -/
def rInDic (w : World) : R2 := fun x y H Q => ∃ (b d : Addr) (k : PyData) (L : List DE), x = .ref b ∧ y = .ref d ∧ H d = some (DicO w d L) ∧ KeysAt H L ∧ Da H (.ref b) k ∧ isT k ∧ Q (.bl (atL L k).isSome) H
theorem op_inDic (hu : X.A.units + 12 < cLine) : OpR X (compareOp .In) (rInDic X.w) := by
  intro pins s σ H x y v u Q I rx ry h
  obtain ⟨b, d, k, L, rfl, rfl, hd, hk, hb, ht, q⟩ := h
  cases rx
  cases ry
  obtain ⟨_, y, xs, r, D⟩ := dic_of I hd hk
  refine wpAny_in_heap (knd := nestedKind X.prog X.w) (by show X.A.in1.units + 8 < cLine; exact Nat.lt_of_le_of_lt (by show X.A.units + 1 + 8 ≤ X.A.units + 12; omega) hu) (dic_key I hb ht) y D ?_
  have e : (atKey xs (nk k)).isSome = (atL L k).isSome := by
    have := dicr_at (k := k) r
    cases h1 : atL L k with
    | none =>
      rw [h1] at this
      cases h2 : atKey xs (nk k) with
      | none => rfl
      | some p => rw [h2] at this; exact this.elim
    | some v =>
      rw [h1] at this
      cases h2 : atKey xs (nk k) with
      | none => rw [h2] at this; exact this.elim
      | some p => rfl
  rw [e]
  exact ⟨.bl _, H, I.tok _, rfl, q⟩
/-! methods -/
def tBMD0 (w : World) (r : V → List V → Hp → VK → Prop) (to : TE) : TE := fun σ H Q => to σ H fun x H1 => (∃ a L, x = .ref a ∧ H1 a = some (DicO w a L)) ∧ r x [] H1 Q
def tBMD (w : World) (r : V → List V → Hp → VK → Prop) (to : TE) (t : TA) : TE := fun σ H Q => to σ H fun x H1 => (∃ a L, x = .ref a ∧ H1 a = some (DicO w a L)) ∧ t σ H1 fun xs H2 => r x xs H2 Q
variable {o e : Expr} {es : List Expr} {to : TE} {t : TA} {name : Str} {apos cpos : Pos} {id : String} {r : V → List V → Hp → VK → Prop}
theorem pe_bmD0 (pa : PlainAttrs "dict") (slot : Slot "dict" name id) (hty : typeOf (.builtin id) = pure (.type "method_descriptor")) (hm : MtR X id r) (ho : PE X o to)
    (hbase : attributeBase o name X.env (eval o X.env) = eval o X.env := by rfl) (hline : (apos.endLine == cpos.line) = true := by rfl) : PE X (.Call (.Attribute o name apos) [] [] cpos) (tBMD0 X.w r to) := by
  refine ⟨fun pins s σ H Q I h => ?_⟩
  refine wpAny_Call_method0_late hbase hline (thn (ho.run pins s σ H _ I h) fun v s1 ⟨x, H1, I1, r1, ⟨a, L, ex, ty⟩, q1⟩ => ?_)
  subst ex
  obtain rfl : v = Value.ref a := r1
  obtain ⟨h1, h2⟩ := dicO_is I1 ty
  exact ⟨"dict", id, pa, slot, hty, h1, h2, Calls.callWith_builtin rfl (PySem.evalArgs_none (hm pins s1 σ H1 (.ref a) [] _ [] Q I1 rfl .nil q1))⟩
theorem pe_bmD (pa : PlainAttrs "dict") (slot : Slot "dict" name id) (hty : typeOf (.builtin id) = pure (.type "method_descriptor")) (hm : MtR X id r) (ho : PE X o to) (ha : PA X (e :: es) t)
    (hbase : attributeBase o name X.env (eval o X.env) = eval o X.env := by rfl)
    (hfew : ((backTo cpos (starEach (e :: es) X.env)).all (fun x => !x.1) && (backToKw cpos (keywordEach [] X.env)).all (fun x => x.1.isSome)
      && decide ((e :: es).length + ([] : List Keyword).length + (if ([] : List Keyword).isEmpty then 0 else 1) < 30)) = true := by rfl)
    (hline : (apos.endLine == cpos.line) = true := by rfl) (hs : starEach (e :: es) X.env = (false, eval e X.env) :: starEach es X.env := by rfl) (hplain : (backTo cpos (starEach es X.env)).any (·.1) = false := by rfl) :
    PE X (.Call (.Attribute o name apos) (e :: es) [] cpos) (tBMD X.w r to t) := by
  refine ⟨fun pins s σ H Q I h => ?_⟩
  refine wpAny_Call_method_late hbase hfew hline rfl (thn (ho.run pins s σ H _ I h) fun v s1 ⟨x, H1, I1, r1, ⟨a, L, ex, ty⟩, q1⟩ => ?_)
  subst ex
  obtain rfl : v = Value.ref a := r1
  obtain ⟨h1, h2⟩ := dicO_is I1 ty
  refine ⟨"dict", id, pa, slot, hty, h1, h2, ?_⟩
  have hA := ha.run cpos pins s1 σ H1 _ I1 q1
  rw [hs] at hA ⊢
  refine Calls.callWith_builtin (by show (false || (backTo cpos (starEach es X.env)).any (·.1)) = false; rw [hplain] <;> rfl) (Calls.evalArgs_plain ?_)
  exact thn hA fun us s2 ⟨vs, H2, I2, r2, q2⟩ => hm pins s2 σ H2 (.ref a) vs _ us Q I2 rfl r2 q2
/-- d.setdefault(k, z) -/
def rSetdD (w : World) : V → List V → Hp → VK → Prop := fun x vs H Q => ∃ (d b : Addr) (k : PyData) (L : List DE) (z : V), x = .ref d ∧ vs = [.ref b, z] ∧ H d = some (DicO w d L) ∧ KeysAt H L ∧ Da H (.ref b) k ∧ isT k ∧ L.length < 40000 ∧
  (∀ v, atL L k = some v → Q v H) ∧ (atL L k = none → Q z (upd H d (DicO w d (L ++ [(b, k, z)]))))
theorem mt_setdD (hu : X.A.units + 12 < cLine) : MtR X "dict.setdefault" (rSetdD X.w) := by
  intro pins s σ H x vs v us Q I rx rv h
  obtain ⟨d, b, k, L, z, rfl, rfl, hd, hk, hb, ht, hl, q1, q2⟩ := h
  cases rx
  obtain ⟨ub, uz, rfl, rb, rz⟩ : ∃ ub uz, us = [ub, uz] ∧ RelV (.ref b) ub ∧ RelV z uz := by
    cases rv with
    | cons r1 r2 =>
      cases r2 with
      | cons r3 r4 =>
        cases r4
        exact ⟨_, _, rfl, r1, r3⟩
  cases rb
  obtain ⟨_, y, xs, r, D⟩ := dic_of I hd hk
  have rl := dicr_len r
  refine call_setdefault_heap (knd := nestedKind X.prog X.w) (hsz := by rw [← rl, sizeLine_eq]; omega) (by show X.A.in1.units + 8 < cLine; exact Nat.lt_of_le_of_lt (by show X.A.units + 1 + 8 ≤ X.A.units + 12; omega) hu) (dic_key I hb ht) y D (fun p hp => ?_) fun hn h' D' hs => ?_
  · have := dicr_at (k := k) r
    rw [hp] at this
    cases h1 : atL L k with
    | none => rw [h1] at this; exact this.elim
    | some v =>
      rw [h1] at this
      exact ⟨v, H, I.tok _, this, q1 v h1⟩
  · have h1 : atL L k = none := by
      have := dicr_at (k := k) r
      rw [hn] at this
      cases h1 : atL L k with
      | none => rfl
      | some v => rw [h1] at this; exact this.elim
    rw [storedH_new hn] at D'
    have he : ∃ q, h'.get? d = some q := let ⟨q, _, _, hq, _⟩ := D'; ⟨q, hq⟩
    have r' : Paired RelE (L ++ [(b, k, z)]) (xs ++ [(nk k, b, uz)]) := r.snoc ⟨rfl, rfl, rz⟩
    exact ⟨z, _, d_write I (by rw [hd]; exact True.intro) hs he (dicO_new (by rw [List.length_append, sizeLine_eq]; show L.length + 1 ≤ _; omega) y r' (DicM.of D')), rz, q2 h1⟩
end
end Own

namespace Own
open PySem PySem.Spec PyProof.Rows L2 Evl
/-! ### {}, d.values(), list(d.values()) of a dict with deep keys -/
def tDNewD (w : World) : TE := fun _ H Q => ∀ p, H p = none → Q (.ref p) (upd H p (DicO w p []))
section
variable {X : Cx}
theorem dic_empty {P : Program} {w : World} {H : Hp} (h : Heap) (hb : sysModules < h.objs.size) : ObjOk P w H (h.push { cls := .type "dict", data := .dict #[] }) h.objs.size (DicO w h.objs.size []) :=
  dicO_new (L := []) (xs := []) (Nat.zero_le _) (beq_eq_false_iff_ne.mpr (Ne.symm (Nat.ne_of_lt hb))) .nil ⟨_, #[], 0, Heap.get?_push_size _ rfl, ⟨rfl, rfl, rfl⟩, rfl, rfl, List.nodup_nil⟩
theorem pe_dnewD {pos : Pos} : PE X (.Dict [] [] pos) (tDNewD X.w) := ⟨fun pins s σ H Q I h =>
  wpAny_Dict_empty ⟨.ref s.heap.objs.size, _, I.laid (a := s.heap.objs.size) (o := DicO X.w s.heap.objs.size []) (t' := s.toks) (fun _ _ q => Heap.get?_push_of_some _ q) (Nat.le_refl _) (dic_empty s.heap I.big), rfl, h _ (I.hok.fresh (Nat.le_refl _))⟩⟩
/-- a view of the values -/
def VwO (r d : Addr) : HO := .ext fun h => h.IsValuesView r d
def rValD (w : World) : V → List V → Hp → VK → Prop := fun x vs H Q => ∃ (d : Addr) (L : List DE), x = .ref d ∧ vs = [] ∧ H d = some (DicO w d L) ∧ ∀ r, H r = none → Q (.ref r) (upd H r (VwO r d))
theorem mt_valD : MtR X "dict.values" (rValD X.w) := by
  intro pins s σ H x vs v us Q I rx rv h
  obtain ⟨d, L, rfl, rfl, hd, q⟩ := h
  cases rx
  cases rv
  obtain ⟨⟨_, y, _, _, o, es, ep, h1, h2, h3, _⟩, _⟩ := (show ObjOk X.prog X.w H s.heap d (DicO X.w d L) from I.hok d _ hd)
  have raw : s.heap.DictRaw d es ep := ⟨o, h1, h2, h3⟩
  refine call_meetsIn PySem.F.slot_dict_values raw.typeIs PySem.F.entry_dict_values (PySem.F.args_dict_values_1 _) (meets_dict_values_raw d y) ⟨⟨es, ep, raw⟩, ?_⟩
  refine ⟨.ref s.heap.objs.size, _, I.laid (a := s.heap.objs.size) (o := VwO s.heap.objs.size d) (t' := s.toks) (fun _ _ q => Heap.get?_push_of_some _ q) (Nat.le_refl _) ?_, rfl, q _ (I.hok.fresh (Nat.le_refl _))⟩
  exact ⟨⟨_, Heap.get?_push_size _ rfl, rfl, rfl⟩, ⟨_, Heap.get?_push_size _ rfl⟩, fun _ _ ⟨o, a1, a2⟩ k => ⟨o, k _ a1, a2⟩⟩
theorem dicr_vals : ∀ {L : List DE} {xs : List XE}, Paired RelE L xs → Vals (L.map fun l => l.2.2) (xs.map fun x => x.2.2)
  | _, _, .nil => .nil
  | _ :: _, _ :: _, .cons h t => .cons h.2.2 (dicr_vals t)
def rListVw (w : World) : List V → Hp → VK → Prop := fun vs H Q => ∃ (r d : Addr) (L : List DE), vs = [.ref r] ∧ H r = some (VwO r d) ∧ H d = some (DicO w d L) ∧ ∀ l, H l = none → Q (.ref l) (upd H l (.lst (L.map fun l => l.2.2)))
theorem call_listVw (hc : X.calm = true) : CallR X (.type "list") (rListVw X.w) := by
  intro pins s σ H xs us Q I rv h
  obtain ⟨r, d, L, rfl, hr, hd, q⟩ := h
  obtain ⟨u, rfl, rx⟩ := rv.one
  cases rx
  obtain ⟨⟨z, y, ks, pr, o, es, ep, h1, h2, h3, h4, h5⟩, _⟩ := (show ObjOk X.prog X.w H s.heap d (DicO X.w d L) from I.hok d _ hd)
  obtain ⟨hv, _⟩ := (show ObjOk X.prog X.w H s.heap r (VwO r d) from I.hok r _ hr)
  have raw : s.heap.DictRaw d es ep := ⟨o, h1, h2, h3⟩
  have rl := dicr_len pr
  have l1 : es.size = ks.length := by
    have := congrArg List.length h4
    rw [Array.length_toList, List.length_map] at this
    exact this
  refine PySem.W.kdl_call (PySem.KdlSrc.rawValues (r := r) (d := d) (es := es) (ep := ep)) (I.ok.hd hc) ⟨hv, raw⟩ (by omega) fun h' tk acc' c' kp e it => ?_
  have ea : acc'.toList = ks.map fun x => x.2.2 := by
    have hl : acc'.toList.length = ks.length := by rw [Array.length_toList, it.1]; exact l1
    apply List.ext_getElem?
    intro j
    rw [List.getElem?_map]
    cases hj : acc'.toList[j]? with
    | none =>
      have h1 := List.getElem?_eq_none_iff.mp hj
      rw [List.getElem?_eq_none (by omega)]
      all_goals rfl
    | some v =>
      obtain ⟨hi, hv⟩ := it.2 j v (by rw [← Array.getElem?_toList]; exact hj)
      have hk : ks[j]? = some ks[j] := List.getElem?_eq_getElem (by omega)
      have qe : es.toList[j]? = some (entX X.w ks[j]) := by rw [h4, List.getElem?_map, hk]; rfl
      rw [Array.getElem?_toList, Array.getElem?_eq_getElem hi] at qe
      rw [hk, hv, Option.some.inj qe]
      rfl
  have rv : Vals (L.map fun l => l.2.2) acc'.toList := by rw [ea]; exact dicr_vals pr
  have hz : (L.map fun l => l.2.2).length ≤ sizeLine := by rw [List.length_map]; exact z
  refine ⟨.ref s.heap.objs.size, _, I.laid (t' := tk) (o := .lst (L.map fun l => l.2.2)) kp (Nat.le_refl _) ?_, rfl, q _ (I.hok.fresh (Nat.le_refl _))⟩
  exact ⟨hz, acc'.toList, c', rv, by rw [Array.toArray_toList]; exact e⟩
end
end Own

namespace Own
open PySem PySem.Spec PyProof.Rows L2 Evl
/-! ### {k: v for ..}, the keys tuples of any depth -/
def putL (L : List DE) (b : Addr) (k : PyData) (z : V) : List DE := if (atL L k).isSome = true then L.map (fun l => if nk l.2.1 = nk k then (l.1, l.2.1, z) else l) else L ++ [(b, k, z)]
theorem putL_len (L : List DE) (b : Addr) (k : PyData) (z : V) : (putL L b k z).length ≤ L.length + 1 := by
  unfold putL
  split
  · rw [List.length_map]; omega
  · rw [List.length_append]; exact Nat.le_refl _
theorem putL_keys {L : List DE} {b : Addr} {k : PyData} {z : V} {H : Hp} (hk : KeysAt H L) (hb : Da H (.ref b) k) (ht : isT k) : KeysAt H (putL L b k z) := by
  intro l hl
  unfold putL at hl
  split at hl
  · obtain ⟨l0, h0, e⟩ := List.mem_map.mp hl
    split at e
    · subst e
      exact hk l0 h0
    · subst e
      exact hk l0 h0
  · rcases List.mem_append.mp hl with h | h
    · exact hk l h
    · rw [List.mem_singleton.mp h]
      exact ⟨hb, ht⟩
theorem dicr_map {k : PyData} {z : V} {u : Value} (rz : RelV z u) : ∀ {L : List DE} {xs : List XE}, Paired RelE L xs → Paired RelE (L.map fun l => if nk l.2.1 = nk k then (l.1, l.2.1, z) else l) (xs.map (putAt (nk k) u))
  | _, _, .nil => .nil
  | l :: L, x :: xs, .cons h t => by
    refine .cons ?_ (dicr_map rz t)
    obtain ⟨h1, h2, h3⟩ := h
    unfold putAt
    rw [h1]
    show RelE (if nk l.2.1 = nk k then (l.1, l.2.1, z) else l) _
    by_cases e : nk l.2.1 = nk k
    · rw [if_pos e, if_pos e]
      exact ⟨rfl, h2, rz⟩
    · rw [if_neg e, if_neg e]
      exact ⟨h1, h2, h3⟩
theorem dicr_put {L : List DE} {xs : List XE} {b : Addr} {k : PyData} {z : V} {u : Value} (r : Paired RelE L xs) (rz : RelV z u) : Paired RelE (putL L b k z) (storedH xs (nk k) b u) := by
  have e : (atKey xs (nk k)).isSome = (atL L k).isSome := by
    have := dicr_at (k := k) r
    cases h1 : atL L k with
    | none =>
      rw [h1] at this
      cases h2 : atKey xs (nk k) with
      | none => rfl
      | some p => rw [h2] at this; exact this.elim
    | some v =>
      rw [h1] at this
      cases h2 : atKey xs (nk k) with
      | none => rw [h2] at this; exact this.elim
      | some p => rfl
  unfold putL storedH
  rw [e]
  split
  · exact dicr_map rz r
  · exact r.snoc ⟨rfl, rfl, rz⟩
def PutD (w : World) (D : Addr) (y z : V) (H : Hp) (Nx : Hp → Prop) : Prop := ∃ (b : Addr) (k : PyData) (L : List DE), y = .ref b ∧ H D = some (DicO w D L) ∧ KeysAt H L ∧ Da H (.ref b) k ∧ isT k ∧ L.length < 40000 ∧ Nx (upd H D (DicO w D (putL L b k z)))
section
variable {X : Cx}
theorem d_dictSetD {pins : List (Addr × Obj)} {σ : L2.St} {H : Hp} {s : Shared} {E : Value → Shared → Prop} {D : Addr} {y z : V} {u r : Value} {Nx : Hp → Prop} {Q : Unit → Shared → Prop} (hu : X.A.units + 12 < cLine) (I : Inv X pins σ H s) (p : PutD X.w D y z H Nx)
    (ry : RelV y u) (rz : RelV z r) (h : ∀ H' s', Inv X pins σ H' s' → Nx H' → Q () s') : wpAny (model X.prog X.w) X.A (dictSet D u r) Q E s := by
  obtain ⟨b, k, L, rfl, hd, hk, hb, ht, hl, nx⟩ := p
  cases ry
  obtain ⟨_, y, xs, rp, dd⟩ := dic_of I hd hk
  have rl := dicr_len rp
  refine wpAny_dictSet_heap (knd := nestedKind X.prog X.w) (by show X.A.units + 8 < cLine; omega) (dic_key I hb ht) dd (fun h' dd' hs => ?_) (by rw [← rl, sizeLine_eq]; omega)
  have he : ∃ q, h'.get? D = some q := let ⟨q, _, _, hq, _⟩ := dd'; ⟨q, hq⟩
  have ll := putL_len L b k z
  exact h _ _ (d_write I (by rw [hd]; exact True.intro) hs he (dicO_new (by rw [sizeLine_eq]; omega) y (dicr_put rp rz) (DicM.of dd'))) nx
def DdRest (w : World) (g : TG) (tt : TT) (tk tv : TE) (vs : List Nat) (σ : L2.St) (Q : VK) : It → Hp → Prop := fun J H1 => ∀ D, H1 D = none → ∃ W : Nat → Nat → Hp → Prop, (∃ m, W 0 m (upd H1 D (DicO w D []))) ∧ ∀ i m H, W i m H →
  (J.stop i H ∧ Q (.ref D) H) ∨ (J.go i H ∧ ∃ Nx : Hp → Prop, (∀ H', Nx H' → ∃ m', m' < m ∧ W (i + 1) m' H') ∧ ∀ x H', J.yld i H x H' → g x (wipe σ vs) H' fun σ2 H2 => wipe σ2 vs = wipe σ vs ∧ tt σ2 H2 fun b H3 => if b = true then tk σ2 H3 fun y H4 => tv σ2 H4 fun z H5 => PutD w D y z H5 Nx else Nx H3)
def tDd (w : World) (wi : TI) (g : TG) (tt : TT) (tk tv : TE) (vs : List Nat) : TE := fun σ H Q => wi σ H (DdRest w g tt tk tv vs σ Q)
theorem dd_core {pk : List (Addr × Obj)} {s : Shared} {σ : L2.St} {H : Hp} {Q : VK} {kx vx t0 i0 : Expr} {q0 : List Expr} {scope : Scope} {own : List (Str × Nat)} {pos pos' : Pos} {wi : TI} {g : TG} {tt : TT} {tk tv : TE} {use : Option (Value → Sem Unit)} {Qf : Value → Shared → Prop} (I : Inv X pk σ H s) (hu : X.A.units + 12 < cLine) (hc : X.calm = true) (hN : X.N.Nodup) (hi : PI X t0 i0 wi) (ok : BlkOk X.N X.env.scope scope own)
    (hg : ∀ (s : Shared) (H : Hp) (C : Addr) (cl : List (Str × Addr)) (fp : List Addr), PG (X.blk s H scope (compEnvC scope cl C X.env) fp) t0 g) (ht : ∀ (s : Shared) (H : Hp) (C : Addr) (cl : List (Str × Addr)) (fp : List Addr), PTs (X.blk s H scope (compEnvC scope cl C X.env) fp) q0 tt)
    (hk : ∀ (s : Shared) (H : Hp) (C : Addr) (cl : List (Str × Addr)) (fp : List Addr), PE (X.blk s H scope (compEnvC scope cl C X.env) fp) kx tk)
    (he : ∀ (s : Shared) (H : Hp) (C : Addr) (cl : List (Str × Addr)) (fp : List Addr), PE (X.blk s H scope (compEnvC scope cl C X.env) fp) vx tv) (hs : ∀ x, foldedSetIterable i0 X.env x = pure x) (h : tDd X.w wi g tt tk tv (own.map (·.2)) σ H Q)
    (hRR : ∀ D C s' m H', Inv X pk σ H' s' → Q (.ref D) H' → s'.heap.Ns C m → FpOk X pk H' C → compPost (model X.prog X.w) X.A X.xe use Qf (.ref D) C (.ok .next) s') :
    wpAny (model X.prog X.w) X.A (comprehension (.DictComp kx vx [⟨t0, i0, q0, 0⟩] scope pos) scope X.env pos' newDict false (eval i0 X.env) use) Qf X.xe s := by
  have cells : ∀ y ∈ scope.names, y.2 = .free → ∃ c, X.env.cells.lookup y.1 = some c := fun y hy e => by
    rcases ok.free y hy e with z | z
    · exact I.ok.has _ (.inl z)
    · exact I.ok.has _ (.inr z)
  refine wpAny_comprehension_free (use := use) rfl hs (closure_ok cells) ok.kind (fun y hy e => by rw [ok.uniq y hy, e]) (thn (hi.run pk s σ H _ I h) fun xv s1 hx => thn hx fun itv s2 h2 => ?_)
  obtain ⟨it, fp, tn, J, H2, e, I2, T, st2, f2, q⟩ := h2
  subst e
  refine wpAny_newObj_type (newEnv_comp ?_)
  generalize hD : s2.heap.objs.size = D
  have Dn : H2 D = none := I2.hok.fresh (Nat.le_of_eq hD)
  obtain ⟨W, ⟨m0, w0⟩, turn⟩ := q D Dn
  generalize hs3 : ({ s2 with heap := s2.heap.push { cls := .type "dict", data := .dict #[] } } : Shared) = s3
  have I3 : Inv X pk σ (upd H2 D (DicO X.w D [])) s3 := by
    rw [← hs3]
    refine I2.laid (t' := s2.toks) (fun b o e => Heap.get?_push_of_some _ e) (Nat.le_of_eq hD) ?_
    rw [← hD]
    exact dic_empty s2.heap I2.big
  have h3 : s3.heap = s2.heap.push { cls := .type "dict", data := .dict #[] } := by rw [← hs3]
  have f3 : ∀ b ∈ fp, FpOk X pk (upd H2 D (DicO X.w D [])) b ∧ b < s3.heap.objs.size := fun b hb => by
    obtain ⟨o, e, _⟩ := T.obj _ _ st2 b hb
    have lt := Heap.lt_size e
    refine ⟨⟨?_, (f2 b hb).2⟩, by rw [h3, Heap.size_push]; exact Nat.lt_succ_of_lt lt⟩
    rw [upd_ne (by rw [← hD]; exact Nat.ne_of_lt lt)]
    exact (f2 b hb).1
  have st3 : tn 0 s3.heap := T.keep _ _ _ st2 fun b _ o e => by rw [h3]; exact Heap.get?_push_of_some _ e
  have I4 := block_start I3 ok hN f3
  generalize hcl : cellsFrom (s3.heap.objs.size + 1) scope.names (cloFrom X.env.cells scope.names []) = cl at I4
  have pg := hg s3 (upd H2 D (DicO X.w D [])) s3.heap.objs.size cl fp
  have pt := ht s3 (upd H2 D (DicO X.w D [])) s3.heap.objs.size cl fp
  have pk' := hk s3 (upd H2 D (DicO X.w D [])) s3.heap.objs.size cl fp
  have pe := he s3 (upd H2 D (DicO X.w D [])) s3.heap.objs.size cl fp
  show codeAny _ _ (.compStart (.DictComp kx vx [⟨t0, i0, q0, 0⟩] scope pos) 0 (.ref it) (.ref D) (compEnvC scope cl s3.heap.objs.size X.env)) (compPost (model X.prog X.w) X.A X.xe use Qf (.ref D) s3.heap.objs.size) { s3 with heap := pushCells (s3.heap.push { cls := .type "dict", data := .dict #[] }) scope.names }
  have nfp : ∀ b ∈ fp, (upd H2 D (DicO X.w D [])) b = none := fun b hb => (f3 b hb).1.1
  generalize hce : compEnvC scope cl s3.heap.objs.size X.env = ce at I4 pg pt pk' pe ⊢
  have cL : ce.locals = s3.heap.objs.size := by subst hce; rfl
  generalize hH3 : upd H2 D (DicO X.w D []) = H3 at I3 I4 pg pt pk' pe w0 nfp f3
  generalize hs4 : ({ s3 with heap := pushCells (s3.heap.push { cls := .type "dict", data := .dict #[] }) scope.names } : Shared) = s4 at I4 ⊢
  have st4 : tn 0 s4.heap := T.keep _ _ _ st3 fun b _ o e => by rw [← hs4]; exact pushCells_keeps _ _ _ _ (Heap.get?_push_of_some _ e)
  have stat : ∀ {σ' : L2.St} {H' : Hp} {s' : Shared}, Inv (X.blk s3 H3 scope ce fp) [] σ' H' s' → (∀ b ∈ fp, H' b = none) → ∀ b ∈ fp, FpOk (X.blk s3 H3 scope ce fp) [] H' b := fun {σ' H' s'} I' hn b hb =>
    ⟨hn b hb, (I'.ok.exf b hb).1, I'.ok.exfs b hb, .inl hb, fun x c e => (I'.ok.exf b hb).2 x c e, fun p hp => absurd (show p ∈ ([] : List (Addr × Obj)) ++ [] from hp) (by simp)⟩
  have loop : codeAny (model X.prog X.w) X.A (.compLoop (.DictComp kx vx [⟨t0, i0, q0, 0⟩] scope pos) 0 (.ref it) (.ref D) ce) (compPost (model X.prog X.w) X.A X.xe use Qf (.ref D) s3.heap.objs.size) s4 := by
    refine compLoop_anyD (fun n s' => ∃ i H', Inv (X.blk s3 H3 scope ce fp) [] (wipe σ (own.map (·.2))) H' s' ∧ tn i s'.heap ∧ (∀ b ∈ fp, H' b = none) ∧ W i n H') ?_ m0 ⟨0, H3, I4, st4, nfp, w0⟩
    rintro n s5 ⟨i, H5, I5, st5, n5, w5⟩
    rcases turn i n H5 w5 with ⟨stop, qq⟩ | ⟨go, Nx, hNx, step⟩
    · refine thnF (T.done (X.blk s3 H3 scope ce fp) rfl rfl rfl hc i [] s5 _ H5 (fun _ _ => False) I5 (stat I5 n5) st5 stop) fun r s6 ⟨hr, I6⟩ => ?_
      subst hr
      have I7 : Inv X pk σ H5 s6 := I3.call' (ch := fp) I6.os I6.base I6.hok I6.bare fun b hb => ⟨(f3 b hb).1.2.2.2.1, (f3 b hb).1.2.1, (f3 b hb).1.2.2.2.2.1, (f3 b hb).1.2.2.2.2.2⟩
      have nC : H5 s3.heap.objs.size = none := by
        have z : H5 ce.locals = none := I6.free
        rw [cL] at z
        exact z
      obtain ⟨m, hn, _⟩ := I6.loc
      have hn : s6.heap.Ns ce.locals m := hn
      rw [cL] at hn
      exact hRR D s3.heap.objs.size s6 m H5 I7 qq hn (I3.fpOk (Nat.le_refl _) nC)
    · refine thnF (T.item (X.blk s3 H3 scope ce fp) rfl rfl rfl hc i [] s5 _ H5 (fun _ _ => False) I5 (stat I5 n5) st5 go) fun r s6 ⟨u, hr, h6⟩ => ?_
      subst hr
      refine thnF h6 fun _ s7 ⟨x, H7, I7, r7, y7, st7, n7⟩ => ?_
      have I7' := I7.pinned (stat I7 n7) (T.obj _ _ st7)
      refine thnF (pg.run _ s7 _ H7 x u _ I7' r7 (step x H7 y7)) fun _ s8 ⟨σ8, H8, I8, hw8, q8⟩ => ?_
      refine thnF (pt.run _ s8 σ8 H8 _ I8 q8) fun b s9 ⟨H9, I9, q9⟩ => ?_
      have fin : ∀ {s' : Shared} {H' : Hp}, Inv (X.blk s3 H3 scope ce fp) ([] ++ pinsAt fp s7.heap) σ8 H' s' → Nx H' →
          ∃ m, m < n ∧ ∃ i H', Inv (X.blk s3 H3 scope ce fp) [] (wipe σ (own.map (·.2))) H' s' ∧ tn i s'.heap ∧ (∀ b ∈ fp, H' b = none) ∧ W i m H' := fun {s' H'} I' nx => by
        obtain ⟨m', hm, w'⟩ := hNx H' nx
        have pin' : ∀ b ∈ fp, ∀ o, s7.heap.get? b = some o → s'.heap.get? b = some o ∧ H' b = none := fun b hb o eo =>
          let z := I'.pin (b, o) (List.mem_append_right _ (List.mem_append_right _ (mem_pinsAt hb eo)))
          ⟨z.1, z.2.1⟩
        refine ⟨m', hm, i + 1, H', (I'.unpinned (pins := [])).weak ?_ fun j v ev => ?_, T.keep _ _ _ st7 fun b hb o eo => (pin' b hb o eo).1, fun b hb => ?_, w'⟩
        · rw [← hw8, wipe_length]
        · rw [← hw8] at ev
          exact (wipe_some ev).1
        · obtain ⟨o, eo, _⟩ := T.obj _ _ st7 b hb
          exact (pin' b hb o eo).2
      cases b with
      | false =>
        simp only [Bool.false_eq_true, if_false] at q9 ⊢
        exact fin I9 q9
      | true =>
        simp only [if_true] at q9 ⊢
        refine thnF (pk'.run _ s9 σ8 H9 _ I9 q9) fun z s10 ⟨yk, H10, I10, r10, q10⟩ => ?_
        refine thnF (pe.run _ s10 σ8 H10 _ I10 q10) fun z2 s11 ⟨yv, H11, I11, r11, pd⟩ => ?_
        exact d_dictSetD (X := X.blk s3 H3 scope ce fp) hu I11 pd r10 r11 fun H' s12 I12 nx => fin I12 nx
  exact codeAny_compStart_dict loop (T.self X.A 0 _ _ _ st4 loop)
theorem pe_dd {kx vx t0 i0 : Expr} {q0 : List Expr} {scope : Scope} {own : List (Str × Nat)} {pos : Pos} {wi : TI} {g : TG} {tt : TT} {tk tv : TE} (hu : X.A.units + 12 < cLine) (hc : X.calm = true) (hN : X.N.Nodup) (hi : PI X t0 i0 wi) (ok : BlkOk X.N X.env.scope scope own)
    (hg : ∀ (s : Shared) (H : Hp) (C : Addr) (cl : List (Str × Addr)) (fp : List Addr), PG (X.blk s H scope (compEnvC scope cl C X.env) fp) t0 g) (ht : ∀ (s : Shared) (H : Hp) (C : Addr) (cl : List (Str × Addr)) (fp : List Addr), PTs (X.blk s H scope (compEnvC scope cl C X.env) fp) q0 tt)
    (hk : ∀ (s : Shared) (H : Hp) (C : Addr) (cl : List (Str × Addr)) (fp : List Addr), PE (X.blk s H scope (compEnvC scope cl C X.env) fp) kx tk)
    (he : ∀ (s : Shared) (H : Hp) (C : Addr) (cl : List (Str × Addr)) (fp : List Addr), PE (X.blk s H scope (compEnvC scope cl C X.env) fp) vx tv) (hs : ∀ x, foldedSetIterable i0 X.env x = pure x := by intro _; rfl) :
    PE X (.DictComp kx vx [⟨t0, i0, q0, 0⟩] scope pos) (tDd X.w wi g tt tk tv (own.map (·.2))) := by
  refine ⟨fun pk s σ H Q I h => ?_⟩
  rw [arm_eval_DictComp]
  refine dd_core I hu hc hN hi ok hg ht hk he hs h fun D C s' m H' I' q hn f => ⟨m, hn, fun h'' sb => ?_⟩
  obtain ⟨f0, f1, f2, f3, f4, f5⟩ := f
  exact ⟨.ref D, H', I'.turned (t' := s'.toks) (fun b o hb e => (sb.2 b hb).trans e) f0 f1 f3 f4 f5, rfl, q⟩
/-- given to a name on its line -/
theorem ps_setDd {i : Nat} {y : Str} {w : Pos} {kx vx tg src : Expr} {tests : List Expr} {scp : Scope} {own : List (Str × Nat)} {at1 at2 : Pos} {wi : TI} {g : TG} {tt : TT} {tk tv : TE} (hu : X.A.units + 12 < cLine) (calm : X.calm = true) (nd : X.N.Nodup) (hy : X.N[i]? = some y) (loc : X.env.scope.names.lookup y = some .local)
    (sw : swapsWith (.DictComp kx vx [⟨tg, src, tests, 0⟩] scp at1) (some (.Name y w)) at2.line X.env = pure true) (hi : PI X tg src wi) (ok : BlkOk X.N X.env.scope scp own)
    (hg : ∀ (s : Shared) (H : Hp) (C : Addr) (cl : List (Str × Addr)) (fp : List Addr), PG (X.blk s H scp (compEnvC scp cl C X.env) fp) tg g)
    (ht : ∀ (s : Shared) (H : Hp) (C : Addr) (cl : List (Str × Addr)) (fp : List Addr), PTs (X.blk s H scp (compEnvC scp cl C X.env) fp) tests tt)
    (hk : ∀ (s : Shared) (H : Hp) (C : Addr) (cl : List (Str × Addr)) (fp : List Addr), PE (X.blk s H scp (compEnvC scp cl C X.env) fp) kx tk)
    (hv : ∀ (s : Shared) (H : Hp) (C : Addr) (cl : List (Str × Addr)) (fp : List Addr), PE (X.blk s H scp (compEnvC scp cl C X.env) fp) vx tv) (fold : ∀ x, foldedSetIterable src X.env x = pure x := by intro _; rfl) :
    PS X (.Assign [.Name y w] (.DictComp kx vx [⟨tg, src, tests, 0⟩] scp at1) at2) (tAsg (tDd X.w wi g tt tk tv (own.map (·.2))) (gName i)) := by
  constructor
  intro pins s σ H D I h
  rw [exec_Assign_Name_used _ _ _ _ sw]
  apply wpAny_bind; apply wpAny_standAt; apply wpAny_bind
  show wpAny _ X.A (do let _ ← comprehension (.DictComp kx vx [⟨tg, src, tests, 0⟩] scp at1) scp X.env (firstIterPos [⟨tg, src, tests, 0⟩] at1) newDict false (eval src X.env) (some (assign (.Name y w) X.env))) _ _ s
  have h : tDd X.w wi g tt tk tv (own.map (·.2)) σ H (fun x H1 => gName i x σ H1 D.nx) := h
  apply wpAny_bind
  refine thn (dd_core (Qf := fun _ s' => SP X pins D .next s') I hu calm nd hi ok hg ht hk hv fold h fun Dd C s' m H' J q ns fr => ?_) fun _ s' hq => wpAny_pure (wpAny_pure hq)
  show wpAny _ _ (assign (.Name y w) X.env (.ref Dd)) _ _ _
  apply wpAny_assign_Name
  refine store_ok2 (v := V.ref Dd) J nd hy (.inl loc) rfl (fun s2 J2 ⟨a, sb, ha⟩ => ?_) (.inr loc)
  obtain ⟨f0, f1, f2, f3, f4, f5⟩ := fr
  have ne : C ≠ a := ha.elim (fun z => z ▸ f1) fun z e => f4 y a z e.symm
  exact ⟨m, ns.sameBut sb ne, fun h3 sb3 => ⟨_, H', J2.turned (t' := s2.toks) (fun b o hb e => (sb3.2 b hb).trans e) f0 f1 f3 f4 f5, q⟩⟩
/-- each turn puts one key that stood at the beginning -/
theorem ddG {w : World} {J : It} {n : Nat} {G : Hp → Prop} {Y : Nat → Hp → V → Hp → Prop} (wk : Walk J n G Y) {g : TG} {tt : TT} {tk tv : TE} {vs : List Nat} {σ : L2.St} {H1 : Hp} {Q : VK} (hn : n ≤ 30000) (hG0 : G H1) (hGm : ∀ H H', Ex H H' → G H → G H') (hY : ∀ i H x H', Y i H x H' → Ex H H')
    (Pa : Nat → List DE → Prop) (p0 : Pa 0 [])
    (hs : ∀ i x H H' L, i < n → Ex H1 H → Y i H x H' → Pa i L → ∀ (N : V → V → Hp → Prop) (N0 : Hp → Prop), (∀ b k z H4, Ex H' H4 → Da H1 (.ref b) k → isT k → Pa (i + 1) (putL L b k z) → N (.ref b) z H4) → (∀ H3, Ex H' H3 → Pa (i + 1) L → N0 H3) →
      g x (wipe σ vs) H' fun σ2 H2 => wipe σ2 vs = wipe σ vs ∧ tt σ2 H2 fun b H3 => if b = true then tk σ2 H3 fun y H4 => tv σ2 H4 fun z H5 => N y z H5 else N0 H3)
    (k : ∀ D H2 L, H1 D = none → Ex H1 H2 → H2 D = some (DicO w D L) → KeysAt H1 L → L.length ≤ n → Pa n L → Q (.ref D) H2) : DdRest w g tt tk tv vs σ Q J H1 := by
  intro D hD
  refine ⟨fun i m H => m = n - i ∧ i ≤ n ∧ ∃ L, Ex H1 H ∧ H D = some (DicO w D L) ∧ KeysAt H1 L ∧ L.length ≤ i ∧ Pa i L, ⟨n, by omega, Nat.zero_le _, [], Ex.new hD, upd_same, fun l hl => (by cases hl), Nat.zero_le _, p0⟩, ?_⟩
  rintro i m H ⟨rfl, hi, L, e, hd, hk, hl, hp⟩
  have hG := hGm _ _ e hG0
  by_cases hlt : i < n
  · refine .inr ⟨wk.goes i H hlt hG, fun H' => i + 1 ≤ n ∧ ∃ L, Ex H1 H' ∧ H' D = some (DicO w D L) ∧ KeysAt H1 L ∧ L.length ≤ i + 1 ∧ Pa (i + 1) L, fun H' p' => ⟨n - (i + 1), by omega, rfl, p'.1, p'.2⟩, fun x H' y => ?_⟩
    have y' := wk.yields i H x H' hlt hG y
    have e' := hY _ _ _ _ y'
    refine hs i x H H' L hlt e y' hp (fun y z H5 => PutD w D y z H5 _) _ (fun b k z H4 e4 hb ht p4 => ?_) (fun H3 e3 p3 => ⟨hlt, L, (e.trans e').trans e3, e3 _ _ (e' _ _ hd), hk, by omega, p3⟩)
    have E4 := (e.trans e').trans e4
    exact ⟨b, k, L, rfl, e4 _ _ (e' _ _ hd), hk.ex E4, Da.ex E4 _ hb, ht, by omega, hlt, _, Ex.mut E4 hD, upd_same, putL_keys hk hb ht, Nat.le_trans (putL_len _ _ _ _) (by omega), p4⟩
  · have e2 : i = n := by omega
    subst e2
    exact .inl ⟨wk.stops H hG, k D H L hD e hd hk hl hp⟩
theorem op_inDicr {k : Nat} (hr : Room k X.A) : OpR X (compareOp .In) (rInDic X.w) := op_inDic (by have := hr.un; omega)
theorem op_inDicrB {k : Nat} {s : Shared} {H : Hp} {sc : Scope} {ce : Env} {fp : List Addr} (hr : Room k X.A) : OpR (X.blk s H sc ce fp) (compareOp .In) (rInDic X.w) := op_inDic (X := X.blk s H sc ce fp) (by have := hr.un; show X.A.units + 12 < cLine; omega)
theorem mt_setdDr {k : Nat} (hr : Room k X.A) : MtR X "dict.setdefault" (rSetdD X.w) := mt_setdD (by have := hr.un; omega)
theorem hu12 {k : Nat} {A : Around} (hr : Room k A) : A.units + 12 < cLine := by have := hr.un; omega
end
end Own

namespace Own
open PySem PySem.Spec PyProof.Rows L2 Evl
/-! ### dicts whose keys are two texts and a bool -/
abbrev LkD := Str × Str × Bool
/-- the key as data: True is 1 -/
def lkD (l : LkD) : PyData := .tuple [.str l.1, .str l.2.1, .int (if l.2.2 = true then 1 else 0)]
def lkO (l : LkD) : HO := .tup [.str l.1, .str l.2.1, .bl l.2.2]
theorem lk_inj {l l' : LkD} (e : nk (lkD l) = nk (lkD l')) : l = l' := by
  obtain ⟨a, b, c⟩ := l
  obtain ⟨a', b', c'⟩ := l'
  have e : NestedKey.tup [.text a, .text b, .num (if c = true then 1 else 0)] = .tup [.text a', .text b', .num (if c' = true then 1 else 0)] := e
  injection e with e
  injection e with e1 e
  injection e with e2 e
  injection e with e3 _
  injection e1 with e1
  injection e2 with e2
  injection e3 with e3
  subst e1 e2
  cases c <;> cases c' <;> first | rfl | cases e3
abbrev LE := Addr × LkD × V
def deL (L : List LE) : List DE := L.map fun e => (e.1, lkD e.2.1, e.2.2)
def KeysB (H : Hp) (L : List LE) : Prop := ∀ e ∈ L, H e.1 = some (lkO e.2.1)
theorem KeysB.tex {H H' : Hp} {L : List LE} (t : ∀ a xs, H a = some (.tup xs) → H' a = some (.tup xs)) (h : KeysB H L) : KeysB H' L := fun e he => t _ _ (h e he)
def atB (L : List LE) (k : LkD) : Option V := (L.find? fun e => decide (e.2.1 = k)).map (·.2.2)
theorem atB_at {L : List LE} {k : LkD} : atL (deL L) (lkD k) = atB L k := by
  unfold atL atB deL
  rw [List.find?_map, Option.map_map]
  congr 1
  congr 1
  funext e
  show decide (nk (lkD e.2.1) = nk (lkD k)) = decide (e.2.1 = k)
  by_cases h : e.2.1 = k
  · rw [h, decide_eq_true rfl, decide_eq_true rfl]
  · rw [decide_eq_false h, decide_eq_false fun q => h (lk_inj q)]
section
variable {X : Cx} {pins : List (Addr × Obj)} {σ : L2.St} {H : Hp} {s : Shared} {d : Addr} {L : List LE}
theorem key_lk {l : LkD} {b : Addr} (I : Inv X pins σ H s) (hb : H b = some (lkO l)) : (nestedKind X.prog X.w).is s.heap (nk (lkD l)) b := by
  obtain ⟨its, r, pl, hz⟩ := I.tuple (st_of hb)
  obtain ⟨⟨oc, od, oda, osl⟩, ho, hc, n, hd⟩ := pl
  simp only at hc hd
  cases r with
  | cons r1 r => cases r with
    | cons r2 r => cases r with
      | cons r3 r =>
        cases r
        obtain ⟨t1, rfl⟩ := r1
        obtain ⟨t2, rfl⟩ := r2
        cases r3
        refine ⟨.tup ho hc hd (.cons (.text _ _) (.cons (.text _ _) (.cons (.bool rfl) .nil))), ?_⟩
        show max 0 (max 0 (max 0 0)) + 1 ≤ 8
        omega
theorem dic_ofB (I : Inv X pins σ H s) (hd : H d = some (DicO X.w d (deL L))) (hk : KeysB H L) : (deL L).length ≤ sizeLine ∧ (d == sysModules) = false ∧ ∃ xs, Paired RelE (deL L) xs ∧ s.heap.DictOfH (nestedKind X.prog X.w) d xs := by
  obtain ⟨⟨z, y, xs, r, o, es, ep, h1, h2, h3, h4, h5⟩, _⟩ := (show ObjOk X.prog X.w H s.heap d (DicO X.w d (deL L)) from I.hok d _ hd)
  refine ⟨z, y, xs, r, o, es, ep, h1, h2, h3, h4, ?_, h5⟩
  have all : ∀ {M : List DE} {xs : List XE}, (∀ l ∈ M, ∃ e ∈ L, l = (e.1, lkD e.2.1, e.2.2)) → Paired RelE M xs → ∀ x ∈ xs, (nestedKind X.prog X.w).is s.heap x.1 x.2.1 := by
    intro M xs hM r
    induction r with
    | nil => intro x hx; cases hx
    | @cons l x M xs h t ih =>
      intro y hy
      rcases List.mem_cons.mp hy with e | hy
      · subst e
        obtain ⟨q, hq, rfl⟩ := hM l List.mem_cons_self
        rw [h.1, h.2.1]
        exact key_lk I (hk q hq)
      · exact ih (fun l hl => hM l (List.mem_cons_of_mem _ hl)) y hy
  refine all (fun l hl => ?_) r
  obtain ⟨e, he, rfl⟩ := List.mem_map.mp hl
  exact ⟨e, he, rfl⟩
end
section
variable {X : Cx}
/-- d.setdefault(k, z) -/
def rSetdB (w : World) : V → List V → Hp → VK → Prop := fun x vs H Q => ∃ (d b : Addr) (k : LkD) (L : List LE) (z : V), x = .ref d ∧ vs = [.ref b, z] ∧ H d = some (DicO w d (deL L)) ∧ KeysB H L ∧ H b = some (lkO k) ∧ L.length < 40000 ∧
  (∀ v, atB L k = some v → Q v H) ∧ (atB L k = none → Q z (upd H d (DicO w d (deL (L ++ [(b, k, z)])))))
theorem mt_setdB (hu : X.A.units + 12 < cLine) : MtR X "dict.setdefault" (rSetdB X.w) := by
  intro pins s σ H x vs v us Q I rx rv h
  obtain ⟨d, b, k, L, z, rfl, rfl, hd, hk, hb, hl, q1, q2⟩ := h
  cases rx
  obtain ⟨ub, uz, rfl, rb, rz⟩ : ∃ ub uz, us = [ub, uz] ∧ RelV (.ref b) ub ∧ RelV z uz := by
    cases rv with
    | cons r1 r2 =>
      cases r2 with
      | cons r3 r4 =>
        cases r4
        exact ⟨_, _, rfl, r1, r3⟩
  cases rb
  have ll : (deL L).length = L.length := List.length_map _
  obtain ⟨_, y, xs, r, D⟩ := dic_ofB I hd hk
  have rl := dicr_len r
  refine call_setdefault_heap (knd := nestedKind X.prog X.w) (hsz := by rw [← rl, sizeLine_eq]; omega) (by show X.A.in1.units + 8 < cLine; exact Nat.lt_of_le_of_lt (by show X.A.units + 1 + 8 ≤ X.A.units + 12; omega) hu) (key_lk I hb) y D (fun p hp => ?_) fun hn h' D' hs => ?_
  · have := dicr_at (k := lkD k) r
    rw [hp] at this
    cases h1 : atL (deL L) (lkD k) with
    | none => rw [h1] at this; exact this.elim
    | some v =>
      rw [h1] at this
      exact ⟨v, H, I.tok _, this, q1 v (atB_at ▸ h1)⟩
  · have h1 : atL (deL L) (lkD k) = none := by
      have := dicr_at (k := lkD k) r
      rw [hn] at this
      cases h1 : atL (deL L) (lkD k) with
      | none => rfl
      | some v => rw [h1] at this; exact this.elim
    rw [storedH_new hn] at D'
    have he : ∃ q, h'.get? d = some q := let ⟨q, _, _, hq, _⟩ := D'; ⟨q, hq⟩
    have r' : Paired RelE (deL (L ++ [(b, k, z)])) (xs ++ [(nk (lkD k), b, uz)]) := by
      have : deL (L ++ [(b, k, z)]) = deL L ++ [(b, lkD k, z)] := by unfold deL; rw [List.map_append]; rfl
      rw [this]
      exact r.snoc ⟨rfl, rfl, rz⟩
    exact ⟨z, _, d_write I (by rw [hd]; exact True.intro) hs he (dicO_new (by unfold deL; rw [List.length_map, List.length_append, sizeLine_eq]; show L.length + 1 ≤ _; omega) y r' (DicM.of D')), rz, q2 (atB_at ▸ h1)⟩
end
theorem paired_at {α β : Type} {F : α → β → Prop} : ∀ {xs : List α} {ys : List β} {i : Nat} {x : α}, Paired F xs ys → xs[i]? = some x → ∃ y, ys[i]? = some y ∧ F x y
  | _, _, _, _, .nil, h => by cases h
  | _, _, 0, _, .cons h t, e => by cases e; exact ⟨_, rfl, h⟩
  | _, _, i + 1, _, .cons h t, e => paired_at (i := i) t e
section
variable {X : Cx}
theorem mt_setdBr {k : Nat} (hr : Room k X.A) : MtR X "dict.setdefault" (rSetdB X.w) := mt_setdB (by have := hr.un; omega)
end
/-! ### such a dict as it stands: it may be walked -/
def DicF (w : World) (d : Addr) (L : List DE) (o : Obj) : HO := .ext fun h => (L.length ≤ sizeLine ∧ (d == sysModules) = false ∧ ∃ xs es ep, Paired RelE L xs ∧ o.ExactDict ∧ o.data = .dict es ep ∧ es.toList = xs.map (entX w) ∧ (xs.map fun x => x.1).Nodup) ∧ h.get? d = some o
theorem dicF_of {P : Program} {w : World} {H : Hp} {h : Heap} {d : Addr} {L : List DE} (q : ObjOk P w H h d (DicO w d L)) : ∃ o, ∀ H', ObjOk P w H' h d (DicF w d L o) := by
  obtain ⟨⟨z, y, xs, r, o, es, ep, h1, h2, h3, h4, h5⟩, _⟩ := q
  exact ⟨o, fun H' => ⟨⟨⟨z, y, xs, es, ep, r, h2, h3, h4, h5⟩, h1⟩, ⟨o, h1⟩, fun h1 h2 ⟨a, b⟩ k => ⟨a, k _ b⟩⟩⟩
def ItF (w : World) (d : Addr) (L : List DE) (o : Obj) : It :=
  ⟨fun i H => H d = some (DicF w d L o) ∧ i < L.length, fun i H v H' => H' = H ∧ ∃ e, L[i]? = some e ∧ v = .ref e.1, fun i H => H d = some (DicF w d L o) ∧ i = L.length⟩
theorem turn_dicF {P : Program} {w : World} {K : PySem.W.Frag} {tg : Expr} {L : List DE} {o : Obj} {es : Array DictEntry} {ep : Nat} (hdt : o.data = .dict es ep) (d it : Addr) (ne : d ≠ it) :
    Turn P w K tg (ItF w d L o) [it] it (fun i h => h.IsKeyIter it d i es.size ep) where
  mem := by simp
  obj := fun i h st b hb => by
    have e : b = it := by simpa using hb
    subst e
    obtain ⟨o, e, c, d⟩ := st
    exact ⟨o, e, fun v z => by rw [d] at z; cases z⟩
  keep := fun i h h' st k => by
    obtain ⟨o, e, r⟩ := st
    exact ⟨o, k it (by simp) o e, r⟩
  item := by
    intro X hP hw hK hc i pins s σ H E I hf st hg
    subst hP hw hK
    obtain ⟨hd, hi⟩ := hg
    obtain ⟨⟨⟨z, y, xs, es', ep', r, hx, hdt', hes, _⟩, ho⟩, _⟩ := (show ObjOk X.prog X.w H s.heap d (DicF X.w d L o) from I.hok d _ hd)
    rw [hdt] at hdt'
    cases hdt'
    have rl := dicr_len r
    have hsz : es.size = xs.length := by rw [← Array.length_toList, hes, List.length_map]
    have hlt : i < es.size := by omega
    obtain ⟨f0, f1, f2, f3, f4, f5⟩ := hf it (by simp)
    refine wpAny_pyNext_keys_item_raw st ⟨o, ho, hx, hdt⟩ hlt fun h' st' sb => ?_
    have I1 : Inv X pins σ H { s with heap := h' } := I.turned (t' := s.toks) (fun b o hb e => (sb.2 b hb).trans e) f0 f1 f3 f4 f5
    obtain ⟨oi, e, c, dd⟩ := id st'
    obtain ⟨x, hxi, hrel⟩ := paired_at r (List.getElem?_eq_getElem hi)
    have hk : es[i].key = .ref L[i].1 := by
      have h1 : es.toList[i]? = some (entX X.w x) := by rw [hes, List.getElem?_map, hxi]; rfl
      have h2 : es[i] = entX X.w x := by
        rw [Array.getElem?_toList, Array.getElem?_eq_getElem hlt] at h1
        exact Option.some.inj h1
      rw [h2]
      show Value.ref x.2.1 = _
      rw [hrel.2.1]
    exact ⟨_, rfl, go_of (s := { s with heap := h' }) e c dd (by decide) ⟨.ref L[i].1, H, I1, by rw [hk]; rfl, ⟨rfl, L[i], List.getElem?_eq_getElem hi, rfl⟩, st', fun b hb => (hf b hb).1⟩⟩
  done := by
    intro X hP hw hK hc i pins s σ H E I hf st hg
    subst hP hw hK
    obtain ⟨hd, hi⟩ := hg
    obtain ⟨⟨⟨z, y, xs, es', ep', r, hx, hdt', hes, _⟩, ho⟩, _⟩ := (show ObjOk X.prog X.w H s.heap d (DicF X.w d L o) from I.hok d _ hd)
    rw [hdt] at hdt'
    cases hdt'
    have rl := dicr_len r
    have hsz : es.size = xs.length := by rw [← Array.length_toList, hes, List.length_map]
    obtain ⟨f0, f1, f2, f3, f4, f5⟩ := hf it (by simp)
    exact wpAny_pyNext_keys_end_raw (I.ok.hd hc) st ⟨o, ho, hx, hdt⟩ (by omega) fun h' eb => ⟨rfl, I.turned (t' := s.toks) (fun b o hb e => eb b o hb e) f0 f1 f3 f4 f5⟩
  self := fun _ _ _ _ _ st h => wpAny_pyIter_keyiter st h
def iDicF (w : World) (te : TE) : TI := fun σ H R => te σ H fun x H1 => ∃ d L o, x = .ref d ∧ H1 d = some (DicF w d L o) ∧ R (ItF w d L o) H1
theorem pi_dicF {X : Cx} {tg l : Expr} {tl : TE} (hl : PE X l tl) : PI X tg l (iDicF X.w tl) := by
  refine ⟨fun pins s σ H R I h => ?_⟩
  refine thn (hl.run pins s σ H _ I h) fun v s1 ⟨x, H1, I1, r1, q1⟩ => ?_
  obtain ⟨d, L, o, e, hd, q⟩ := q1
  subst e
  cases r1
  obtain ⟨⟨⟨z, y, xs, es, ep, r, hx, hdt, hes, _⟩, ho⟩, _⟩ := (show ObjOk X.prog X.w H1 s1.heap d (DicF X.w d L o) from I1.hok d _ hd)
  refine wpAny_pyIter_dict_raw y ⟨o, ho, hx, hdt⟩ ?_
  have ne : d ≠ s1.heap.objs.size := Nat.ne_of_lt (Heap.lt_size ho)
  refine ⟨s1.heap.objs.size, [s1.heap.objs.size], _, _, H1, rfl, I1.kept (t' := s1.toks) fun b o e => Heap.get?_push_of_some _ e, turn_dicF hdt d _ ne, ⟨_, Heap.get?_push_size _ rfl, rfl, rfl⟩, fun b hb => ?_, q⟩
  have e : b = s1.heap.objs.size := by simpa using hb
  subst e
  exact I1.fpOk (Nat.le_refl _) (I1.hok.fresh (Nat.le_refl _))
theorem walk_dicF {w : World} {d : Addr} {L : List DE} {o : Obj} : Walk (ItF w d L o) L.length (fun H => H d = some (DicF w d L o)) (YAt (L.map fun e => V.ref e.1)) := by
  refine ⟨fun i H hi h => ⟨h, hi⟩, fun H h => ⟨h, rfl⟩, fun i H x H' hi h y => ?_⟩
  obtain ⟨rfl, e, he, rfl⟩ := y
  exact ⟨rfl, by rw [List.getElem?_map, he]; rfl⟩
end Own

namespace Own
open PySem PySem.Spec PyProof.Rows L2 Evl
/-! ### dicts whose keys are a text and a bool -/
abbrev SkD := Str × Bool
/-- the key as data: True is 1 -/
def skD (l : SkD) : PyData := .tuple [.str l.1, .int (if l.2 = true then 1 else 0)]
def skO (l : SkD) : HO := .tup [.str l.1, .bl l.2]
theorem sk_inj {l l' : SkD} (e : nk (skD l) = nk (skD l')) : l = l' := by
  obtain ⟨a, c⟩ := l
  obtain ⟨a', c'⟩ := l'
  have e : NestedKey.tup [.text a, .num (if c = true then 1 else 0)] = .tup [.text a', .num (if c' = true then 1 else 0)] := e
  injection e with e
  injection e with e1 e
  injection e with e3 _
  injection e1 with e1
  injection e3 with e3
  subst e1
  cases c <;> cases c' <;> first | rfl | cases e3
abbrev SE := Addr × SkD × V
def deS (L : List SE) : List DE := L.map fun e => (e.1, skD e.2.1, e.2.2)
def KeysS (H : Hp) (L : List SE) : Prop := ∀ e ∈ L, H e.1 = some (skO e.2.1)
theorem KeysS.tex {H H' : Hp} {L : List SE} (t : ∀ a xs, H a = some (.tup xs) → H' a = some (.tup xs)) (h : KeysS H L) : KeysS H' L := fun e he => t _ _ (h e he)
def atS (L : List SE) (k : SkD) : Option V := (L.find? fun e => decide (e.2.1 = k)).map (·.2.2)
theorem atS_at {L : List SE} {k : SkD} : atL (deS L) (skD k) = atS L k := by
  unfold atL atS deS
  rw [List.find?_map, Option.map_map]
  congr 1
  congr 1
  funext e
  show decide (nk (skD e.2.1) = nk (skD k)) = decide (e.2.1 = k)
  by_cases h : e.2.1 = k
  · rw [h, decide_eq_true rfl, decide_eq_true rfl]
  · rw [decide_eq_false h, decide_eq_false fun q => h (sk_inj q)]
section
variable {X : Cx} {pins : List (Addr × Obj)} {σ : L2.St} {H : Hp} {s : Shared} {d : Addr} {L : List SE}
theorem key_sk {l : SkD} {b : Addr} (I : Inv X pins σ H s) (hb : H b = some (skO l)) : (nestedKind X.prog X.w).is s.heap (nk (skD l)) b := by
  obtain ⟨its, r, pl, hz⟩ := I.tuple (st_of hb)
  obtain ⟨⟨oc, od, oda, osl⟩, ho, hc, n, hd⟩ := pl
  simp only at hc hd
  cases r with
  | cons r1 r => cases r with
    | cons r3 r =>
      cases r
      obtain ⟨t1, rfl⟩ := r1
      cases r3
      refine ⟨.tup ho hc hd (.cons (.text _ _) (.cons (.bool rfl) .nil)), ?_⟩
      show max 0 (max 0 0) + 1 ≤ 8
      omega
theorem dic_ofS (I : Inv X pins σ H s) (hd : H d = some (DicO X.w d (deS L))) (hk : KeysS H L) : (deS L).length ≤ sizeLine ∧ (d == sysModules) = false ∧ ∃ xs, Paired RelE (deS L) xs ∧ s.heap.DictOfH (nestedKind X.prog X.w) d xs := by
  obtain ⟨⟨z, y, xs, r, o, es, ep, h1, h2, h3, h4, h5⟩, _⟩ := (show ObjOk X.prog X.w H s.heap d (DicO X.w d (deS L)) from I.hok d _ hd)
  refine ⟨z, y, xs, r, o, es, ep, h1, h2, h3, h4, ?_, h5⟩
  have all : ∀ {M : List DE} {xs : List XE}, (∀ l ∈ M, ∃ e ∈ L, l = (e.1, skD e.2.1, e.2.2)) → Paired RelE M xs → ∀ x ∈ xs, (nestedKind X.prog X.w).is s.heap x.1 x.2.1 := by
    intro M xs hM r
    induction r with
    | nil => intro x hx; cases hx
    | @cons l x M xs h t ih =>
      intro y hy
      rcases List.mem_cons.mp hy with e | hy
      · subst e
        obtain ⟨q, hq, rfl⟩ := hM l List.mem_cons_self
        rw [h.1, h.2.1]
        exact key_sk I (hk q hq)
      · exact ih (fun l hl => hM l (List.mem_cons_of_mem _ hl)) y hy
  refine all (fun l hl => ?_) r
  obtain ⟨e, he, rfl⟩ := List.mem_map.mp hl
  exact ⟨e, he, rfl⟩
end
section
variable {X : Cx}
theorem relS_at {L : List SE} {xs : List XE} {k : SkD} (r : Paired RelE (deS L) xs) : (atKey xs (nk (skD k))).isSome = (atS L k).isSome := by
  have := dicr_at (k := skD k) r
  rw [atS_at] at this
  cases h1 : atS L k with
  | none =>
    rw [h1] at this
    cases h2 : atKey xs (nk (skD k)) with
    | none => rfl
    | some p => rw [h2] at this; exact this.elim
  | some v =>
    rw [h1] at this
    cases h2 : atKey xs (nk (skD k)) with
    | none => rw [h2] at this; exact this.elim
    | some p => rfl
/-- t in d -/
def rInS2 (w : World) : R2 := fun x y H Q => ∃ (b d : Addr) (k : SkD) (L : List SE), x = .ref b ∧ y = .ref d ∧ H d = some (DicO w d (deS L)) ∧ KeysS H L ∧ H b = some (skO k) ∧ Q (.bl (atS L k).isSome) H
theorem op_inS2 (hu : X.A.units + 12 < cLine) : OpR X (compareOp .In) (rInS2 X.w) := by
  intro pins s σ H x y v u Q I rx ry h
  obtain ⟨b, d, k, L, rfl, rfl, hd, hk, hb, q⟩ := h
  cases rx
  cases ry
  obtain ⟨_, y, xs, r, D⟩ := dic_ofS I hd hk
  refine wpAny_in_heap (knd := nestedKind X.prog X.w) (by show X.A.in1.units + 8 < cLine; exact Nat.lt_of_le_of_lt (by show X.A.units + 1 + 8 ≤ X.A.units + 12; omega) hu) (key_sk I hb) y D ?_
  rw [relS_at r]
  exact ⟨.bl _, H, I.tok _, rfl, q⟩
/-- t not in d -/
def rNotInS2 (w : World) : R2 := fun x y H Q => ∃ (b d : Addr) (k : SkD) (L : List SE), x = .ref b ∧ y = .ref d ∧ H d = some (DicO w d (deS L)) ∧ KeysS H L ∧ H b = some (skO k) ∧ Q (.bl (!(atS L k).isSome)) H
theorem op_notInS2 (hu : X.A.units + 12 < cLine) : OpR X (compareOp .NotIn) (rNotInS2 X.w) := by
  intro pins s σ H x y v u Q I rx ry h
  obtain ⟨b, d, k, L, rfl, rfl, hd, hk, hb, q⟩ := h
  cases rx
  cases ry
  obtain ⟨_, y, xs, r, D⟩ := dic_ofS I hd hk
  refine wpAny_notIn_heap (knd := nestedKind X.prog X.w) (by show X.A.in1.units + 8 < cLine; exact Nat.lt_of_le_of_lt (by show X.A.units + 1 + 8 ≤ X.A.units + 12; omega) hu) (key_sk I hb) y D ?_
  rw [relS_at r]
  exact ⟨.bl _, H, I.tok _, rfl, q⟩
/-- d[t], t a key that is there -/
def rIxS2 (w : World) : R2 := fun x y H Q => ∃ (b d : Addr) (k : SkD) (L : List SE) (z : V), x = .ref d ∧ y = .ref b ∧ H d = some (DicO w d (deS L)) ∧ KeysS H L ∧ H b = some (skO k) ∧ atS L k = some z ∧ Q z H
theorem ix_dicS (hu : X.A.units + 12 < cLine) : IxR X (rIxS2 X.w) := by
  intro value slice pins s σ H x y v u Q I rx ry h hs
  obtain ⟨b, d, k, L, z, rfl, rfl, hd, hk, hb, hz, q⟩ := h
  obtain rfl : v = Value.ref d := rx
  obtain rfl : u = Value.ref b := ry
  obtain ⟨_, y, xs, r, D⟩ := dic_ofS I hd hk
  have hr := dicr_at (k := skD k) r
  rw [atS_at, hz] at hr
  cases h2 : atKey xs (nk (skD k)) with
  | none => rw [h2] at hr; exact hr.elim
  | some p =>
    rw [h2] at hr
    exact tail_any D.typeIs slot_dict_getitem.lookup (wpAny_getItem_heap (knd := nestedKind X.prog X.w) (by show X.A.in1.units + 8 < cLine; exact Nat.lt_of_le_of_lt (by show X.A.units + 1 + 8 ≤ X.A.units + 12; omega) hu) (key_sk I hb) D h2 ⟨z, H, I.tok _, hr, q⟩) hs
/-- links[a, b, c] -/
def rIxB (w : World) : R2 := fun x y H Q => ∃ (b d : Addr) (k : LkD) (L : List LE) (z : V), x = .ref d ∧ y = .ref b ∧ H d = some (DicO w d (deL L)) ∧ KeysB H L ∧ H b = some (lkO k) ∧ atB L k = some z ∧ Q z H
theorem ix_dicB (hu : X.A.units + 12 < cLine) : IxR X (rIxB X.w) := by
  intro value slice pins s σ H x y v u Q I rx ry h hs
  obtain ⟨b, d, k, L, z, rfl, rfl, hd, hk, hb, hz, q⟩ := h
  obtain rfl : v = Value.ref d := rx
  obtain rfl : u = Value.ref b := ry
  obtain ⟨_, y, xs, r, D⟩ := dic_ofB I hd hk
  have hr := dicr_at (k := lkD k) r
  rw [atB_at, hz] at hr
  cases h2 : atKey xs (nk (lkD k)) with
  | none => rw [h2] at hr; exact hr.elim
  | some p =>
    rw [h2] at hr
    exact tail_any D.typeIs slot_dict_getitem.lookup (wpAny_getItem_heap (knd := nestedKind X.prog X.w) (by show X.A.in1.units + 8 < cLine; exact Nat.lt_of_le_of_lt (by show X.A.units + 1 + 8 ≤ X.A.units + 12; omega) hu) (key_lk I hb) D h2 ⟨z, H, I.tok _, hr, q⟩) hs
/-- d[t] = z, t a key that is not there -/
def rSetS (w : World) : TSet := fun o i v H Q => ∃ (d b : Addr) (k : SkD) (L : List SE), o = .ref d ∧ i = .ref b ∧ H d = some (DicO w d (deS L)) ∧ KeysS H L ∧ H b = some (skO k) ∧ L.length < 40000 ∧ atS L k = none ∧ Q (upd H d (DicO w d (deS (L ++ [(b, k, v)]))))
theorem set_dicS (hu : X.A.units + 12 < cLine) : PSet X (rSetS X.w) := by
  intro pins s σ H o i v ov iv u Q I ro ri rv h
  obtain ⟨d, b, k, L, rfl, rfl, hd, hk, hb, hl, hn0, q⟩ := h
  obtain rfl : ov = Value.ref d := ro
  obtain rfl : iv = Value.ref b := ri
  have ll : (deS L).length = L.length := List.length_map _
  obtain ⟨_, y, xs, r, D⟩ := dic_ofS I hd hk
  have rl := dicr_len r
  have hn : atKey xs (nk (skD k)) = none := by
    have := relS_at (k := k) r
    rw [hn0] at this
    cases h2 : atKey xs (nk (skD k)) with
    | none => rfl
    | some p => rw [h2] at this; cases this
  refine wpAny_setItem_heap (knd := nestedKind X.prog X.w) (hsz := by rw [← rl, sizeLine_eq]; omega) (by show X.A.in1.units + 8 < cLine; exact Nat.lt_of_le_of_lt (by show X.A.units + 1 + 8 ≤ X.A.units + 12; omega) hu) (key_sk I hb) D fun h' D' hs => ?_
  rw [storedH_new hn] at D'
  have he : ∃ q, h'.get? d = some q := let ⟨q, _, _, hq, _⟩ := D'; ⟨q, hq⟩
  have r' : Paired RelE (deS (L ++ [(b, k, v)])) (xs ++ [(nk (skD k), b, u)]) := by
    have : deS (L ++ [(b, k, v)]) = deS L ++ [(b, skD k, v)] := by unfold deS; rw [List.map_append]; rfl
    rw [this]
    exact r.snoc ⟨rfl, rfl, rv⟩
  exact ⟨_, d_write I (by rw [hd]; exact True.intro) hs he (dicO_new (by unfold deS; rw [List.length_map, List.length_append, sizeLine_eq]; show L.length + 1 ≤ _; omega) y r' (DicM.of D')), q⟩
end
section
variable {X : Cx} {pins : List (Addr × Obj)} {σ : L2.St} {H : Hp} {s : Shared} {d : Addr} {L : List LE}
theorem dic_ofBF {o : Obj} (I : Inv X pins σ H s) (hd : H d = some (DicF X.w d (deL L) o)) (hk : KeysB H L) : (deL L).length ≤ sizeLine ∧ (d == sysModules) = false ∧ ∃ xs, Paired RelE (deL L) xs ∧ s.heap.DictOfH (nestedKind X.prog X.w) d xs := by
  obtain ⟨⟨⟨z, y, xs, es, ep, r, h2, h3, h4, h5⟩, h1⟩, _⟩ := (show ObjOk X.prog X.w H s.heap d (DicF X.w d (deL L) o) from I.hok d _ hd)
  refine ⟨z, y, xs, r, o, es, ep, h1, h2, h3, h4, ?_, h5⟩
  have all : ∀ {M : List DE} {xs : List XE}, (∀ l ∈ M, ∃ e ∈ L, l = (e.1, lkD e.2.1, e.2.2)) → Paired RelE M xs → ∀ x ∈ xs, (nestedKind X.prog X.w).is s.heap x.1 x.2.1 := by
    intro M xs hM r
    induction r with
    | nil => intro x hx; cases hx
    | @cons l x M xs h t ih =>
      intro y hy
      rcases List.mem_cons.mp hy with e | hy
      · subst e
        obtain ⟨q, hq, rfl⟩ := hM l List.mem_cons_self
        rw [h.1, h.2.1]
        exact key_lk I (hk q hq)
      · exact ih (fun l hl => hM l (List.mem_cons_of_mem _ hl)) y hy
  refine all (fun l hl => ?_) r
  obtain ⟨e, he, rfl⟩ := List.mem_map.mp hl
  exact ⟨e, he, rfl⟩
end
section
variable {X : Cx}
/-- links[a, b, c], links as they stand -/
def rIxF (w : World) : R2 := fun x y H Q => ∃ (b d : Addr) (k : LkD) (L : List LE) (o : Obj) (z : V), x = .ref d ∧ y = .ref b ∧ H d = some (DicF w d (deL L) o) ∧ KeysB H L ∧ H b = some (lkO k) ∧ atB L k = some z ∧ Q z H
theorem ix_dicF (hu : X.A.units + 12 < cLine) : IxR X (rIxF X.w) := by
  intro value slice pins s σ H x y v u Q I rx ry h hs
  obtain ⟨b, d, k, L, o, z, rfl, rfl, hd, hk, hb, hz, q⟩ := h
  obtain rfl : v = Value.ref d := rx
  obtain rfl : u = Value.ref b := ry
  obtain ⟨_, y, xs, r, D⟩ := dic_ofBF I hd hk
  have hr := dicr_at (k := lkD k) r
  rw [atB_at, hz] at hr
  cases h2 : atKey xs (nk (lkD k)) with
  | none => rw [h2] at hr; exact hr.elim
  | some p =>
    rw [h2] at hr
    exact tail_any D.typeIs slot_dict_getitem.lookup (wpAny_getItem_heap (knd := nestedKind X.prog X.w) (by show X.A.in1.units + 8 < cLine; exact Nat.lt_of_le_of_lt (by show X.A.units + 1 + 8 ≤ X.A.units + 12; omega) hu) (key_lk I hb) D h2 ⟨z, H, I.tok _, hr, q⟩) hs
theorem op_inS2r {k : Nat} (hr : Room k X.A) : OpR X (compareOp .In) (rInS2 X.w) := op_inS2 (by have := hr.un; omega)
theorem op_notInS2r {k : Nat} (hr : Room k X.A) : OpR X (compareOp .NotIn) (rNotInS2 X.w) := op_notInS2 (by have := hr.un; omega)
theorem ix_dicSr {k : Nat} (hr : Room k X.A) : IxR X (rIxS2 X.w) := ix_dicS (by have := hr.un; omega)
theorem ix_dicFr {k : Nat} (hr : Room k X.A) : IxR X (rIxF X.w) := ix_dicF (by have := hr.un; omega)
theorem set_dicSr {k : Nat} (hr : Room k X.A) : PSet X (rSetS X.w) := set_dicS (by have := hr.un; omega)
end
end Own

namespace Own
open PySem PySem.Calls PySem.Spec PyProof.Rows PySem.W
/-! ### list(zip(xs, ys)) -/
abbrev IsZipF (h : Heap) (z TI TO : Addr) (f0 : Value) (f : Bool) : Prop :=
  h.get? z = some { cls := .type "zip", dict := none, data := .fields #[f0, .bool f, .bool false, .ref TI, .ref TO], slots := #[] }
section
variable {prog : Program} {w : World} {A : Around} {E : Value → Shared → Prop} {s : Shared}
theorem zl_next_out {z TI TO i1 i2 l1 l2 T : Addr} {f : Bool} {oT : Obj} {k1 k2 : Nat} {xs ys : Array Value} {x y : Value} {Q : Value → Shared → Prop} (D : ZipApart z TI TO i1 i2 l1 l2)
    (hz : IsZipF s.heap z TI TO (rawInt T) f) (hT : s.heap.get? T = some oT) (hTz : T ≠ z) (hTI : IsPair s.heap TI (.ref i1) (.ref i2))
    (h1 : s.heap.IsListIter i1 l1 k1) (h2 : s.heap.IsListIter i2 l2 k2) (hl1 : s.heap.IsList l1 xs) (hl2 : s.heap.IsList l2 ys) (hx : xs[k1]? = some x) (hy : ys[k2]? = some y)
    (hQ : ∀ h', IsZipF h' z TI TO (rawInt T) true → h'.IsListIter i1 l1 (k1 + 1) → h'.IsListIter i2 l2 (k2 + 1) → IsPair h' s.heap.objs.size x y → h'.objs.size = s.heap.objs.size + 1 →
      (∀ c o, c ≠ z → c ≠ i1 → c ≠ i2 → s.heap.get? c = some o → h'.get? c = some o) → Q (.ref s.heap.objs.size) { s with heap := h' }) :
    wpAny (model prog w) A (Builtin.«zip.__next__» ⟨[.ref z], []⟩) (fun fin s' => ∃ v, fin = .done (.ret v) ∧ Q v s') E s := by
  show wpAny _ _ (field (.ref z) 2 >>= _) _ _ _
  refine wpAny_bind (wpAny_field hz rfl (x := .bool false) rfl ?_)
  show wpAny _ _ (field (.ref z) 3 >>= _) _ _ _
  refine wpAny_bind (wpAny_field hz rfl (x := .ref TI) rfl ?_)
  refine wpAny_bind (wpAny_seqItems hTI rfl ?_)
  show wpAny _ _ (Builtin.SmallTypes.ownedTupleIsFree (.ref z) >>= _) _ _ _
  refine wpAny_bind ?_
  unfold Builtin.SmallTypes.ownedTupleIsFree
  refine wpAny_bind (wpAny_field hz rfl (x := rawInt T) rfl ?_)
  show wpAny _ _ (loadIfAlive ((T : Int).toNat) >>= _) _ _ _
  rw [Int.toNat_natCast]
  refine wpAny_bind (kdx_alive hT ?_)
  simp only [Option.isNone_some, Bool.false_eq_true, if_false]
  refine wpAny_bind (wpAny_field hz rfl (x := .bool f) rfl ?_)
  cases f with
  | true =>
    rw [if_neg (show ¬ ((Value.bool true != Value.bool true) = true) from Bool.false_ne_true)]
    refine wpAny_pure ?_
    have hz₁ := hz
    have hs : Heap.SameBut z s.heap s.heap := Heap.SameBut.refl _ _
    simp only [Bool.false_eq_true, if_false]
    refine wpAny_bind ?_
    rw [← Array.forIn_toList]
    show wpAny _ _ (forIn [Value.ref i1, Value.ref i2] _ _) _ _ _
    simp only [List.forIn_cons, List.forIn_nil]
    refine wpAny_bind (wpAny_bind (wpAny_holding ?_))
    show wpAny _ _ (Builtin.SmallTypes.nextOf (.ref i1) >>= _) _ _ _
    refine wpAny_bind (wpAny_nextOf_list_item (h1.extBut hs.extBut D.i1z) (hl1.extBut hs.extBut D.l1z) hx fun h₂ h1₂ hs₂ => wpAny_pure ?_)
    refine wpAny_pure ?_
    refine wpAny_bind (wpAny_bind (wpAny_holding ?_))
    show wpAny _ _ (Builtin.SmallTypes.nextOf (.ref i2) >>= _) _ _ _
    refine wpAny_bind (wpAny_nextOf_list_item ((h2.extBut hs.extBut D.i2z).extBut hs₂.extBut D.i12.symm) ((hl2.extBut hs.extBut D.l2z).extBut hs₂.extBut D.l2i1) hy fun h₃ h2₃ hs₃ => wpAny_pure ?_)
    refine wpAny_pure (wpAny_pure ?_)
    refine wpAny_bind (wpAny_newTuple (hsz := by show 2 ≤ sizeLine; decide) ?_)
    have hsz : h₃.objs.size = s.heap.objs.size := by rw [hs₃.1, hs₂.1, hs.1]
    have up : ∀ c o, h₃.get? c = some o → (h₃.push { cls := .type "tuple", data := .seq #[x, y] }).get? c = some o := fun c o e => Heap.get?_push_of_some _ e
    have kp : ∀ c o, c ≠ z → c ≠ i1 → c ≠ i2 → s.heap.get? c = some o → h₃.get? c = some o := fun c o a1 a2 a3 e => hs₃.extBut _ _ a3 (hs₂.extBut _ _ a2 (hs.extBut _ _ a1 e))
    refine wpAny_pure ⟨_, rfl, ?_⟩
    show Q (.ref h₃.objs.size) _
    rw [hsz]
    refine hQ _ (up _ _ (hs₃.extBut _ _ D.i2z.symm (hs₂.extBut _ _ D.i1z.symm hz₁))) ((h1₂.extBut hs₃.extBut D.i12).at fun o e => up _ o e) (h2₃.at fun o e => up _ o e) ?_ (by rw [Heap.size_push, hsz]) fun c o a1 a2 a3 e => up _ _ (kp c o a1 a2 a3 e)
    rw [← hsz]
    exact Heap.get?_push_size _ rfl
  | false =>
    rw [if_pos (show (Value.bool false != Value.bool true) = true from rfl)]
    refine wpAny_bind (wpAny_setField_rec hz (by simp) fun h₁ hz₁ hs => ?_)
    replace hz₁ : IsZipF h₁ z TI TO (rawInt T) true := hz₁
    refine wpAny_pure ?_
    simp only [Bool.false_eq_true, if_false]
    refine wpAny_bind ?_
    rw [← Array.forIn_toList]
    show wpAny _ _ (forIn [Value.ref i1, Value.ref i2] _ _) _ _ _
    simp only [List.forIn_cons, List.forIn_nil]
    refine wpAny_bind (wpAny_bind (wpAny_holding ?_))
    show wpAny _ _ (Builtin.SmallTypes.nextOf (.ref i1) >>= _) _ _ _
    refine wpAny_bind (wpAny_nextOf_list_item (h1.extBut hs.extBut D.i1z) (hl1.extBut hs.extBut D.l1z) hx fun h₂ h1₂ hs₂ => wpAny_pure ?_)
    refine wpAny_pure ?_
    refine wpAny_bind (wpAny_bind (wpAny_holding ?_))
    show wpAny _ _ (Builtin.SmallTypes.nextOf (.ref i2) >>= _) _ _ _
    refine wpAny_bind (wpAny_nextOf_list_item ((h2.extBut hs.extBut D.i2z).extBut hs₂.extBut D.i12.symm) ((hl2.extBut hs.extBut D.l2z).extBut hs₂.extBut D.l2i1) hy fun h₃ h2₃ hs₃ => wpAny_pure ?_)
    refine wpAny_pure (wpAny_pure ?_)
    refine wpAny_bind (wpAny_newTuple (hsz := by show 2 ≤ sizeLine; decide) ?_)
    have hsz : h₃.objs.size = s.heap.objs.size := by rw [hs₃.1, hs₂.1, hs.1]
    have up : ∀ c o, h₃.get? c = some o → (h₃.push { cls := .type "tuple", data := .seq #[x, y] }).get? c = some o := fun c o e => Heap.get?_push_of_some _ e
    have kp : ∀ c o, c ≠ z → c ≠ i1 → c ≠ i2 → s.heap.get? c = some o → h₃.get? c = some o := fun c o a1 a2 a3 e => hs₃.extBut _ _ a3 (hs₂.extBut _ _ a2 (hs.extBut _ _ a1 e))
    refine wpAny_pure ⟨_, rfl, ?_⟩
    show Q (.ref h₃.objs.size) _
    rw [hsz]
    refine hQ _ (up _ _ (hs₃.extBut _ _ D.i2z.symm (hs₂.extBut _ _ D.i1z.symm hz₁))) ((h1₂.extBut hs₃.extBut D.i12).at fun o e => up _ o e) (h2₃.at fun o e => up _ o e) ?_ (by rw [Heap.size_push, hsz]) fun c o a1 a2 a3 e => up _ _ (kp c o a1 a2 a3 e)
    rw [← hsz]
    exact Heap.get?_push_size _ rfl
theorem zl_end_out {z TI TO i1 i2 l1 l2 T : Addr} {f : Bool} {oT : Obj} {k1 k2 : Nat} {xs ys : Array Value} {Q : Fin → Shared → Prop} (hh : A.handled = none) (D : ZipApart z TI TO i1 i2 l1 l2)
    (hz : IsZipF s.heap z TI TO (rawInt T) f) (hT : s.heap.get? T = some oT) (hTI : IsPair s.heap TI (.ref i1) (.ref i2))
    (h1 : s.heap.IsListIter i1 l1 k1) (h2 : s.heap.IsListIter i2 l2 k2) (hl1 : s.heap.IsList l1 xs) (hl2 : s.heap.IsList l2 ys) (hend : xs[k1]? = none ∨ ys[k2]? = none)
    (hE : ∀ h' e, (∀ c o, c ≠ z → c ≠ i1 → c ≠ i2 → s.heap.get? c = some o → h'.get? c = some o) → (∃ o, h'.get? e = some o ∧ o.cls = .type "StopIteration") → E (.ref e) { s with heap := h' }) :
    wpAny (model prog w) A (Builtin.«zip.__next__» ⟨[.ref z], []⟩) Q E s := by
  show wpAny _ _ (field (.ref z) 2 >>= _) _ _ _
  refine wpAny_bind (wpAny_field hz rfl (x := .bool false) rfl ?_)
  show wpAny _ _ (field (.ref z) 3 >>= _) _ _ _
  refine wpAny_bind (wpAny_field hz rfl (x := .ref TI) rfl ?_)
  refine wpAny_bind (wpAny_seqItems hTI rfl ?_)
  show wpAny _ _ (Builtin.SmallTypes.ownedTupleIsFree (.ref z) >>= _) _ _ _
  refine wpAny_bind ?_
  unfold Builtin.SmallTypes.ownedTupleIsFree
  refine wpAny_bind (wpAny_field hz rfl (x := rawInt T) rfl ?_)
  show wpAny _ _ (loadIfAlive ((T : Int).toNat) >>= _) _ _ _
  rw [Int.toNat_natCast]
  refine wpAny_bind (kdx_alive hT ?_)
  simp only [Option.isNone_some, Bool.false_eq_true, if_false]
  refine wpAny_bind (wpAny_field hz rfl (x := .bool f) rfl ?_)
  cases f with
  | true =>
    rw [if_neg (show ¬ ((Value.bool true != Value.bool true) = true) from Bool.false_ne_true)]
    refine wpAny_pure ?_
    have hz₁ := hz
    have hs : Heap.SameBut z s.heap s.heap := Heap.SameBut.refl _ _
    simp only [Bool.false_eq_true, if_false]
    refine wpAny_bind ?_
    rw [← Array.forIn_toList]
    show wpAny _ _ (forIn [Value.ref i1, Value.ref i2] _ _) _ _ _
    simp only [List.forIn_cons, List.forIn_nil]
    refine wpAny_bind (wpAny_bind (wpAny_holding ?_))
    show wpAny _ _ (Builtin.SmallTypes.nextOf (.ref i1) >>= _) _ _ _
    cases hx : xs[k1]? with
    | none =>
      exact wpAny_bind (wpAny_nextOf_list_end hh (h1.extBut hs.extBut D.i1z) (hl1.extBut hs.extBut D.l1z) hx fun h₂ e hs₂ he => hE h₂ e (fun c o a1 a2 _ x => hs₂ _ _ a2 (hs.extBut _ _ a1 x)) he)
    | some x =>
      have hy : ys[k2]? = none := by rcases hend with h | h; rw [hx] at h; cases h; exact h
      refine wpAny_bind (wpAny_nextOf_list_item (h1.extBut hs.extBut D.i1z) (hl1.extBut hs.extBut D.l1z) hx fun h₂ h1₂ hs₂ => wpAny_pure ?_)
      refine wpAny_pure ?_
      refine wpAny_bind (wpAny_bind (wpAny_holding ?_))
      show wpAny _ _ (Builtin.SmallTypes.nextOf (.ref i2) >>= _) _ _ _
      exact wpAny_bind (wpAny_nextOf_list_end hh ((h2.extBut hs.extBut D.i2z).extBut hs₂.extBut D.i12.symm) ((hl2.extBut hs.extBut D.l2z).extBut hs₂.extBut D.l2i1) hy fun h₃ e hs₃ he => hE h₃ e (fun c o a1 a2 a3 x => hs₃ _ _ a3 (hs₂.extBut _ _ a2 (hs.extBut _ _ a1 x))) he)
  | false =>
    rw [if_pos (show (Value.bool false != Value.bool true) = true from rfl)]
    refine wpAny_bind (wpAny_setField_rec hz (by simp) fun h₁ hz₁ hs => ?_)
    refine wpAny_pure ?_
    simp only [Bool.false_eq_true, if_false]
    refine wpAny_bind ?_
    rw [← Array.forIn_toList]
    show wpAny _ _ (forIn [Value.ref i1, Value.ref i2] _ _) _ _ _
    simp only [List.forIn_cons, List.forIn_nil]
    refine wpAny_bind (wpAny_bind (wpAny_holding ?_))
    show wpAny _ _ (Builtin.SmallTypes.nextOf (.ref i1) >>= _) _ _ _
    cases hx : xs[k1]? with
    | none =>
      exact wpAny_bind (wpAny_nextOf_list_end hh (h1.extBut hs.extBut D.i1z) (hl1.extBut hs.extBut D.l1z) hx fun h₂ e hs₂ he => hE h₂ e (fun c o a1 a2 _ x => hs₂ _ _ a2 (hs.extBut _ _ a1 x)) he)
    | some x =>
      have hy : ys[k2]? = none := by rcases hend with h | h; rw [hx] at h; cases h; exact h
      refine wpAny_bind (wpAny_nextOf_list_item (h1.extBut hs.extBut D.i1z) (hl1.extBut hs.extBut D.l1z) hx fun h₂ h1₂ hs₂ => wpAny_pure ?_)
      refine wpAny_pure ?_
      refine wpAny_bind (wpAny_bind (wpAny_holding ?_))
      show wpAny _ _ (Builtin.SmallTypes.nextOf (.ref i2) >>= _) _ _ _
      exact wpAny_bind (wpAny_nextOf_list_end hh ((h2.extBut hs.extBut D.i2z).extBut hs₂.extBut D.i12.symm) ((hl2.extBut hs.extBut D.l2z).extBut hs₂.extBut D.l2i1) hy fun h₃ e hs₃ he => hE h₃ e (fun c o a1 a2 a3 x => hs₃ _ _ a3 (hs₂.extBut _ _ a2 (hs.extBut _ _ a1 x))) he)
/-- where the zip stands: nothing drawn yet, or its first tuple is held -/
structure ZlSt (h : Heap) (z TI TO i1 i2 l1 l2 S : Addr) (xs ys : Array Value) (i : Nat) : Prop where
  zp : (i = 0 ∧ IsZip h z TI TO .none) ∨ ∃ (T : Addr) (f : Bool) (oT : Obj), IsZipF h z TI TO (rawInt T) f ∧ h.get? T = some oT ∧ T ≠ z ∧ T ≠ i1 ∧ T ≠ i2 ∧ T ≠ S
  hTI : IsPair h TI (.ref i1) (.ref i2)
  hTO : ∃ a b, IsPair h TO a b
  h1 : h.IsListIter i1 l1 i
  h2 : h.IsListIter i2 l2 i
  hl1 : h.IsList l1 xs
  hl2 : h.IsList l2 ys
theorem zl_item {z TI TO i1 i2 l1 l2 S : Addr} {i : Nat} {xs ys : Array Value} {x y : Value} {Q : Option Value → Shared → Prop} (D : ZipApart z TI TO i1 i2 l1 l2) (st : ZlSt s.heap z TI TO i1 i2 l1 l2 S xs ys i) (hS : S < s.heap.objs.size) (hx : xs[i]? = some x) (hy : ys[i]? = some y)
    (hQ : ∀ h', ZlSt h' z TI TO i1 i2 l1 l2 S xs ys (i + 1) → IsPair h' s.heap.objs.size x y → h'.objs.size = s.heap.objs.size + 1 → (∀ c o, c ≠ z → c ≠ TO → c ≠ i1 → c ≠ i2 → s.heap.get? c = some o → h'.get? c = some o) → Q (some (.ref s.heap.objs.size)) { s with heap := h' }) :
    wpAny (model prog w) A (pyNext (.ref z)) Q E s := by
  obtain ⟨zp, hTI, ⟨a, b, hTO⟩, h1, h2, hl1, hl2⟩ := st
  have lt : ∀ {c o}, s.heap.get? c = some o → s.heap.objs.size ≠ c := fun e => Nat.ne_of_gt (Heap.lt_size e)
  have li1 : s.heap.objs.size ≠ i1 := by obtain ⟨_, e, _⟩ := h1; exact lt e
  have li2 : s.heap.objs.size ≠ i2 := by obtain ⟨_, e, _⟩ := h2; exact lt e
  rcases zp with ⟨rfl, hz⟩ | ⟨T, f, oT, hz, hT, t1, t2, t3, t4⟩
  · refine wpAny_pyNext_zip_item D hz hTI hTO h1 h2 hl1 hl2 hx hy fun h' a1 a2 a3 a4 a5 a6 hk => ?_
    exact hQ h' ⟨.inr ⟨s.heap.objs.size, false, _, a1, a5, lt hz, li1, li2, Nat.ne_of_gt hS⟩, hk _ _ D.TIz D.TITO D.TIi1 D.TIi2 hTI, ⟨_, _, a2⟩, a3, a4, hl1.at fun o e => hk _ o D.l1z D.l1TO D.l1i1 D.l1i2 e, hl2.at fun o e => hk _ o D.l2z D.l2TO D.l2i1 D.l2i2 e⟩ a5 a6 hk
  · have hTy : s.TypeIs (.ref z) "zip" := ⟨_, hz, rfl⟩
    unfold pyNext
    refine wpAny_bind (wpAny_attempt (wpAny_callSpecial?_slot (name := Str.ofString "__next__") hTy PySem.F.slot_zip_next (wpAny_call_entry PySem.F.slot_zip_next hTy PySem.F.entry_zip_next
        (zl_next_out D hz hT t1 hTI h1 h2 hl1 hl2 hx hy fun h' a1 a3 a4 a5 a6 hk => wpAny_pure ?_) (PySem.F.args_zip_next_1 _))))
    exact hQ h' ⟨.inr ⟨T, true, oT, a1, hk T oT t1 t2 t3 hT, t1, t2, t3, t4⟩, hk _ _ D.TIz D.TIi1 D.TIi2 hTI, ⟨a, b, hk _ _ D.TOz D.TOi1 D.TOi2 hTO⟩, a3, a4, hl1.at fun o e => hk _ o D.l1z D.l1i1 D.l1i2 e, hl2.at fun o e => hk _ o D.l2z D.l2i1 D.l2i2 e⟩ a5 a6 fun c o c1 _ c3 c4 e => hk c o c1 c3 c4 e
theorem zl_done {z TI TO i1 i2 l1 l2 S : Addr} {i : Nat} {xs ys : Array Value} {Q : Option Value → Shared → Prop} (hh : A.handled = none) (D : ZipApart z TI TO i1 i2 l1 l2) (st : ZlSt s.heap z TI TO i1 i2 l1 l2 S xs ys i) (hend : xs[i]? = none ∨ ys[i]? = none)
    (hQ : ∀ h', (∀ c o, c ≠ z → c ≠ TO → c ≠ i1 → c ≠ i2 → s.heap.get? c = some o → h'.get? c = some o) → Q none { s with heap := h' }) : wpAny (model prog w) A (pyNext (.ref z)) Q E s := by
  obtain ⟨zp, hTI, ⟨a, b, hTO⟩, h1, h2, hl1, hl2⟩ := st
  rcases zp with ⟨rfl, hz⟩ | ⟨T, f, oT, hz, hT, t1, t2, t3, t4⟩
  · exact wpAny_pyNext_zip_end hh D hz hTI hTO h1 h2 hl1 hl2 hend hQ
  · have hTy : s.TypeIs (.ref z) "zip" := ⟨_, hz, rfl⟩
    unfold pyNext
    refine wpAny_bind (wpAny_attempt (wpAny_callSpecial?_slot (name := Str.ofString "__next__") hTy PySem.F.slot_zip_next (wpAny_call_entry PySem.F.slot_zip_next hTy PySem.F.entry_zip_next
        (zl_end_out hh D hz hT hTI h1 h2 hl1 hl2 hend fun h' e hk he => ?_) (PySem.F.args_zip_next_1 _))))
    obtain ⟨o, ho, hc⟩ := he
    refine wpAny_bind (wpAny_isInstance (T := "StopIteration") (b := true) ⟨o, ho, hc⟩ isSubtype_stop ?_)
    exact wpAny_pure (hQ _ fun c o c1 _ c3 c4 e => hk c o c1 c3 c4 e)
theorem ZlSt.keep {h h' : Heap} {z TI TO i1 i2 l1 l2 S : Addr} {xs ys : Array Value} {i : Nat} (x : ZlSt h z TI TO i1 i2 l1 l2 S xs ys i) (hk : ∀ b o, b ≠ S → h.get? b = some o → h'.get? b = some o) (a1 : z ≠ S) (a2 : TI ≠ S) (a3 : TO ≠ S) (a4 : i1 ≠ S) (a5 : i2 ≠ S) (a6 : l1 ≠ S) (a7 : l2 ≠ S) : ZlSt h' z TI TO i1 i2 l1 l2 S xs ys i := by
  obtain ⟨zp, hTI, ⟨a, b, hTO⟩, h1, h2, hl1, hl2⟩ := x
  refine ⟨?_, hk _ _ a2 hTI, ⟨a, b, hk _ _ a3 hTO⟩, h1.at fun o e => hk _ o a4 e, h2.at fun o e => hk _ o a5 e, hl1.at fun o e => hk _ o a6 e, hl2.at fun o e => hk _ o a7 e⟩
  rcases zp with ⟨e, hz⟩ | ⟨T, f, oT, hz, hT, t1, t2, t3, t4⟩
  · exact .inl ⟨e, hk _ _ a1 hz⟩
  · exact .inr ⟨T, f, oT, hk _ _ a1 hz, hk _ _ t4 hT, t1, t2, t3, t4⟩
structure ZlG (xs ys : Array Value) (lo : Addr) (h : Heap) (as : List Addr) : Prop where
  rise : as.Pairwise (· < ·)
  above : ∀ a ∈ as, lo < a
  pairs : ∀ (j : Nat) (a : Addr), as[j]? = some a → ∃ x y, xs[j]? = some x ∧ ys[j]? = some y ∧ IsPair h a x y
theorem ZlG.there {xs ys : Array Value} {lo : Addr} {h : Heap} {as : List Addr} (g : ZlG xs ys lo h as) {a : Addr} (ha : a ∈ as) : a < h.objs.size := by
  obtain ⟨j, hj⟩ := List.mem_iff_getElem?.mp ha
  obtain ⟨_, _, _, _, e⟩ := g.pairs j a hj
  exact Heap.lt_size e
end
section
variable {prog : Program} {w : World} {A : Around} {s : Shared} {R : Result → Shared → Prop} {xs ys : Array Value} {z TI TO i1 i2 l1 l2 : Addr}
/-- S lies apart from all that the zip is made of, and behind it -/
structure ZlOff (z TI TO i1 i2 l1 l2 S : Addr) : Prop where
  a1 : z < S
  a2 : TI < S
  a3 : TO < S
  a4 : i1 < S
  a5 : i2 < S
  a6 : l1 < S
  a7 : l2 < S
theorem zl_loop {S : Addr} (hh : A.handled = none) (D : ZipApart z TI TO i1 i2 l1 l2) (O : ZlOff z TI TO i1 i2 l1 l2 S) (hn : min xs.size ys.size ≤ sizeLine) (res : Value) {h₁ : Heap}
    (hR : ∀ h' tk acc c as, (∀ b o, b ≠ S → b ≠ z → b ≠ TO → b ≠ i1 → b ≠ i2 → h₁.get? b = some o → h'.get? b = some o) → h'.get? S = some { cls := .type "list", dict := none, data := .seq acc c, slots := #[] } → as.length = min xs.size ys.size → ZlG xs ys S h' as →
      acc.toList = as.map Value.ref → R (.ok (.ret res)) { s with heap := h', toks := tk }) :
    ∀ (k i : Nat) (h : Heap) (tk c : Nat) (acc : Array Value) (as : List Addr), min xs.size ys.size - i = k → i ≤ min xs.size ys.size → ZlSt h z TI TO i1 i2 l1 l2 S xs ys i → (∀ b o, b ≠ S → b ≠ z → b ≠ TO → b ≠ i1 → b ≠ i2 → h₁.get? b = some o → h.get? b = some o) →
      h.get? S = some { cls := .type "list", dict := none, data := .seq acc c, slots := #[] } → acc.toList = as.map Value.ref → as.length = i → ZlG xs ys S h as →
      codeAny (model prog w) A (.builtin "list.extend.loop" ⟨[.ref S, .ref z, res], []⟩) R { s with heap := h, toks := tk } := by
  have nz : S ≠ z := Nat.ne_of_gt O.a1
  have nTO : S ≠ TO := Nat.ne_of_gt O.a3
  have n1 : S ≠ i1 := Nat.ne_of_gt O.a4
  have n2 : S ≠ i2 := Nat.ne_of_gt O.a5
  intro k
  induction k with
  | zero =>
    intro i h tk c acc as hk hi hst hkeep hS hacc hal hG
    have hin : i = min xs.size ys.size := by omega
    have hend : xs[i]? = none ∨ ys[i]? = none := by
      rcases Nat.le_total xs.size ys.size with h | h
      · exact .inl (Array.getElem?_eq_none (by omega))
      · exact .inr (Array.getElem?_eq_none (by omega))
    refine codeAny_builtin PySem.F.entry_extend_loop ?_
    rw [Around.under_plainId PySem.F.plain_extend_loop _]
    show wpAny _ A.in1 (pyNext (.ref z) >>= _) _ _ _
    refine wpAny_bind (zl_done (s := { s with heap := h, toks := tk }) (A := A.in1) hh D hst hend fun h' he => ?_)
    refine wpAny_pure (hR h' tk acc c as (fun b o b1 b2 b3 b4 b5 e => he b o b2 b3 b4 b5 (hkeep b o b1 b2 b3 b4 b5 e)) (he S _ nz nTO n1 n2 hS) (by omega) ⟨hG.rise, hG.above, fun j a hj => ?_⟩ hacc)
    obtain ⟨x, y, e1, e2, e3⟩ := hG.pairs j a hj
    have hb := hG.above a (List.mem_of_getElem? hj)
    exact ⟨x, y, e1, e2, he a _ (Nat.ne_of_gt (Nat.lt_trans O.a1 hb)) (Nat.ne_of_gt (Nat.lt_trans O.a3 hb)) (Nat.ne_of_gt (Nat.lt_trans O.a4 hb)) (Nat.ne_of_gt (Nat.lt_trans O.a5 hb)) e3⟩
  | succ k ih =>
    intro i h tk c acc as hk hi hst hkeep hS hacc hal hG
    have hlt : i < min xs.size ys.size := by omega
    have hix : i < xs.size := by omega
    have hiy : i < ys.size := by omega
    have hsz : acc.size = i := by rw [← Array.length_toList, hacc, List.length_map, hal]
    refine codeAny_builtin PySem.F.entry_extend_loop ?_
    rw [Around.under_plainId PySem.F.plain_extend_loop _]
    show wpAny _ A.in1 (pyNext (.ref z) >>= _) _ _ _
    refine wpAny_bind (zl_item (s := { s with heap := h, toks := tk }) (S := S) D hst (Heap.lt_size hS) (Array.getElem?_eq_getElem hix) (Array.getElem?_eq_getElem hiy) fun h' hst' ht hz hkp => ?_)
    dsimp only at ht hz hkp ⊢
    have hS' := hkp S _ nz nTO n1 n2 hS
    have up : ∀ b o, b ≠ S → h'.get? b = some o → (h'.update S (Obj.mapSeq (·.push (Value.ref h.objs.size)))).get? b = some o := fun b o hb e => (Heap.get?_update_other _ _ (Ne.symm hb)).trans e
    have hSl : S < h.objs.size := Heap.lt_size hS
    show wpAny _ A.in1 (updateSeq S (·.push (Value.ref h.objs.size)) >>= _) _ _ _
    refine wpAny_bind ?_
    refine wpAny_updateSeq hS' rfl (wpAny_pure ⟨plainId_quiet PySem.F.plain_extend_loop _, ih (i + 1) _ tk _ (acc.push (Value.ref h.objs.size)) (as ++ [h.objs.size]) (by omega) hlt (hst'.keep up (Nat.ne_of_lt O.a1) (Nat.ne_of_lt O.a2) (Nat.ne_of_lt O.a3) (Nat.ne_of_lt O.a4) (Nat.ne_of_lt O.a5) (Nat.ne_of_lt O.a6) (Nat.ne_of_lt O.a7))
      (fun b o b1 b2 b3 b4 b5 e => up b o b1 (hkp b o b2 b3 b4 b5 (hkeep b o b1 b2 b3 b4 b5 e))) (Heap.get?_update_self _ hS' rfl) (by rw [Array.toList_push, hacc, List.map_append]; rfl) (by rw [List.length_append, hal]; rfl) ⟨?_, ?_, ?_⟩⟩) (by rw [hsz]; omega) (by show (acc.push (Value.ref h.objs.size)).size ≤ sizeLine + 1; rw [Array.size_push, hsz]; omega)
    · refine List.pairwise_append.mpr ⟨hG.rise, List.pairwise_singleton _ _, fun a ha b hb => ?_⟩
      rw [List.mem_singleton.mp hb]
      exact hG.there ha
    · intro a ha
      rcases List.mem_append.mp ha with ha | ha
      · exact hG.above a ha
      · rw [List.mem_singleton.mp ha]; exact hSl
    · intro j b hj
      rcases Nat.lt_trichotomy j as.length with q | q | q
      · rw [List.getElem?_append_left q] at hj
        obtain ⟨x, y, e1, e2, e3⟩ := hG.pairs j b hj
        have hb := hG.above b (List.mem_of_getElem? hj)
        exact ⟨x, y, e1, e2, up b _ (Nat.ne_of_gt hb) (hkp b _ (Nat.ne_of_gt (Nat.lt_trans O.a1 hb)) (Nat.ne_of_gt (Nat.lt_trans O.a3 hb)) (Nat.ne_of_gt (Nat.lt_trans O.a4 hb)) (Nat.ne_of_gt (Nat.lt_trans O.a5 hb)) e3)⟩
      · subst q
        have hb : h.objs.size = b := by simpa using hj
        subst hb
        exact ⟨_, _, by rw [hal]; exact Array.getElem?_eq_getElem hix, by rw [hal]; exact Array.getElem?_eq_getElem hiy, up _ _ (Nat.ne_of_gt hSl) ht⟩
      · have hnone : (as ++ [h.objs.size])[j]? = none := List.getElem?_eq_none (by rw [List.length_append, List.length_singleton]; omega)
        rw [hnone] at hj; cases hj
theorem zip_no_len : typeLookup (.type "zip") "__len__" = pure none := by rw [typeLookup_type, builtinLookup_eq_fast]; kernel_rfl
theorem zip_no_hint : typeLookup (.type "zip") "__length_hint__" = pure none := by rw [typeLookup_type, builtinLookup_eq_fast]; kernel_rfl
theorem zl_extend {S : Addr} (hh : A.handled = none) (D : ZipApart z TI TO i1 i2 l1 l2) (O : ZlOff z TI TO i1 i2 l1 l2 S) (hn : min xs.size ys.size ≤ sizeLine) (res : Value) (c₀ : Nat) (hst : ZlSt s.heap z TI TO i1 i2 l1 l2 S xs ys 0) (hz : IsZip s.heap z TI TO .none) (hS : s.heap.get? S = some { cls := .type "list", data := .seq #[] c₀ })
    (hR : ∀ h' tk acc c as, (∀ b o, b ≠ S → b ≠ z → b ≠ TO → b ≠ i1 → b ≠ i2 → s.heap.get? b = some o → h'.get? b = some o) → h'.get? S = some { cls := .type "list", dict := none, data := .seq acc c, slots := #[] } → as.length = min xs.size ys.size → ZlG xs ys S h' as →
      acc.toList = as.map Value.ref → R (.ok (.ret res)) { s with heap := h', toks := tk }) :
    wpAny (model prog w) A.in1 (Builtin.List.listExtendWith (.ref S) (.ref z) res)
      (fun fin s' => match fin with | .done f => R (.ok f) s' | .again c' => c'.quiet = true ∧ codeAny (model prog w) A c' R s') (fun e s' => R (.error e) s') s := by
  have hTy : s.TypeIs (.ref z) "zip" := ⟨_, hz, rfl⟩
  have hSr : S ≠ z := Nat.ne_of_gt O.a1
  unfold Builtin.List.listExtendWith
  refine wpAny_bind (wpAny_typeOf (T := "zip") hTy ?_)
  have h1 : Builtin.List.listSameRef (.ref S) (.ref z) = false := by simp [Builtin.List.listSameRef, hSr]
  have h2 : (Value.type "zip" == Value.type "list") = false := by decide
  have h3 : (Value.type "zip" == Value.type "tuple") = false := by decide
  simp only [h1, h2, h3, Bool.or_false, Bool.false_eq_true, if_false]
  refine wpAny_bind (wpAny_pyIter_zip hz ?_)
  refine wpAny_bind (wpAny_holding ?_)
  unfold Builtin.List.listLengthHint
  refine wpAny_bind (wpAny_specialOf hTy zip_no_len ?_)
  show wpAny _ A.in1 (specialOf (Value.ref z) (Str.ofString "__length_hint__") >>= _) _ _ _
  refine wpAny_bind (wpAny_specialOf hTy zip_no_hint ?_)
  refine wpAny_pure ?_
  show wpAny _ A.in1 (rule "list.extend.makes-room" >>= fun _ => Builtin.List.listTouch (.ref S) >>= fun _ =>
    again (.builtin "list.extend.loop" ⟨[.ref S, .ref z, res], []⟩)) _ _ _
  refine wpAny_bind (wpAny_rule ?_)
  refine wpAny_bind ?_
  show wpAny _ A.in1 (updateSeq S (·.push .none) >>= fun _ => updateSeq S (·.pop)) _ _ _
  refine wpAny_bind (wpAny_updateSeq hS rfl ?_)
  have hS₂ := Heap.get?_update_self (Obj.mapSeq (·.push Value.none)) hS rfl
  refine wpAny_updateSeq (hz := by seq_fits) hS₂ rfl ?_
  have hS₃ := Heap.get?_update_self (Obj.mapSeq (·.pop)) hS₂ rfl
  have oth : ∀ b o, b ≠ S → s.heap.get? b = some o → ((s.heap.update S (Obj.mapSeq (·.push Value.none))).update S (Obj.mapSeq (·.pop))).get? b = some o :=
    fun b o hb e => (Heap.get?_update_other _ _ (Ne.symm hb)).trans ((Heap.get?_update_other _ _ (Ne.symm hb)).trans e)
  refine wpAny_pure ⟨plainId_quiet PySem.F.plain_extend_loop _, ?_⟩
  exact zl_loop (s := s) (h₁ := s.heap) hh D O hn res hR _ 0 _ _ _ #[] [] rfl (Nat.zero_le _) (hst.keep oth (Nat.ne_of_lt O.a1) (Nat.ne_of_lt O.a2) (Nat.ne_of_lt O.a3) (Nat.ne_of_lt O.a4) (Nat.ne_of_lt O.a5) (Nat.ne_of_lt O.a6) (Nat.ne_of_lt O.a7)) (fun b o b1 _ _ _ _ e => oth b o b1 e) hS₃ rfl rfl ⟨List.Pairwise.nil, (fun _ ha => nomatch ha), fun j a hj => by simp at hj⟩
theorem zl_init {S : Addr} (hh : A.handled = none) (D : ZipApart z TI TO i1 i2 l1 l2) (O : ZlOff z TI TO i1 i2 l1 l2 S) (hn : min xs.size ys.size ≤ sizeLine) (hst : ZlSt s.heap z TI TO i1 i2 l1 l2 S xs ys 0) (hz : IsZip s.heap z TI TO .none) (hS : s.heap.get? S = some { cls := .type "list", data := .seq #[] })
    (hR : ∀ h' tk acc c as, (∀ b o, b ≠ S → b ≠ z → b ≠ TO → b ≠ i1 → b ≠ i2 → s.heap.get? b = some o → h'.get? b = some o) → h'.get? S = some { cls := .type "list", dict := none, data := .seq acc c, slots := #[] } → as.length = min xs.size ys.size → ZlG xs ys S h' as →
      acc.toList = as.map Value.ref → R (.ok (.ret .none)) { s with heap := h', toks := tk }) :
    wpAny (model prog w) A.in1 (Builtin.«list.__init__» ⟨[.ref S, .ref z], []⟩)
      (fun fin s' => match fin with | .done f => R (.ok f) s' | .again c' => c'.quiet = true ∧ codeAny (model prog w) A c' R s') (fun e s' => R (.error e) s') s := by
  show wpAny _ _ (do let old ← Builtin.List.listItems (.ref S); Builtin.List.listUpdate (.ref S) (fun _ => #[]); letGo old.toList.reverse; Builtin.List.listExtendWith (.ref S) (.ref z) .none) _ _ s
  refine wpAny_bind ?_
  unfold Builtin.List.listItems
  refine wpAny_bind (wpAny_seqItems hS rfl (wpAny_pure ?_))
  show wpAny _ _ (updateSeq S (fun _ => #[]) >>= fun _ => letGo (#[] : Array Value).toList.reverse >>= fun _ => Builtin.List.listExtendWith (.ref S) (.ref z) .none) _ _ s
  refine wpAny_bind (wpAny_updateSeq hS rfl ?_)
  have hS₂ := Heap.get?_update_self (Obj.mapSeq (fun _ => (#[] : Array Value))) hS rfl
  have oth : ∀ b o, b ≠ S → s.heap.get? b = some o → (s.heap.update S (Obj.mapSeq (fun _ => (#[] : Array Value)))).get? b = some o :=
    fun b o hb e => (Heap.get?_update_other _ _ (Ne.symm hb)).trans e
  refine wpAny_bind (wpAny_letGo ?_)
  refine zl_extend (xs := xs) (ys := ys) hh D O hn .none _ (hst.keep oth (Nat.ne_of_lt O.a1) (Nat.ne_of_lt O.a2) (Nat.ne_of_lt O.a3) (Nat.ne_of_lt O.a4) (Nat.ne_of_lt O.a5) (Nat.ne_of_lt O.a6) (Nat.ne_of_lt O.a7)) (oth _ _ (Nat.ne_of_lt O.a1) hz) hS₂ fun h' tk acc c as hk hS' hl hG hacc => ?_
  exact hR h' tk acc c as (fun b o b1 b2 b3 b4 b5 e => hk b o b1 b2 b3 b4 b5 (oth b o b1 e)) hS' hl hG hacc
theorem zl_call {E : Value → Shared → Prop} {Q : Value → Shared → Prop} (hh : A.handled = none) (D : ZipApart z TI TO i1 i2 l1 l2) (O : ZlOff z TI TO i1 i2 l1 l2 s.heap.objs.size) (hn : min xs.size ys.size ≤ sizeLine) (hst : ZlSt s.heap z TI TO i1 i2 l1 l2 s.heap.objs.size xs ys 0) (hz : IsZip s.heap z TI TO .none)
    (hQ : ∀ h' tk acc c as, (∀ b o, b ≠ z → b ≠ TO → b ≠ i1 → b ≠ i2 → s.heap.get? b = some o → h'.get? b = some o) → h'.get? s.heap.objs.size = some { cls := .type "list", dict := none, data := .seq acc c, slots := #[] } → as.length = min xs.size ys.size → ZlG xs ys s.heap.objs.size h' as →
      acc.toList = as.map Value.ref → Q (.ref s.heap.objs.size) { s with heap := h', toks := tk }) :
    wpAny (model prog w) A (call (.type "list") [.ref z]) Q E s := by
  refine callType_codes (Q₁ := fun obj s₁ => obj = .ref s.heap.objs.size ∧ s₁ = { s with heap := s.heap.push { cls := .type "list", data := .seq #[] } }) PySem.F.called_list (PySem.F.typeCall_list_1 _) PySem.F.entry_list_init
    (code_list_new _ ⟨rfl, rfl⟩) fun obj s₁ h₁ => ?_
  obtain ⟨rfl, rfl⟩ := h₁
  have hS : (s.heap.push { cls := .type "list", data := .seq #[] }).get? s.heap.objs.size = some { cls := .type "list", data := .seq #[] } := Heap.get?_push_size _ rfl
  have up : ∀ b o, s.heap.get? b = some o → (s.heap.push { cls := .type "list", data := .seq #[] }).get? b = some o := fun b o e => Heap.get?_push_of_some _ e
  refine ⟨⟨_, hS, rfl⟩, PySem.F.args_list_init_2 _ _, zl_init (xs := xs) (ys := ys) (A := A.in1) hh D O hn (hst.keep (fun b o _ e => up b o e) (Nat.ne_of_lt O.a1) (Nat.ne_of_lt O.a2) (Nat.ne_of_lt O.a3) (Nat.ne_of_lt O.a4) (Nat.ne_of_lt O.a5) (Nat.ne_of_lt O.a6) (Nat.ne_of_lt O.a7)) (up _ _ hz) hS fun h' tk acc c as hk hS' hl hG hacc => ?_⟩
  exact ⟨rfl, hQ h' tk acc c as (fun b o b2 b3 b4 b5 e => hk b o (Nat.ne_of_lt (Heap.lt_size e)) b2 b3 b4 b5 (up b o e)) hS' hl hG hacc⟩
end
end Own

namespace Own
open PySem PySem.Spec PyProof.Rows L2 Evl
/-! ### list(zip(xs, ys)) in the hand's words -/
/-- new pairs at their addresses -/
def putP : Hp → List Addr → List (V × V) → Hp
  | H, a :: as, p :: ps => putP (upd H a (.tup [p.1, p.2])) as ps
  | H, _, _ => H
theorem putP_off {b : Addr} : ∀ (as : List Addr) (ps : List (V × V)) (H : Hp), b ∉ as → putP H as ps b = H b
  | [], _, _, _ => rfl
  | _ :: _, [], _, _ => rfl
  | a :: as, p :: ps, H, h => by
    show putP (upd H a (.tup [p.1, p.2])) as ps b = H b
    rw [putP_off as ps _ (fun z => h (List.mem_cons_of_mem _ z)), upd_ne (fun z => h (by rw [z]; exact List.mem_cons_self))]
abbrev PrAt (H : Hp) (t : Addr) (p : V × V) : Prop := H t = some (.tup [p.1, p.2])
theorem putP_at : ∀ (as : List Addr) (ps : List (V × V)) (H : Hp), as.length = ps.length → as.Nodup → Paired (PrAt (putP H as ps)) as ps
  | [], [], _, _, _ => .nil
  | [], _ :: _, _, h, _ => by cases h
  | _ :: _, [], _, h, _ => by cases h
  | a :: as, p :: ps, H, h, hn => by
    have hn' := List.nodup_cons.mp hn
    have ih := putP_at as ps (upd H a (.tup [p.1, p.2])) (Nat.succ.inj h) hn'.2
    refine .cons ?_ ih
    show putP (upd H a (.tup [p.1, p.2])) as ps a = some (.tup [p.1, p.2])
    rw [putP_off as ps _ hn'.1, upd_same]
def rLZ (K : PySem.W.Frag) : List V → Hp → VK → Prop := fun vs H1 Q => ∃ (a b : Addr) (xs ys : List V), vs = [.ref a, .ref b] ∧ SqL K H1 a xs ∧ SqL K H1 b ys ∧ xs.length ≤ 100000 ∧
  ∀ (H' : Hp) (p : Addr) (ts : List Addr), Ex H1 H' → H1 p = none → (∀ t ∈ ts, H1 t = none) → p ∉ ts → H' p = some (.lst (ts.map V.ref)) → Paired (PrAt H') ts (xs.zip ys) → Q (.ref p) H'
def tLZ (K : PySem.W.Frag) (ta : TA) : TE := fun σ H Q => ta σ H fun vs H1 => rLZ K vs H1 Q
section
variable {X : Cx}
theorem vals_ix {xs : List V} {us : List Value} (r : Vals xs us) : ∀ {i : Nat} {x : V} {u : Value}, xs[i]? = some x → us[i]? = some u → RelV x u := by
  induction r with
  | nil => intro i x u h _; cases h
  | cons r1 _ ih =>
    intro i x u h1 h2
    cases i with
    | zero =>
      cases h1
      cases h2
      exact r1
    | succ i => exact ih (i := i) h1 h2
theorem zl_laid {pins : List (Addr × Obj)} {σ : L2.St} {H : Hp} {s : Shared} {h' : Heap} {tk : Nat} {xs ys : List V} {us vs : List Value} {acc : Array Value} {c : Nat} {as : List Addr} {S : Addr} (I : Inv X pins σ H s) (hz : xs.length ≤ sizeLine) (rx : Vals xs us) (ry : Vals ys vs)
    (hk : ∀ b o, s.heap.get? b = some o → h'.get? b = some o) (hlo : s.heap.objs.size ≤ S) (hS : h'.get? S = some { cls := .type "list", dict := none, data := .seq acc c, slots := #[] }) (hl : as.length = min us.length vs.length) (hG : ZlG us.toArray vs.toArray S h' as) (hacc : acc.toList = as.map Value.ref) :
    ∃ H' : Hp, Ex H H' ∧ H S = none ∧ (∀ t ∈ as, H t = none) ∧ S ∉ as ∧ H' S = some (.lst (as.map V.ref)) ∧ Paired (PrAt H') as (xs.zip ys) ∧ Inv X pins σ H' { s with heap := h', toks := tk } := by
  have l1 := rx.length
  have l2 := ry.length
  have nS : S ∉ as := fun z => Nat.lt_irrefl _ (hG.above _ z)
  have nd : as.Nodup := List.Pairwise.imp (fun {a b} (h : a < b) => Nat.ne_of_lt h) hG.rise
  have new : ∀ t ∈ as, H t = none := fun t ht => I.hok.fresh (Nat.le_of_lt (Nat.lt_of_le_of_lt hlo (hG.above t ht)))
  have newS : H S = none := I.hok.fresh hlo
  generalize hH : putP (upd H S (.lst (as.map V.ref))) as (xs.zip ys) = H'
  have atP : Paired (PrAt H') as (xs.zip ys) := by
    rw [← hH]
    exact putP_at as (xs.zip ys) (upd H S (.lst (as.map V.ref))) (by rw [List.length_zip, hl, l1, l2]) nd
  have off : ∀ b, b ∉ as → b ≠ S → H' b = H b := fun b h1 h2 => by rw [← hH, putP_off as _ _ h1, upd_ne h2]
  have low : ∀ b o, s.heap.get? b = some o → b ∉ as ∧ b ≠ S := fun b o e =>
    ⟨fun z => absurd (Heap.lt_size e) (Nat.not_lt.mpr (Nat.le_trans hlo (Nat.le_of_lt (hG.above b z)))), fun z => absurd (Heap.lt_size e) (Nat.not_lt.mpr (by rw [z]; exact hlo))⟩
  have kp : ∀ b u, H b = some u → H' b = some u := fun b u e => by
    rw [off b (fun z => by rw [new b z] at e; cases e) (fun z => by rw [z, newS] at e; cases e)]
    exact e
  have eS : H' S = some (.lst (as.map V.ref)) := by rw [← hH, putP_off as _ _ nS, upd_same]
  refine ⟨H', kp, newS, new, nS, eS, atP, ?_⟩
  refine I.call' (ch := []) rfl ⟨fun b o q _ _ _ => hk b o q, fun b o q _ _ _ => ⟨o.slots, hk b o q⟩, fun b o q n _ => ?_, fun b o q _ => ⟨o, hk b o q⟩, fun b xs q => kp b _ q, fun b o u q => kp b _ q, fun b ps q => ⟨#[], by rw [kp b _ q]; simp⟩⟩ (fun b u q => ?_) I.bare fun b z => by simp at z
  · obtain ⟨z1, z2⟩ := low b o q
    rw [off b z1 z2]
    exact n
  · by_cases hb : b ∈ as
    · obtain ⟨j, pk, e1, e2, e3⟩ := LiI.paired_ix atP hb
      have e3 : H' b = some (.tup [pk.1, pk.2]) := e3
      rw [e3] at q
      cases q
      obtain ⟨x, y, f1, f2, f3⟩ := hG.pairs j b e1
      obtain ⟨g1, g2⟩ := List.getElem?_zip_eq_some.mp e2
      have f1 : us[j]? = some x := by simpa using f1
      have f2 : vs[j]? = some y := by simpa using f2
      exact ⟨by show 2 ≤ sizeLine; decide, [x, y], .cons (vals_ix rx g1 f1) (.cons (vals_ix ry g2 f2) .nil), ⟨_, f3, rfl, _, rfl⟩⟩
    · by_cases hb2 : b = S
      · rw [hb2] at q ⊢
        rw [eS] at q
        cases q
        refine ⟨by rw [List.length_map, hl]; omega, acc.toList, c, by rw [hacc]; exact LiI.vals_refs as, ?_⟩
        rw [Array.toArray_toList]
        exact hS
      · rw [off b hb hb2] at q
        exact (I.hok b u q).stay (fun d v _ y => hk d v y) (fun d y => kp d _ y) fun d xs y => kp d _ y
theorem pe_listZip {a b : Expr} {ta : TA} {p p2 q pos : Pos} (hg : Gl X "list") (hm : X.mg "list" = none) (hg2 : Gl X "zip") (hm2 : X.mg "zip" = none) (ha : PA X [a, b] ta) (hc : X.calm = true := by rfl)
    (na : starEach [a, b] X.env = (false, eval a X.env) :: starEach [b] X.env := by rfl) (nb : (backTo q (starEach [b] X.env)).any (·.1) = false := by rfl)
    (nz : starEach [Expr.Call (.Name "zip" p2) [a, b] [] q] X.env = (false, eval (.Call (.Name "zip" p2) [a, b] [] q) X.env) :: starEach [] X.env := by rfl) :
    PE X (.Call (.Name "list" p) [.Call (.Name "zip" p2) [a, b] [] q] [] pos) (tLZ X.K ta) := by
  refine ⟨fun pk s σ H Q I h => ?_⟩
  refine Call_ (ld_blt I hg hm boot_list ?_)
  refine PyProof.Rows.callWith_type1 (PyProof.Rows.args_cons ?_ nz) nz rfl
  refine Call_ (ld_blt I hg2 hm2 PyProof.Rows.boot_zip (PyProof.Rows.callWith_type1 (thn (ha.run q pk s σ H _ I h) fun us s1 ⟨vs, H1, I1, r1, q1⟩ => ?_) na nb))
  obtain ⟨l1, l2, xs, ys, rfl, h1, h2, small, q1⟩ := q1
  cases r1 with
  | cons r rr =>
    cases rr with
    | cons r' rr =>
      cases rr
      cases r
      cases r'
      obtain ⟨us1, rv1, p1, _⟩ := I1.list h1
      obtain ⟨us2, rv2, p2', _⟩ := I1.list h2
      have len1 : us1.length = xs.length := by rw [← rv1.length]
      have len2 : us2.length = ys.length := by rw [← rv2.length]
      refine call_zip_2 p1.isList p2'.isList fun h' hz hTI hTO hi1 hi2 hsz hk => ?_
      refine PyProof.Rows.args_nil ?_
      have D := PySem.W.ktu_apart s1.heap.objs.size l1 l2 p1.lt p2'.lt
      have il1 : h'.IsList l1 us1.toArray := by
        obtain ⟨o, ho, r⟩ := p1.isList
        exact ⟨o, hk _ _ ho, r⟩
      have il2 : h'.IsList l2 us2.toArray := by
        obtain ⟨o, ho, r⟩ := p2'.isList
        exact ⟨o, hk _ _ ho, r⟩
      have lt1 := p1.lt
      have lt2 := p2'.lt
      have O : ZlOff (s1.heap.objs.size + 4) (s1.heap.objs.size + 2) (s1.heap.objs.size + 3) s1.heap.objs.size (s1.heap.objs.size + 1) l1 l2 h'.objs.size := by
        rw [hsz]
        exact ⟨Nat.lt_succ_self _, Nat.add_lt_add_left (by decide) _, Nat.add_lt_add_left (by decide) _, Nat.lt_add_of_pos_right (by decide), Nat.add_lt_add_left (by decide) _, Nat.lt_of_lt_of_le lt1 (Nat.le_add_right _ _), Nat.lt_of_lt_of_le lt2 (Nat.le_add_right _ _)⟩
      refine zl_call (s := { s1 with heap := h' }) (xs := us1.toArray) (ys := us2.toArray) (I1.ok.hd hc) D O (by rw [List.size_toArray, List.size_toArray, len1, sizeLine_eq]; omega) ⟨.inl ⟨rfl, hz⟩, hTI, ⟨_, _, hTO⟩, hi1, hi2, il1, il2⟩ hz fun h'' tk acc c as hk2 hS hl hG hacc => ?_
      have kk : ∀ c o, s1.heap.get? c = some o → h''.get? c = some o := fun c o e => by
        have lt := Heap.lt_size e
        exact hk2 c o (Nat.ne_of_lt (Nat.lt_of_lt_of_le lt (Nat.le_add_right _ _))) (Nat.ne_of_lt (Nat.lt_of_lt_of_le lt (Nat.le_add_right _ _))) (Nat.ne_of_lt lt) (Nat.ne_of_lt (Nat.lt_of_lt_of_le lt (Nat.le_add_right _ _))) (hk c o e)
      rw [List.size_toArray, List.size_toArray] at hl
      obtain ⟨H', k1, k2, k3, k4, k5, k6, J⟩ := zl_laid (tk := tk) I1 (by rw [sizeLine_eq]; omega) rv1 rv2 kk (by rw [hsz]; exact Nat.le_add_right _ _) hS hl hG hacc
      exact ⟨.ref _, H', J, rfl, q1 H' _ as k1 k2 k3 k4 k5 k6⟩
end
end Own

namespace Own
open PySem PySem.Spec PyProof.Rows L2 Evl
/-! ### C(k = v, ..) with guards known; x & y by an own __and__ -/
structure MakK (P : Program) (w : World) (K : PySem.W.Frag) (mg : Str → Option Value) (base : Heap) (k : Nat) (x : Str) (C : Addr) (ks : List Str) (sp : Sp) : Prop where
  at_ : mg x = some (.ref C)
  ex : ∃ (f : Addr) (fd : FuncData) (ps : List Str), FnG P w K mg base k f fd ps sp ∧ Mk K C f ∧ KBn K fd ps 1 ks (fun us ws => us ++ ws) (fun vs zs => vs ++ zs)
theorem Fun.kbs {K : PySem.W.Frag} {x qual : Str} {st : Stmt} {f : Addr} {fd : FuncData} {ps ks : List Str} (F : Fun K x qual st f fd)
    (h : ∀ (kV doc pm : Value) (an : Option Addr) (cdv ct u : Value) (ws : List Value), ws.length = ks.length → bindArgs (PySem.W.fnOf x qual (defArgs st) (defBody st) (defScope st) .none kV doc pm an cdv ct) ⟨[u], ks.zip ws⟩ = pure (ps.zip (u :: ws))) :
    KBn K fd ps 1 ks (fun us ws => us ++ ws) (fun vs zs => vs ++ zs) := by
  obtain ⟨oc, od, kV, doc, pm, an, cdv, ct, osl, rfl, lk, hcd⟩ := F.ex
  refine ⟨fun s us ws _ l1 l2 => BindsTo.of_looks fun M => ?_, fun r1 r2 => r1.append r2⟩
  match us, l1 with
  | [u], _ => exact PySem.W.Looks.of_pure (h kV doc pm an cdv ct u ws l2)
section
variable {X : Cx} {pk : List (Addr × Obj)} {τ : L2.St} {H : Hp} {s : Shared} {k j : Nat} {sp : Sp} {f C : Addr} {fd : FuncData} {ps ks : List Str} {Z : VK} {ws : List Value} {zs : List V} {x m : Str} {p pos apos : Pos} {kws : List Keyword} {t : TA} {ta : TE}
def tMkK (C : Addr) (n : Nat) (sp : Sp) (t : TA) : TE := fun σ H Q => t σ H fun zs H1 => zs.length = n ∧ ∀ y d, H1 y = none → H1 d = none → d ≠ y → sp (.ref y :: zs) (upd (upd H1 d (.own y)) y (.ins C d [])) (fun v H2 => v = .non ∧ Q (.ref y) H2) E0
theorem run_mkK (M : Mk X.K C f) (F : FnG X.prog X.w X.K X.mg X.base k f fd ps sp) (hr : Room (k + 1) X.A) (hg : X.A.guards = some []) (hbd : KBn X.K fd ps 1 ks (fun us ws => us ++ ws) (fun vs zs => vs ++ zs)) (I : Inv X pk τ H s) (r : Vals zs ws) (hl : zs.length = ks.length)
    (h : ∀ y d, H y = none → H d = none → d ≠ y → sp (.ref y :: zs) (upd (upd H d (.own y)) y (.ins C d [])) (fun v H2 => v = .non ∧ Z (.ref y) H2) E0) : wpAny (model X.prog X.w) X.A (call (.ref C) [] (ks.zip ws)) (EP X pk τ Z) X.xe s := by
  have q0 := h (s.heap.objs.size + 1) s.heap.objs.size (I.hok.fresh (Nat.le_succ _)) (I.hok.fresh (Nat.le_refl _)) (Nat.ne_of_lt (Nat.lt_succ_self _))
  have J := Inv.made (C := C) I
  have rr : Vals (V.ref (s.heap.objs.size + 1) :: zs) (Value.ref (s.heap.objs.size + 1) :: ws) := .cons rfl r
  have hb := hbd.to _ [Value.ref (s.heap.objs.size + 1)] ws J.kIn rfl (r.length.symm.trans hl)
  have run := F.run (X.A.under (.builtin "type.__call__" ⟨.ref C :: [], ks.zip ws⟩)) X.stack _ _ ⟨[Value.ref (s.heap.objs.size + 1)], ks.zip ws⟩ _ _ _ E0 (hr.make C [] (ks.zip ws)) hg (J.env0.make C [] (ks.zip ws)) hb rr q0
  refine wpAny_call (make_map (f := f) I.kIn M.makes M.init (beq_iff_eq.mp M.fn) (codeAny_mono run fun res s' hsq => ?_))
  match res, hsq with
  | .error _, hsq => exact (show False from hsq).elim
  | .ok (.ret u), hsq =>
    obtain ⟨v, H4, J4, rv, ev, q4⟩ := J.after hsq
    subst ev
    exact ⟨rv, ⟨V.ref (s.heap.objs.size + 1), H4, J4, rfl, q4⟩⟩
  | .ok .next, hsq => exact False.elim hsq
  | .ok .brk, hsq => exact False.elim hsq
  | .ok .cont, hsq => exact False.elim hsq
theorem pe_mkK (c : MakK X.prog X.w X.K X.mg X.base k x C ks sp) (hr : Room j X.A) (hg0 : X.A.guards = some []) (hkp : k + 1 ≤ j) (hg : Gl X x) (hkw : PK X kws t)
    (hall : (backToKw pos (keywordEach kws X.env)).all (·.1.isSome) = true := by rfl) (hks : (backToKw pos (keywordEach kws X.env)).filterMap (·.1) = ks := by rfl) (hdb : (x == ("__debug__" : Str)) = false := by decide)
    (hpl : ((backTo pos (starEach [] X.env)).any (·.1) || (backToKw pos (keywordEach kws X.env)).any (·.1.isNone)) = false := by rfl) :
    PE X (.Call (.Name x p) [] kws pos) (tMkK C ks.length sp t) := by
  obtain ⟨f, fd, ps, F, M, b⟩ := c.ex
  refine ⟨fun pk s τ H Z I h => ?_⟩
  refine wpAny_Call_Name_kw (ld_glob I hg c.at_ ?_ hdb)
  refine PySem.W.callWith_KW0 (h₀ := X.base) I.ok.mod.kin M.kp hall (thn (hkw.run pos pk s τ H _ I h) fun ws s2 ⟨zs, H2, I2, rz, l1, q2⟩ => ⟨I2.kIn, ?_⟩) hpl
  rw [hks]
  exact run_mkK M F (hr.mono hkp) hg0 b I2 rz l1 q2
end
def tAndG (C : Addr) (sp : Sp) (ta tb : TE) : TE := fun σ H Q => ta σ H fun x H1 => tb σ H1 fun y H2 => ∃ a d fs a' d' fs', x = .ref a ∧ H2 a = some (.ins C d fs) ∧ y = .ref a' ∧ H2 a' = some (.ins C d' fs') ∧ sp [.ref a, .ref a'] H2 (fun v H' => (∃ r, v = .ref r) ∧ Q v H') E0
section
variable {X : Cx} {j k : Nat} {sp : Sp} {C : Addr} {pos : Pos} {a b : Expr} {ta tb : TE}
theorem pe_andG (c : MetG X.prog X.w X.K X.mg X.base k C "__and__" sp) (sf : PySem.W.selfFirst X.K C = true) (hr : Room j X.A) (hg0 : X.A.guards = some []) (hkp : k ≤ j) (ha : PE X a ta) (hb : PE X b tb) : PE X (.BinOp a .BitAnd b pos) (tAndG C sp ta tb) := by
  obtain ⟨f, fd, ps, F, M, bd⟩ := c.ex
  refine ⟨fun pins s σ H Q I h => ?_⟩
  refine wpAny_BinOp (binT ha hb I h fun v u s2 x y H2 I2 rx ry q => ?_)
  obtain ⟨a, d, fs, a', d', fs', rfl, hA, rfl, hA', q⟩ := q
  cases rx
  cases ry
  obtain ⟨mA, J, _⟩ := ins_get I2.hok hA
  obtain ⟨od, J, _⟩ := J.look
  obtain ⟨mA', J', _⟩ := ins_get I2.hok hA'
  obtain ⟨od', J', _⟩ := J'.look
  obtain ⟨m, hF⟩ := I2.fr
  refine PySem.W.binop_K (op := .BitAnd) hF I2.ok.mod.kin J J'.type sf M.at_ M.fn ?_
  refine wpAny_mono (run_fnG (us := [.ref a, .ref a']) (vs := [.ref a, .ref a']) F (hr.mono hkp) hg0 bd I2 (.cons rfl (.cons rfl .nil)) q) (fun w s' z => ?_) (fun _ _ e => e)
  obtain ⟨z, H', I', rz, ⟨r, er⟩, q'⟩ := z
  subst er
  cases rz
  exact ⟨.ref r, H', I', rfl, q'⟩
end
end Own

namespace Own
open PySem PySem.Spec PyProof.Rows L2 Evl
/-! ### dict(zip(texts, values)) -/
/-- the pairs of a list of texts and a list of values -/
def zkvV (zs : List Str) (ws : List V) : List (Key × V) := (zs.zip ws).map fun p => (Sum.inr p.1, p.2)
def tDZV (K : PySem.W.Frag) (ta : TA) : TE := fun σ H Q => ta σ H fun vs H1 => ∃ (a b : Addr) (zs : List Str) (ws : List V), vs = [.ref a, .ref b] ∧ SqL K H1 a (zs.map V.str) ∧ SqL K H1 b ws ∧ zs.Nodup ∧ zs.length = ws.length ∧ zs.length ≤ 4000 ∧
  ∀ d, H1 d = none → Q (.ref d) (upd H1 d (.dK (zkvV zs ws)))
theorem kv_zipV : ∀ {zs : List Str} {ws : List V} {us : List Value}, Vals ws us → KV (zkvV zs ws) ((zs.zip us).map fun p => ((Sum.inr p.1 : Key), p.2))
  | [], _, _, _ => .nil
  | _ :: _, [], _, r => by
    cases r
    exact .nil
  | z :: zs, w :: ws, _, r => by
    cases r with
    | cons r1 r2 => exact .cons ⟨rfl, r1⟩ (kv_zipV r2)
section
variable {X : Cx}
theorem pe_dictZipV {a b : Expr} {ta : TA} {p p2 q pos : Pos} (hg : Gl X "dict") (hm : X.mg "dict" = none) (hg2 : Gl X "zip") (hm2 : X.mg "zip" = none) (ha : PA X [a, b] ta) (hc : X.calm = true := by rfl)
    (na : starEach [a, b] X.env = (false, eval a X.env) :: starEach [b] X.env := by rfl) (nb : (backTo q (starEach [b] X.env)).any (·.1) = false := by rfl)
    (nz : starEach [Expr.Call (.Name "zip" p2) [a, b] [] q] X.env = (false, eval (.Call (.Name "zip" p2) [a, b] [] q) X.env) :: starEach [] X.env := by rfl) :
    PE X (.Call (.Name "dict" p) [.Call (.Name "zip" p2) [a, b] [] q] [] pos) (tDZV X.K ta) := by
  refine ⟨fun pk s σ H Q I h => ?_⟩
  refine Call_ (ld_blt I hg hm PyProof.Rows.boot_dict ?_)
  refine PyProof.Rows.callWith_type1 (PyProof.Rows.args_cons ?_ nz) nz rfl
  refine Call_ (ld_blt I hg2 hm2 PyProof.Rows.boot_zip (PyProof.Rows.callWith_type1 (thn (ha.run q pk s σ H _ I h) fun us s1 ⟨vs, H1, I1, r1, q1⟩ => ?_) na nb))
  obtain ⟨l1, l2, zs, ws, rfl, h1, h2, nd, hl, small, q1⟩ := q1
  cases r1 with
  | cons r rr =>
    cases rr with
    | cons r' rr =>
      cases rr
      cases r
      cases r'
      obtain ⟨us1, rv1, p1, _⟩ := I1.list h1
      obtain ⟨us2, rv2, p2', _⟩ := I1.list h2
      have len1 : us1.length = zs.length := by rw [← rv1.length, List.length_map]
      have len2 : us2.length = ws.length := by rw [← rv2.length]
      refine call_zip_2 p1.isList p2'.isList fun h' hz hTI hTO hi1 hi2 hsz hk => ?_
      refine PyProof.Rows.args_nil ?_
      have D := PySem.W.ktu_apart s1.heap.objs.size l1 l2 p1.lt p2'.lt
      have have_ : PairsHave (mixKind X.prog X.w) (min us1.toArray.size us2.toArray.size) (fun i k v => us1.toArray[i]? = some k ∧ us2.toArray[i]? = some v) ((zs.zip us2).map fun p => ((Sum.inr p.1 : Key), p.2)) := by
        refine ⟨by rw [List.length_map, List.length_zip, List.size_toArray, List.size_toArray, len1], fun i key v hkv => ?_⟩
        obtain ⟨k1, k2⟩ := hkv
        have k1 : us1[i]? = some key := by simpa using k1
        have k2 : us2[i]? = some v := by simpa using k2
        obtain ⟨z, t, hz, rfl⟩ := str_get rv1 k1
        refine ⟨Sum.inr z, ?_, Froz.is_str (P := X.prog) (w := X.w) z t⟩
        rw [List.getElem?_map, show (zs.zip us2)[i]? = some (z, v) from List.getElem?_zip_eq_some.mpr ⟨hz, k2⟩]
        rfl
      have il1 : h'.IsList l1 us1.toArray := by
        obtain ⟨o, ho, r⟩ := p1.isList
        exact ⟨o, hk _ _ ho, r⟩
      have il2 : h'.IsList l2 us2.toArray := by
        obtain ⟨o, ho, r⟩ := p2'.isList
        exact ⟨o, hk _ _ ho, r⟩
      refine call_dict_pairs (s := { s1 with heap := h' }) (PairArg.zip _ _ _ _ _ l1 l2 D us1.toArray us2.toArray) (I1.ok.hd hc) ⟨hz, hTI, ⟨_, _, hTO⟩, hi1, hi2, il1, il2⟩ have_ (by rw [List.size_toArray, len1, sizeLine_eq]; omega) fun h'' tk hd hk2 => ?_
      have ndk : (([] ++ (zs.zip us2).map fun p : Str × Value => ((Sum.inr p.1 : Key), p.2)).map Prod.fst).Nodup := by
        rw [List.nil_append, List.map_map]
        have e : (zs.zip us2).map (Prod.fst ∘ fun p : Str × Value => ((Sum.inr p.1 : Key), p.2)) = ((zs.zip us2).map Prod.fst).map Sum.inr := by
          rw [List.map_map]
          rfl
        rw [e, List.map_fst_zip (by omega)]
        exact List.pairwise_map.mpr (nd.imp fun {x y} hne e => hne (Sum.inr.inj e))
      rw [merged_new _ _ ndk, List.nil_append] at hd
      have big := I1.big
      have le : s1.heap.objs.size ≤ h'.objs.size := by omega
      have kk : ∀ c o, s1.heap.get? c = some o → h''.get? c = some o := fun c o e => by
        have lt := Heap.lt_size e
        refine hk2 c o (fun hm => ?_) (hk c o e)
        simp only [List.mem_cons, List.not_mem_nil, or_false] at hm
        rcases hm with e1 | e1 | e1 | e1 <;> (have z : s1.heap.objs.size ≤ c := by rw [e1]; first | exact Nat.le_add_right _ _ | exact Nat.le_refl _) <;> exact absurd lt (Nat.not_lt_of_le z)
      have hlen : (zkvV zs ws).length ≤ sizeLine := by
        unfold zkvV
        rw [List.length_map, List.length_zip, sizeLine_eq]
        omega
      exact ⟨.ref _, _, I1.laid (a := h'.objs.size) (o := .dK (zkvV zs ws)) (t' := tk) kk le ⟨hlen, beq_eq_false_iff_ne.mpr (Nat.ne_of_gt (Nat.lt_of_lt_of_le big le)), _, kv_zipV rv2, hd⟩, rfl, q1 _ (I1.hok.fresh le)⟩
end

/-! ### C(k = v, ..) by an __init__ that may raise -/
structure MakKN (P : Program) (w : World) (K : PySem.W.Frag) (mg : Str → Option Value) (base : Heap) (k : Nat) (x : Str) (C : Addr) (ks : List Str) (sp : Sp) : Prop where
  at_ : mg x = some (.ref C)
  ex : ∃ (f : Addr) (fd : FuncData) (ps : List Str), FnN P w K mg base k f fd ps sp ∧ Mk K C f ∧ KBn K fd ps 1 ks (fun us ws => us ++ ws) (fun vs zs => vs ++ zs)
def tMkKN (C : Addr) (n : Nat) (sp : Sp) (E : L2.St → XK) (t : TA) : TE := fun σ H Q => t σ H fun zs H1 => zs.length = n ∧ ∀ y d, H1 y = none → H1 d = none → d ≠ y → sp (.ref y :: zs) (upd (upd H1 d (.own y)) y (.ins C d [])) (fun v H2 => v = .non ∧ Q (.ref y) H2) (E σ)
section
variable {X : Cx} {pk : List (Addr × Obj)} {τ : L2.St} {H : Hp} {s : Shared} {k j : Nat} {sp : Sp} {f C : Addr} {fd : FuncData} {ps ks : List Str} {Z : VK} {ws : List Value} {zs : List V} {x : Str} {p pos : Pos} {kws : List Keyword} {t : TA} {E : L2.St → XK}
theorem run_mkKN (M : Mk X.K C f) (F : FnN X.prog X.w X.K X.mg X.base k f fd ps sp) (hr : Room (k + 1) X.A) (hg : X.A.guards = some []) (hbd : KBn X.K fd ps 1 ks (fun us ws => us ++ ws) (fun vs zs => vs ++ zs)) (hx : PassesAt (L2N.CX X.prog X.w) X τ (E τ)) (I : Inv X pk τ H s) (r : Vals zs ws) (hl : zs.length = ks.length)
    (h : ∀ y d, H y = none → H d = none → d ≠ y → sp (.ref y :: zs) (upd (upd H d (.own y)) y (.ins C d [])) (fun v H2 => v = .non ∧ Z (.ref y) H2) (E τ)) : wpAny (model X.prog X.w) X.A (call (.ref C) [] (ks.zip ws)) (EP X pk τ Z) X.xe s := by
  have q0 := h (s.heap.objs.size + 1) s.heap.objs.size (I.hok.fresh (Nat.le_succ _)) (I.hok.fresh (Nat.le_refl _)) (Nat.ne_of_lt (Nat.lt_succ_self _))
  have J := Inv.made (C := C) I
  have rr : Vals (V.ref (s.heap.objs.size + 1) :: zs) (Value.ref (s.heap.objs.size + 1) :: ws) := .cons rfl r
  have hb := hbd.to _ [Value.ref (s.heap.objs.size + 1)] ws J.kIn rfl (r.length.symm.trans hl)
  have run := F.run (X.A.under (.builtin "type.__call__" ⟨.ref C :: [], ks.zip ws⟩)) X.stack _ _ ⟨[Value.ref (s.heap.objs.size + 1)], ks.zip ws⟩ _ _ _ (E τ) (hr.make C [] (ks.zip ws)) hg (J.env0.make C [] (ks.zip ws)) hb rr q0
  refine wpAny_call (make_map (f := f) I.kIn M.makes M.init (beq_iff_eq.mp M.fn) (codeAny_mono run fun res s' hsq => ?_))
  match res, hsq with
  | .error e, hsq => exact hx pk _ _ e s' J hsq
  | .ok (.ret u), hsq =>
    obtain ⟨v, H4, J4, rv, ev, q4⟩ := J.after hsq
    subst ev
    exact ⟨rv, ⟨V.ref (s.heap.objs.size + 1), H4, J4, rfl, q4⟩⟩
  | .ok .next, hsq => exact False.elim hsq
  | .ok .brk, hsq => exact False.elim hsq
  | .ok .cont, hsq => exact False.elim hsq
theorem pe_mkKN (c : MakKN X.prog X.w X.K X.mg X.base k x C ks sp) (hr : Room j X.A) (hg0 : X.A.guards = some []) (hkp : k + 1 ≤ j) (hx : ∀ σ, PassesAt (L2N.CX X.prog X.w) X σ (E σ)) (hg : Gl X x) (hkw : PK X kws t)
    (hall : (backToKw pos (keywordEach kws X.env)).all (·.1.isSome) = true := by rfl) (hks : (backToKw pos (keywordEach kws X.env)).filterMap (·.1) = ks := by rfl) (hdb : (x == ("__debug__" : Str)) = false := by decide)
    (hpl : ((backTo pos (starEach [] X.env)).any (·.1) || (backToKw pos (keywordEach kws X.env)).any (·.1.isNone)) = false := by rfl) :
    PE X (.Call (.Name x p) [] kws pos) (tMkKN C ks.length sp E t) := by
  obtain ⟨f, fd, ps, F, M, b⟩ := c.ex
  refine ⟨fun pk s τ H Z I h => ?_⟩
  refine wpAny_Call_Name_kw (ld_glob I hg c.at_ ?_ hdb)
  refine PySem.W.callWith_KW0 (h₀ := X.base) I.ok.mod.kin M.kp hall (thn (hkw.run pos pk s τ H _ I h) fun ws s2 ⟨zs, H2, I2, rz, l1, q2⟩ => ⟨I2.kIn, ?_⟩) hpl
  rw [hks]
  exact run_mkKN M F (hr.mono hkp) hg0 b (hx τ) I2 rz l1 q2
end
end Own

namespace Own
open PySem PySem.Spec PyProof.Rows L2 Evl
/-! ### sorted(a tuple of texts) -/
section
variable {P : Program} {w : World} {A : Around} {E : Value → Shared → Prop} {s : Shared} {a : Addr} {l : List Str}
theorem sortT {vs : List Value} {Q : Value → Shared → Prop} (R : IsTup s.heap a vs.toArray) (areV : StrsAre vs l) (nd : l.Nodup) (hb : vs.length ≤ 4000)
    (fin : ∀ s' p (out : Array Value) (c : Nat) (ys : List Str), (∀ b o, s.heap.get? b = some o → s'.heap.get? b = some o) → s'.gens = s.gens → s'.os = s.os → s.heap.get? p = none → s'.heap.get? p = some (seqObj "list" out c) → StrsAre out.toList ys → Srt l ys → ys.length = l.length → Q (.ref p) s') :
    wpAny (model P w) A (call (.builtin "sorted") [.ref a]) Q E s := by
  obtain ⟨o, ho, hc, n, hd⟩ := R
  refine Calls.call_function_entry kind_sorted plain_sorted entry_sorted (args_sorted1 _) ?_
  unfold Builtin.«sorted»
  refine wpAny_bind (m := checkCount "sorted" 1 1 _) (wpAny_pure ?_)
  refine wpAny_bind (wpAny_collect_seq (A := A.in1) a (T := "tuple") (.inr rfl) ho hc hd (fun hB kB => ?_) (by rw [List.size_toArray, sizeLine_eq]; omega))
  have e0 : vs.toArray.toList = vs := rfl
  rw [e0]
  refine wpAny_bind (wpAny_newList ?_ (by rw [sizeLine_eq]; omega))
  have hoL : (hB.push (seqObj "list" vs.toArray 0)).get? hB.objs.size = some (seqObj "list" vs.toArray 0) := Heap.get?_push_size _ rfl
  refine wpAny_bind (wpAny_holding (wpAny_call_entry slot_list_sort ⟨_, hoL, rfl⟩ entry_list_sort (list_sort_treeKAny strKind_oneLt hoL areV.keysOf (fun v1 v2 rest e => keyKind_strs (by rw [← e]; exact areV)) (by rw [sizeLine_eq]; omega) fun st' hp hs => ⟨_, rfl, ?_⟩) (args_list_sort _)))
  obtain ⟨ys, y1, y2, y3⟩ := sorted_out_str areV hp hs
  obtain ⟨c, hc⟩ := sortedHeap_at (vs := vs) (out := (arrOf st').map (·.2)) hoL
  refine wpAny_pure ⟨_, rfl, fin _ hB.objs.size _ c ys (fun b u e => ?_) rfl rfl ?_ hc y1 ⟨y3, y2.nodup_iff.mpr nd, fun z => y2.mem_iff⟩ y2.length_eq⟩
  · have q := kB b u e
    have lt := Heap.lt_size q
    show (sortedHeap (hB.push (seqObj "list" vs.toArray 0)) hB.objs.size vs _).get? b = some u
    rw [sortedHeap_old (Nat.ne_of_lt lt) (by rw [size_push']; exact Nat.lt_succ_of_lt lt)]
    exact Heap.get?_push_of_some _ q
  · cases hh : s.heap.get? hB.objs.size with
    | none => rfl
    | some u => exact absurd (Heap.lt_size (kB _ _ hh)) (Nat.lt_irrefl _)
end
section
variable {X : Cx}
def rSortT (K : PySem.W.Frag) : List V → Hp → VK → Prop := fun vs H Q => ∃ (a : Addr) (l : List Str), vs = [.ref a] ∧ SqT K H a (l.map V.str) ∧ l.Nodup ∧ l.length ≤ 4000 ∧
  ∀ (p : Addr) (ys : List Str), Srt l ys → ys.length = l.length → H p = none → Q (.ref p) (upd H p (.lst (ys.map V.str)))
theorem cr_sortT : CallR X (.builtin "sorted") (rSortT X.K) := by
  intro pk s τ H vs us Q I r h
  obtain ⟨a, l, rfl, ha, nd, hl, q⟩ := h
  obtain ⟨its, rv, pl, _⟩ := I.tuple ha
  rw [Vals.ref1 r]
  have len0 : its.length = l.length := by rw [← rv.length, List.length_map]
  refine sortT pl (by simpa using rv.strs) nd (by omega) fun s' p out c ys k g o hp hg are so len => ?_
  have hlen : (ys.map V.str).length ≤ sizeLine := by rw [List.length_map, len, sizeLine_eq]; omega
  have hn : H p = none := I.hok.gone hp
  have J : Inv X pk τ (upd H p (.lst (ys.map V.str))) { s with heap := s'.heap, gens := s'.gens, drawn := s'.drawn, toks := s'.toks } :=
    I.call (ch := []) (Un.laidN k hp hn) (I.hok.laidN k hn ⟨hlen, out.toList, c, vals_of_strs are, hg⟩) (by rw [g]; exact I.bare) (fun _ z => nomatch z)
  have e : s' = { s with heap := s'.heap, gens := s'.gens, drawn := s'.drawn, toks := s'.toks } := by
    cases s'
    cases s
    cases o
    rfl
  rw [e]
  exact ⟨.ref p, _, J, rfl, q p ys so len hn⟩
end
end Own

namespace Own
open PySem PySem.Spec PyProof.Rows L2 Evl
def top (i : Nat) : Stmt := PySem.Challenge.pw_scriptpicks_k55_licences_refused.main.body.getD i (.Pass ⟨0, 0, 0, 0⟩)
/-- all but b stands -/
def ExB (b : Addr) (H H' : Hp) : Prop := ∀ a o, a ≠ b → H a = some o → H' a = some o
theorem ExB.refl (b : Addr) (H : Hp) : ExB b H H := fun _ _ _ h => h
theorem ExB.set {b : Addr} {H H' : Hp} {o : HO} (e : ExB b H H') : ExB b H (upd H' b o) := fun a u n h => by
  rw [upd_ne n]
  exact e a u n h
theorem ExB.new {b p : Addr} {H H' : Hp} {o : HO} (e : ExB b H H') (hp : H' p = none) : ExB b H (upd H' p o) := fun a u n h => by
  have q := e a u n h
  rw [upd_ne (ne_of_none q hp)]
  exact q
theorem ints_ne4 {ns : List Int} {i j k : Int} {c : Addr} (z : HO.lst (ns.map V.int) = .lst [.int i, .int j, .int k, .ref c]) : False := by
  have z2 : ns.map V.int = [.int i, .int j, .int k, .ref c] := by injection z
  match ns, z2 with
  | [], z2 => cases z2
  | [_], z2 => cases z2
  | [_, _], z2 => cases z2
  | [_, _, _], z2 => cases z2
  | _ :: _ :: _ :: _ :: _, z2 =>
    simp only [List.map_cons] at z2
    injection z2 with _ z2
    injection z2 with _ z2
    injection z2 with _ z2
    injection z2 with z2 _
    cases z2
theorem first_int (ns : List Int) (lo hi : Option Int) : ∃ z, atI (cutV (ns.map V.int) lo hi ++ [V.int 0]) 0 = some (V.int z) := by
  unfold cutV
  rw [← List.map_drop, ← List.map_take]
  generalize (List.take _ (List.drop _ ns)) = l
  cases l with
  | nil => exact ⟨0, rfl⟩
  | cons a r => exact ⟨a, atI_nat (j := 0) rfl⟩
theorem genB {H H3 H4 : Hp} {b : Addr} {o : HO} (hq : upd H3 b o = H4) (e : ExB b H H3) : ExB b H H4 ∧ H4 b = some o := by
  subst hq
  exact ⟨e.set, upd_same⟩
structure Txt0 (mg : Str → Option Value) : Prop where
  abs : mg "abs" = none
  int : mg "int" = none
  len : mg "len" = none
  tuple : mg "tuple" = none
  list : mg "list" = none
  all : mg "all" = none
  any : mg "any" = none
  zip : mg "zip" = none
  range : mg "range" = none
  repr : mg "repr" = none
  dict : mg "dict" = none
abbrev s_l_bag : Stmt := top 28
theorem sc_l_bag : FnScope ["_law_script", "_law_cell"] ["_law_script"] (defScope s_l_bag) := ⟨rfl, rfl, rfl, by decide +kernel, rfl, by decide +kernel, by decide +kernel⟩
abbrev s_l_take : Stmt := top 29
theorem sc_l_take : FnScope ["_law_bag_here", "_law_many", "_law_cell", "_law_mixed", "_law_value", "_law_begin", "_law_second"] ["_law_bag_here", "_law_many"] (defScope s_l_take) := ⟨rfl, rfl, rfl, by decide +kernel, rfl, by decide +kernel, by decide +kernel⟩
abbrev s_l_some : Stmt := top 31
theorem sc_l_some : FnScope ["_law_bag_here", "_law_things"] ["_law_bag_here", "_law_things"] (defScope s_l_some) := ⟨rfl, rfl, rfl, by decide +kernel, rfl, by decide +kernel, by decide +kernel⟩
section
variable {P : Program} {w : World} {K : PySem.W.Frag} {mg : Str → Option Value} {base : Heap}
/-- the bag as a list -/
def spTakeL : Sp := fun vs H Q _ => ∃ (b c : Addr) (m i j k : Int) (ns : List Int), vs = [.ref b, .int m] ∧ H b = some (.lst [.int i, .int j, .int k, .ref c]) ∧ H c = some (.lst (ns.map V.int)) ∧ ns.length ≤ 63 ∧ 0 < m ∧ m < 1000000000 ∧
  ∀ (H' : Hp) (r i' j' k' : Int), 0 ≤ r → r < m → ExB b H H' → H' b = some (.lst [.int i', .int j', .int k', .ref c]) → Q (.int r) H'
theorem ok_takeL (T : Txt0 mg) (D : Df K mg "_law_take" s_l_take) : CalG P w K mg base 1 "_law_take" spTakeL := by
  refine cal_mk D sc_l_take (fun _ _ _ _ _ _ us hl => match us, hl with | [_, _], _ => rfl) (fun vs H Q E h => ?_) (fun f cdv A outer s H vs Q E hr hG h => ?_)
  · obtain ⟨b, c, m, i, j, k, ns, rfl, _⟩ := h
    rfl
  · obtain ⟨b, c, m, i, j, k, ns, rfl, hb, hc, h63, hm, hm9, q⟩ := h
    have nbc : c ≠ b := ne_of hc hb (fun z => ints_ne4 z)
    refine ⟨_, (Evl.pss_cut (ps_if (pt_cmpR (opEq hr) (pe_ix ixAny (pv 0) pe_int (fun _ _ => rfl)) pe_int (nomark _)) (pss_cons (ps_set (i := 2) sc_l_take.nd rfl (Or.inl rfl) (pe_ix ixAny (pe_op opAdd (pe_slice slAny (pe_ix ixAny (pv 0) pe_int (fun _ _ => rfl)) (po_some (pe_ix ixAny (pv 0) pe_int (fun _ _ => rfl))) po_none) (pe_lst (pa_cons pe_int pa_nil))) pe_int (fun _ _ => rfl)))
      (pss_cons (ps_augS (pv 0) pe_int pgetL pe_int ip_add set_list)
      (Evl.pss_cut (ps_if (pt_cmpR opGe (pv 2) pe_int (nomark _)) (pss_one (ps_asg (pv 2) (pg_sub (pv 0) pe_int set_list))) pss_nil)
      (pss_cons (ps_set (i := 3) sc_l_take.nd rfl (Or.inl rfl) (pe_op opAdd (pe_op opAdd (pe_op opMul (pe_ix ixAny (pv 0) pe_int (fun _ _ => rfl)) pe_int) (pe_op op_mod (pe_callTy call_int1 (by rfl) T.int (by decide +kernel) (pa_cons (pv 2) pa_nil)) pe_int)) (pe_op opMul pe_int (pe_ix ixAny (pv 0) pe_int (fun _ _ => rfl)))))
      (pss_one (ps_asg (pe_op op_mod (pe_callTy call_int1 (by rfl) T.int (by decide +kernel) (pa_cons (pv 3) pa_nil)) pe_int) (pg_sub (pv 0) pe_int set_list))))))) pss_nil)
      (pss_cons (ps_if (pt_cmpR opGt (pe_ix ixAny (pv 0) pe_int (fun _ _ => rfl)) pe_int (nomark _)) (pss_cons (ps_set (i := 4) sc_l_take.nd rfl (Or.inl rfl) (pe_op op_mod (pe_callTy call_int1 (by rfl) T.int (by decide +kernel) (pa_cons (pe_ix ixAny (pv 0) pe_int (fun _ _ => rfl)) pa_nil)) (pv 1)))
      (pss_cons (ps_asg (pe_op op_fdivW (pe_ix ixAny (pv 0) pe_int (fun _ _ => rfl)) (pv 1)) (pg_sub (pv 0) pe_int set_list))
      (pss_one (ps_ret (pv 4))))) pss_nil)
      (pss_cons (ps_set (i := 5) sc_l_take.nd rfl (Or.inl rfl) (pe_op op_mod (pe_callTy call_int1 (by rfl) T.int (by decide +kernel) (pa_cons (pe_op opMul (pe_op opAdd (pe_ix ixAny (pv 0) pe_int (fun _ _ => rfl)) pe_int) pe_int) pa_nil)) pe_int))
      (pss_cons (ps_set (i := 6) sc_l_take.nd rfl (Or.inl rfl) (pe_op op_mod (pe_callTy call_int1 (by rfl) T.int (by decide +kernel) (pa_cons (pe_op opMul (pe_op op_mod (pe_callTy call_int1 (by rfl) T.int (by decide +kernel) (pa_cons (pe_op opMul (pv 5) (pv 5)) pa_nil)) pe_int) pe_int) pa_nil)) pe_int))
      (pss_one (ps_ret (pe_op op_mod (pe_callTy call_int1 (by rfl) T.int (by decide +kernel) (pa_cons (pe_op op_fdivW (pv 6) pe_int) pa_nil)) (pv 1)))))))), ?_⟩
    refine ⟨fun σ' H' => ∃ (i j k : Int) (x2 x3 : Option V), σ' = [some (.ref b), some (.int m), x2, x3, none, none, none] ∧ ExB b H H' ∧ H' b = some (.lst [.int i, .int j, .int k, .ref c]), ?_, ?_⟩
    · refine ⟨_, rfl, .inl ⟨b, _, 0, _, rfl, rfl, sq_of hb, rfl, .inl ⟨rfl, _, rfl, ?_⟩⟩⟩
      refine ite2 (fun _ => ?_) (fun _ => ⟨i, j, k, none, none, rfl, ExB.refl b H, hb⟩)
      -- cell = (bag[3][bag[2]:] + [0])[0]
      refine ⟨_, rfl, .inl ⟨b, _, 3, _, rfl, rfl, sq_of hb, rfl, ⟨_, rfl, .inl ⟨b, _, 2, _, rfl, rfl, sq_of hb, rfl, k, rfl, .inl ⟨c, _, rfl, sq_of hc, fun p hp => ?_⟩⟩⟩⟩⟩
      refine ⟨by show 1 ≤ sizeLine; decide, fun p2 hp2 => .inr (.inr (.inl ⟨p, p2, _, _, rfl, rfl, up_old hp2 upd_same, upd_same, ?_, fun p3 hp3 => ?_⟩))⟩
      · refine sz_of ?_
        have q1 := cutV_length (ns.map V.int) (some k) none
        rw [List.length_map] at q1
        show _ + 1 ≤ 100000
        omega
      obtain ⟨z, hz⟩ := first_int ns (some k) none
      refine .inl ⟨p3, _, 0, _, rfl, rfl, sq_of upd_same, hz, ?_⟩
      have e3 := (((ExB.refl b H).new (o := .lst (cutV (ns.map V.int) (some k) none)) hp).new (o := .lst [V.int 0]) hp2).new (o := .lst (cutV (ns.map V.int) (some k) none ++ [V.int 0])) hp3
      have hb3 := up_old (o := .lst (cutV (ns.map V.int) (some k) none ++ [V.int 0])) hp3 (up_old (o := .lst [V.int 0]) hp2 (up_old (o := .lst (cutV (ns.map V.int) (some k) none)) hp hb))
      generalize upd (upd (upd H p _) p2 _) p3 _ = H3 at e3 hb3 ⊢
      -- bag[2] += 1
      refine ⟨_, rfl, b, _, 2, _, rfl, rfl, sq_of hb3, rfl, k, 1, rfl, rfl, b, _, 2, 2, rfl, rfl, hb3, rfl, ?_⟩
      generalize hq4 : upd H3 b _ = H4
      obtain ⟨e4, hb4⟩ := genB hq4 e3
      -- if cell >= ..: bag[0] = cell
      refine ⟨fun σ' H' => ∃ (i : Int), σ' = [some (.ref b), some (.int m), some (.int z), none, none, none, none] ∧ ExB b H H' ∧ H' b = some (.lst [.int i, .int j, .int (k + 1), .ref c]), ?_, ?_⟩
      · refine ⟨_, rfl, z, _, rfl, rfl, _, rfl, ?_⟩
        refine ite2 (fun _ => ?_) (fun _ => ⟨i, rfl, e4, hb4⟩)
        exact ⟨_, rfl, _, rfl, b, _, 0, 0, rfl, rfl, hb4, rfl, z, rfl, e4.set, upd_same⟩
      · rintro σ5 H5 ⟨i5, rfl, e5, hb5⟩
        -- mixed
        refine ⟨_, rfl, .inl ⟨b, _, 1, _, rfl, rfl, sq_of hb5, rfl, .inl ⟨j, 48271, rfl, rfl, .inr (by decide), ?_⟩⟩⟩
        refine ⟨_, rfl, .inl ⟨z, rfl, ?_⟩⟩
        refine ⟨_, _, rfl, rfl, (show (0 : Int) < 2147483647 by decide), .inl ⟨_, _, rfl, rfl, ?_⟩⟩
        refine ⟨_, rfl, .inl ⟨b, _, 2, _, rfl, rfl, sq_of hb5, rfl, .inl ⟨7919, _, rfl, rfl, .inl (by decide), .inl ⟨_, _, rfl, rfl, ?_⟩⟩⟩⟩
        refine ⟨_, rfl, .inl ⟨_, rfl, ?_⟩⟩
        refine ⟨_, _, rfl, rfl, (show (0 : Int) < 2147483647 by decide), _, rfl, b, _, 1, 1, rfl, rfl, hb5, rfl, ?_⟩
        exact ⟨i5, _, k + 1, _, _, rfl, e5.set, upd_same⟩
    · rintro σ' H' ⟨i, j, k, x2, x3, rfl, e, hb⟩
      refine ⟨_, rfl, .inl ⟨b, _, 0, _, rfl, rfl, sq_of hb, rfl, i, 0, rfl, rfl, _, rfl, ?_⟩⟩
      refine ite2 (fun _ => ?_) (fun _ => ?_)
      · refine ⟨_, rfl, .inl ⟨b, _, 0, _, rfl, rfl, sq_of hb, rfl, .inl ⟨_, rfl, ?_⟩⟩⟩
        refine ⟨_, rfl, _, _, rfl, rfl, hm, ?_⟩
        refine ⟨_, rfl, .inl ⟨b, _, 0, _, rfl, rfl, sq_of hb, rfl, ?_⟩⟩
        refine ⟨_, rfl, _, _, rfl, rfl, wide_div hm (b := 30) (by omega) (by decide) (by decide), ?_⟩
        refine ⟨_, rfl, b, _, 0, 0, rfl, rfl, hb, rfl, ?_⟩
        exact ⟨_, rfl, q _ _ _ _ _ (Int.emod_nonneg _ (by omega)) (Int.emod_lt_of_pos _ hm) e.set upd_same⟩
      · refine ⟨_, rfl, .inl ⟨b, _, 1, _, rfl, rfl, sq_of hb, rfl, .inl ⟨j, 1, rfl, rfl, .inl ⟨_, 39373, rfl, rfl, .inr (by decide), .inl ⟨_, rfl, ?_⟩⟩⟩⟩⟩
        refine ⟨_, _, rfl, rfl, (show (0 : Int) < 1000000007 by decide), ?_⟩
        have h0 : 0 ≤ (j + 1) * 39373 % 1000000007 := Int.emod_nonneg _ (by decide)
        have h1 : (j + 1) * 39373 % 1000000007 < 1000000007 := Int.emod_lt_of_pos _ (by decide)
        refine ⟨_, rfl, _, rfl, .inl ⟨_, _, rfl, rfl, .inl ⟨Int.lt_of_lt_of_le (by decide) h0, Int.lt_trans h1 (by decide)⟩, .inl ⟨_, rfl, ?_⟩⟩⟩
        refine ⟨_, _, rfl, rfl, (show (0 : Int) < 998244353 by decide), .inl ⟨_, 30011, rfl, rfl, .inr (by decide), .inl ⟨_, rfl, ?_⟩⟩⟩
        refine ⟨_, _, rfl, rfl, (show (0 : Int) < 998244353 by decide), ?_⟩
        refine ⟨_, rfl, _, _, rfl, rfl, wide_div (b := 30) (by decide) (by decide) (by decide) (by decide), .inl ⟨_, rfl, ?_⟩⟩
        exact ⟨_, rfl, _, _, rfl, rfl, hm, q _ _ _ _ _ (Int.emod_nonneg _ (by omega)) (Int.emod_lt_of_pos _ hm) e hb⟩
end
/-- the bag, its numbers left open -/
def bagF (b c : Addr) (h : Heap) : Prop := ∃ (i j k : Int) (t u v : Tok) (n : Nat), h.get? b = some { cls := .type "list", data := .seq #[.int i t, .int j u, .int k v, .ref c] n }
def bagO (b c : Addr) : HO := .ext (bagF b c)
def BagAt (H : Hp) (b : Addr) : Prop := ∃ (c : Addr) (ns : List Int), H b = some (bagO b c) ∧ H c = some (.lst (ns.map V.int)) ∧ ns.length ≤ 63
theorem BagAt.ex {H H' : Hp} {b : Addr} (e : Ex H H') (h : BagAt H b) : BagAt H' b := by
  obtain ⟨c, ns, h1, h2, h3⟩ := h
  exact ⟨c, ns, e _ _ h1, e _ _ h2, h3⟩
theorem objOk_swap {P : Program} {w : World} {H H' : Hp} {h : Heap} (ht : ∀ a xs, H a = some (.tup xs) → H' a = some (.tup xs)) (ho : ∀ a x, H a = some (.own x) → H' a = some (.own x)) : ∀ (o : HO) (a : Addr), ObjOk P w H h a o → ObjOk P w H' h a o
  | .lst _, _, q => q
  | .tup _, _, q => q
  | .dK _, _, q => q
  | .dT kvs, a, q => by
    obtain ⟨q1, q2, xs, q3, q4⟩ := q
    exact ⟨q1, q2, xs, Paired.mapP q3 fun x y z => ⟨z.1, ht _ _ z.2.1, z.2.2⟩, q4⟩
  | .set _ _, _, q => q
  | .ins _ _ _, a, q => by
    obtain ⟨q1, q2⟩ := q
    exact ⟨ho _ _ q1, q2⟩
  | .own _, _, q => q
  | .xd _, _, q => q
  | .met _ _, _, q => q
  | .rng _ _, _, q => q
  | .frz o u, a, q => ⟨q.1, objOk_swap ht ho u a q.2⟩
  | .tbl _, _, q => q
  | .ext _, _, q => q
theorem hOk_set {P : Program} {w : World} {H : Hp} {h : Heap} {b : Addr} {o1 o2 : HO} (hk : HOk P w H h) (h1 : H b = some o1) (nt : ∀ xs, o1 ≠ .tup xs) (no : ∀ x, o1 ≠ .own x) (h2 : ObjOk P w (upd H b o2) h b o2) : HOk P w (upd H b o2) h := fun a o e => by
  by_cases ea : a = b
  · subst ea
    rw [upd_same] at e
    cases e
    exact h2
  · rw [upd_ne ea] at e
    refine objOk_swap (fun a' xs q => ?_) (fun a' x q => ?_) o a (hk a o e)
    · have n : a' ≠ b := fun z => by
        rw [z, h1] at q
        exact nt _ (Option.some.inj q)
      rw [upd_ne n]
      exact q
    · have n : a' ≠ b := fun z => by
        rw [z, h1] at q
        exact no _ (Option.some.inj q)
      rw [upd_ne n]
      exact q
def spTake : Sp := fun vs H Q _ => ∃ (b : Addr) (m : Int), vs = [.ref b, .int m] ∧ BagAt H b ∧ 0 < m ∧ m < 1000000000 ∧ ∀ (H' : Hp) (r : Int), 0 ≤ r → r < m → Ex H H' → Q (.int r) H'
section
variable {P : Program} {w : World} {K : PySem.W.Frag} {mg : Str → Option Value} {base : Heap}
theorem bag_shut {P : Program} {w : World} {H : Hp} {h : Heap} {b c : Addr} {i j k : Int} (q : ObjOk P w H h b (.lst [.int i, .int j, .int k, .ref c])) : bagF b c h := by
  obtain ⟨_, its, n, rv, ho⟩ := q
  cases rv with
  | cons r1 rv => cases rv with
    | cons r2 rv => cases rv with
      | cons r3 rv => cases rv with
        | cons r4 rv =>
          cases rv
          obtain ⟨t, rfl⟩ := r1
          obtain ⟨u, rfl⟩ := r2
          obtain ⟨v, rfl⟩ := r3
          cases r4
          exact ⟨i, j, k, t, u, v, n, ho⟩
theorem take_ext (C : CalG P w K mg base 1 "_law_take" spTakeL) : CalG P w K mg base 1 "_law_take" spTake := by
  obtain ⟨f, fd, ps, F, a, kp, bd⟩ := C.ex
  have hps : ps.length = 2 := (F.len [.ref 0, .int 1] (fun x => if x = 0 then some (.lst [.int 0, .int 0, .int 0, .ref 1]) else if x = 1 then some (.lst ([].map V.int)) else none) (fun _ _ => True) (fun _ _ _ => True) ⟨0, 1, 1, 0, 0, 0, [], rfl, rfl, rfl, by decide, by decide, by decide, fun _ _ _ _ _ _ _ _ _ => trivial⟩).symm
  refine ⟨f, fd, ps, ⟨fun vs H Q E h => ?_, fun A outer s H args us vs Q E hr hg e0 hb rv h => ?_⟩, a, kp, bd⟩
  · obtain ⟨b, m, rfl, _⟩ := h
    exact hps.symm
  · obtain ⟨b, m, rfl, ⟨c, ns, h1, h2, h3⟩, hm, hm9, q⟩ := h
    obtain ⟨⟨i, j, k, t, u, v, n, ho⟩, _, _⟩ := e0.hok b _ h1
    have nbc : c ≠ b := ne_of h2 h1 (by intro z; cases z)
    have hok : HOk P w (upd H b (.lst [.int i, .int j, .int k, .ref c])) s.heap := hOk_set e0.hok h1 (fun _ z => by cases z) (fun _ z => by cases z)
      ⟨by show 4 ≤ sizeLine; decide, [.int i t, .int j u, .int k v, .ref c], n, .cons ⟨t, rfl⟩ (.cons ⟨u, rfl⟩ (.cons ⟨v, rfl⟩ (.cons rfl .nil))), ho⟩
    have nb : ∀ x, H x = none → (upd H b (.lst [.int i, .int j, .int k, .ref c])) x = none := fun x e => by
      rw [upd_ne (fun z => by rw [z, h1] at e; cases e)]
      exact e
    have e1 : Env0 P w K mg base A outer s (upd H b (.lst [.int i, .int j, .int k, .ref c])) :=
      ⟨e0.frames, e0.mod, fun x o e => ⟨(e0.bs x o e).1, nb _ (e0.bs x o e).2⟩, e0.bsz, e0.funs, fun x hx => nb _ (e0.frf x hx), hok, e0.bare⟩
    have run := F.run A outer s _ args us [.ref b, .int m] (fun v H'' => (∃ i j k, H'' b = some (.lst [.int i, .int j, .int k, .ref c])) ∧ Q v (upd H'' b (bagO b c))) E hr hg e1 hb rv
      ⟨b, c, m, i, j, k, ns, rfl, upd_same, by rw [upd_ne nbc]; exact h2, h3, hm, hm9, fun H' r i' j' k' r0 r1 e2 hb' => ⟨⟨_, _, _, hb'⟩, q _ r r0 r1 fun x o hx => by
        by_cases ex : x = b
        · rw [ex] at hx ⊢
          rw [upd_same, ← h1]
          exact hx
        · rw [upd_ne ex]
          exact e2 x o ex (by rw [upd_ne ex]; exact hx)⟩⟩
    refine codeAny_mono run fun r s' hq => ?_
    cases r with
    | error e => exact hq
    | ok fl =>
      cases fl with
      | next => exact hq
      | brk => exact hq
      | cont => exact hq
      | ret u' =>
        obtain ⟨v', H'', q1, q2, q3, q4, q5, ⟨i2, j2, k2, q6⟩, q7⟩ := hq
        refine ⟨v', upd H'' b (bagO b c), q1, q2, ⟨?_, ?_, ?_, ?_, ?_, ?_, ?_⟩, ?_, q5, q7⟩
        · exact fun x o e n f g => q3.keep x o e (nb x n) f g
        · exact fun x o e n f g => q3.slot x o e (nb x n) f g
        · intro x o e n g
          have nx : x ≠ b := fun z => by
            rw [z, h1] at n
            cases n
          rw [upd_ne nx]
          exact q3.free x o e (nb x n) g
        · exact q3.there
        · intro x xs e
          have nx : x ≠ b := fun z => by
            rw [z, h1] at e
            cases e
          rw [upd_ne nx]
          exact q3.tups x xs (by rw [upd_ne nx]; exact e)
        · intro x o u e
          have nx : x ≠ b := fun z => by
            rw [z, h1] at e
            cases e
          rw [upd_ne nx]
          exact q3.frzs x o u (by rw [upd_ne nx]; exact e)
        · intro x ps e
          have nx : x ≠ b := fun z => by
            rw [z, h1] at e
            cases e
          rw [upd_ne nx]
          exact q3.tbls x ps (by rw [upd_ne nx]; exact e)
        · refine hOk_set q4 q6 (fun _ z => by cases z) (fun _ z => by cases z) ?_
          have q8 := bag_shut (q4 b _ q6)
          refine ⟨q8, ?_, fun ha hb ⟨i, j, k, t, u, v, n, x⟩ y => ⟨i, j, k, t, u, v, n, y _ x⟩⟩
          obtain ⟨_, _, _, _, _, _, _, x⟩ := q8
          exact ⟨_, x⟩
def spBagL (K : PySem.W.Frag) : Sp := fun vs H Q _ => ∃ (a : Addr) (ns : List Int), vs = [.ref a] ∧ SqL K H a (ns.map V.int) ∧ ns.length ≤ 63 ∧
  ∀ (H' : Hp) (b c : Addr) (ms : List Int), Ex H H' → H' b = some (.lst [.int 0, .int 1234567891, .int 0, .ref c]) → H' c = some (.lst (ms.map V.int)) → ms.length ≤ 63 → H b = none → Q (.ref b) H'
theorem all_ints : ∀ (ys : List V), (∀ (i : Nat) y, ys[i]? = some y → ∃ z : Int, y = .int z) → ∃ ms : List Int, ys = ms.map V.int
  | [], _ => ⟨[], rfl⟩
  | y :: ys, h => by
    obtain ⟨z, rfl⟩ := h 0 y rfl
    obtain ⟨ms, e⟩ := all_ints ys fun i y q => h (i + 1) y q
    exact ⟨z :: ms, by rw [e]; rfl⟩
theorem cut_at {xs : List V} {lo hi : Option Int} {i : Nat} {x : V} (h : (cutV xs lo hi)[i]? = some x) : ∃ j : Nat, xs[j]? = some x := by
  unfold cutV at h
  rw [List.getElem?_take] at h
  split at h
  · rw [List.getElem?_drop] at h
    exact ⟨_, h⟩
  · cases h
theorem map_at {ns : List Int} {i : Nat} {x : V} (h : (ns.map V.int)[i]? = some x) : ∃ z : Int, x = .int z := by
  rw [List.getElem?_map] at h
  cases e : ns[i]? with
  | none => rw [e] at h; cases h
  | some z => rw [e] at h; exact ⟨z, (Option.some.inj h).symm⟩
theorem ok_bagL (T : Txt0 mg) (D : Df K mg "_law_bag" s_l_bag) : CalG P w K mg base 1 "_law_bag" (spBagL K) := by
  refine cal_mk D sc_l_bag (fun _ _ _ _ _ _ us hl => match us, hl with | [_], _ => rfl) (fun vs H Q E h => ?_) (fun f cdv A outer s H vs Q E hr hG h => ?_)
  · obtain ⟨a, ns, rfl, _⟩ := h
    rfl
  · obtain ⟨a, ns, rfl, ha, h63, q⟩ := h
    refine ⟨_, (pss_one (ps_ret (pe_lst (pa_cons pe_int (pa_cons pe_int (pa_cons pe_int (pa_cons (pe_lcO (pe_lc (own := [("_law_cell", 1)]) rfl sc_l_bag.nd (piAny (pe_slice slAny (pv 0) po_none (po_some pe_int))) (blkOk_by (own := [("_law_cell", 1)]) (N := ["_law_script", "_law_cell"]) (sc := defScope s_l_bag) (by first | decide +kernel | kernel_rfl)) (fun _ _ _ _ _ => pg_name (i := 1) sc_l_bag.nd rfl (Or.inl rfl)) (fun _ _ _ _ _ => pts_nil) (fun _ _ _ _ _ => pe_callB call_abs (by rfl) T.abs (by decide +kernel) (pa_cons (pv 1) pa_nil)))) pa_nil))))))), ?_⟩
    refine .inl ⟨_, rfl, 63, rfl, .inl ⟨a, _, rfl, ha, fun p hp => ?_⟩⟩
    generalize hq1 : upd H p _ = H1
    obtain ⟨e1, h1⟩ := gen1 hq1 hp
    have hlen := cutV_length (ns.map V.int) none (some 63)
    rw [List.length_map] at hlen
    refine ⟨p, rfl, ⟨_, sq_of h1⟩, ?_⟩
    refine lcG (walk_list (xs := cutV (ns.map V.int) none (some 63))) (by omega) (sq_of h1) (fun _ _ e h => ex_l e h) yAt_ex (fun i ys _ => ∀ (j : Nat) y, ys[j]? = some y → ∃ z : Int, y = .int z) (fun _ _ _ _ _ h => h) (fun j y z => by simp at z) ?_ ?_
    · rintro i x H2 H3 ys hi e2 ⟨rfl, hx⟩ hp N N0 kN kN0
      obtain ⟨j, hj⟩ := cut_at hx
      obtain ⟨z, rfl⟩ := map_at hj
      refine ⟨rfl, ?_⟩
      refine ⟨_, rfl, z, rfl, ?_⟩
      refine kN _ _ (Ex.refl _) fun j y hy => ?_
      rw [List.getElem?_append] at hy
      split at hy
      · exact hp j y hy
      · rw [List.getElem?_singleton] at hy
        split at hy
        · exact ⟨_, (Option.some.inj hy).symm⟩
        · cases hy
    · intro D H2 ys hD e2 h2 hl hp
      obtain ⟨ms, rfl⟩ := all_ints ys hp
      refine ⟨by show 4 ≤ sizeLine; decide, fun b hb => ?_⟩
      generalize hq3 : upd H2 b _ = H3
      obtain ⟨e3, h3⟩ := gen1 hq3 hb
      rw [List.length_map] at hl
      exact q _ b D ms ((e1.trans e2).trans e3) h3 (e3 _ _ h2) (by omega) (fresh_back (e1.trans e2) hb)
/-- script: any list of ints -/
def spBag (K : PySem.W.Frag) : Sp := fun vs H Q _ => ∃ (a : Addr) (ns : List Int), vs = [.ref a] ∧ SqL K H a (ns.map V.int) ∧ ns.length ≤ 63 ∧ ∀ (H' : Hp) (b : Addr), Ex H H' → BagAt H' b → Q (.ref b) H'
theorem bag_ext (C : CalG P w K mg base 1 "_law_bag" (spBagL K)) : CalG P w K mg base 1 "_law_bag" (spBag K) := by
  obtain ⟨f, fd, ps, F, a, kp, bd⟩ := C.ex
  refine ⟨f, fd, ps, ⟨fun vs H Q E h => ?_, fun A outer s H args us vs Q E hr hg e0 hb rv h => ?_⟩, a, kp, bd⟩
  · obtain ⟨a, ns, rfl, ha, hl, _⟩ := h
    exact F.len [.ref a] H (fun _ _ => True) E ⟨a, ns, rfl, ha, hl, fun _ _ _ _ _ _ _ _ _ => trivial⟩
  · obtain ⟨a, ns, rfl, ha, hl, q⟩ := h
    have run := F.run A outer s _ args us [.ref a] (fun v H'' => ∃ (b c : Addr) (ms : List Int), v = .ref b ∧ Ex H H'' ∧ H'' b = some (.lst [.int 0, .int 1234567891, .int 0, .ref c]) ∧ H'' c = some (.lst (ms.map V.int)) ∧ ms.length ≤ 63 ∧ H b = none) E hr hg e0 hb rv
      ⟨a, ns, rfl, ha, hl, fun H' b c ms e h1 h2 h3 h4 => ⟨b, c, ms, rfl, e, h1, h2, h3, h4⟩⟩
    refine codeAny_mono run fun r s' hq => ?_
    cases r with
    | error e => exact hq
    | ok fl =>
      cases fl with
      | next => exact hq
      | brk => exact hq
      | cont => exact hq
      | ret u' =>
        obtain ⟨v', H'', q1, q2, q3, q4, q5, b, c, ms, rfl, e, h1, h2, h3, h4⟩ := hq
        have nbc : c ≠ b := ne_of h2 h1 (fun z => ints_ne4 z)
        have no : ∀ x o, H x = some o → x ≠ b := fun x o hx z => by
          rw [z, h4] at hx
          cases hx
        refine ⟨.ref b, upd H'' b (bagO b c), q1, q2, ⟨q3.keep, q3.slot, ?_, q3.there, ?_, ?_, ?_⟩, ?_, q5, q _ b (Ex.mut e h4) ⟨c, ms, upd_same, ?_, h3⟩⟩
        · intro x o ho n g
          have z := q3.free x o ho n g
          have nx : x ≠ b := fun y => by
            rw [y, h1] at z
            cases z
          rw [upd_ne nx]
          exact z
        · intro x xs hx
          rw [upd_ne (no _ _ hx)]
          exact q3.tups x xs hx
        · intro x o u hx
          rw [upd_ne (no _ _ hx)]
          exact q3.frzs x o u hx
        · intro x ps hx
          rw [upd_ne (no _ _ hx)]
          exact q3.tbls x ps hx
        · refine hOk_set q4 h1 (fun _ z => by cases z) (fun _ z => by cases z) ?_
          have q8 := bag_shut (q4 b _ h1)
          refine ⟨q8, ?_, fun ha hb ⟨i, j, k, t, u, v, n, x⟩ y => ⟨i, j, k, t, u, v, n, y _ x⟩⟩
          obtain ⟨_, _, _, _, _, _, _, x⟩ := q8
          exact ⟨_, x⟩
        · rw [upd_ne nbc]
          exact h2
def spSome (K : PySem.W.Frag) : Sp := fun vs H Q _ => ∃ (b a : Addr) (xs : List V), vs = [.ref b, .ref a] ∧ BagAt H b ∧ (SqL K H a xs ∨ SqT K H a xs) ∧ xs ≠ [] ∧ xs.length ≤ 100000 ∧
  ∀ (H' : Hp) (i : Nat) (x : V), Ex H H' → xs[i]? = some x → Q x H'
theorem ok_some (T : Txt0 mg) (D : Df K mg "_law_some" s_l_some) (c_l_take : CalG P w K mg base 1 "_law_take" spTake) : CalG P w K mg base 2 "_law_some" (spSome K) := by
  refine cal_mk D sc_l_some (fun _ _ _ _ _ _ us hl => match us, hl with | [_, _], _ => rfl) (fun vs H Q E h => ?_) (fun f cdv A outer s H vs Q E hr hG h => ?_)
  · obtain ⟨b, a, xs, rfl, _⟩ := h
    rfl
  · obtain ⟨b, a, xs, rfl, hb, ha, hne, hl, q⟩ := h
    have hpos : 0 < xs.length := List.length_pos_iff.mpr hne
    refine ⟨_, (pss_one (ps_ret (pe_ix ixAny (pv 1) (pe_cG c_l_take hr hG (by decide) rfl (pa_cons (pv 0) (pa_cons (pe_callB callLen (by rfl) T.len PySem.boot_len (pa_cons (pv 1) pa_nil)) pa_nil))) (fun _ _ => rfl)))), ?_⟩
    refine ⟨_, rfl, _, rfl, _, rfl, .inl ⟨a, xs, rfl, ha, ?_⟩⟩
    refine ⟨b, _, rfl, hb, by omega, by omega, fun H' r r0 r1 e => ?_⟩
    obtain ⟨j, rfl⟩ : ∃ j : Nat, r = (j : Int) := ⟨r.toNat, by omega⟩
    have hj : j < xs.length := by omega
    rcases ha with ha | ha
    · exact .inl ⟨a, xs, _, xs[j], rfl, rfl, ex_l e ha, atI_nat (List.getElem?_eq_getElem hj), q H' j _ e (List.getElem?_eq_getElem hj)⟩
    · exact .inr (.inl ⟨a, xs, _, xs[j], rfl, rfl, ex_t e ha, atI_nat (List.getElem?_eq_getElem hj), q H' j _ e (List.getElem?_eq_getElem hj)⟩)
end
abbrev s_l_names : Stmt := top 32
theorem sc_l_names : FnScope ["_law_bag_here", "_law_many", "_law_letters", "_law_found", "_law_words", "_law_k", "_law_signs", "_law_spin", "_law_at", "_law_rest", "_law_some_here", "_law_one"] ["_law_bag_here", "_law_many"] (defScope s_l_names) := ⟨rfl, rfl, rfl, by decide +kernel, rfl, by decide +kernel, by decide +kernel⟩
section
variable {P : Program} {w : World} {K : PySem.W.Frag} {mg : Str → Option Value} {base : Heap}
/-! ### names -/
def LET : Str := "abcdefghijklmnopqrstuvwxyz"
def WRD : Str := "at as last like all name book goal with turn part drop call copy chain close eq lt gt put"
def WL : List Str := ["at", "as", "last", "like", "all", "name", "book", "goal", "with", "turn", "part", "drop", "call", "copy", "chain", "close", "eq", "lt", "gt", "put"]
def lowc (c : Nat) : Bool := decide (97 ≤ c) && decide (c ≤ 122)
def isNm (z : Str) : Bool := decide (1 ≤ z.length) && decide (z.length ≤ 8) && (TL.tl z).all lowc
theorem wl_split : Txt.split WRD " " = WL := by decide +kernel
theorem wl_nm : WL.all isNm = true := by decide +kernel
theorem let_at : ∀ j : Fin 26, atI LET.cps.toList ((j.val : Nat) : Int) = some (97 + j.val) := by decide +kernel
theorem let_occ : ∀ j : Fin 26, Builtin.Str.occurrences LET (sgn (97 + j.val)) 0 LET.length 1 = [j.val] := by decide +kernel
theorem let_rot : ∀ j : Fin 26, (TL.tl (cutS LET (some (j.val : Int)) none ++ cutS LET none (some (j.val : Int)))).Nodup ∧ (TL.tl (cutS LET (some (j.val : Int)) none ++ cutS LET none (some (j.val : Int)))).all lowc = true ∧ (TL.tl (cutS LET (some (j.val : Int)) none ++ cutS LET none (some (j.val : Int)))).length = 26 := by decide +kernel
theorem let_cut : ∀ j : Fin 26, (cutS LET (some (j.val : Int)) none).length + (cutS LET none (some (j.val : Int))).length ≤ 26 := by decide +kernel
theorem four_at {r : Int} (h0 : 0 ≤ r) (h1 : r < 4) : ∃ n : Nat, 1 ≤ n ∧ n ≤ 8 ∧ atI [V.int 1, V.int 2, V.int 8, V.int 4] r = some (.int (n : Int)) := by
  have q : r = 0 ∨ r = 1 ∨ r = 2 ∨ r = 3 := by omega
  rcases q with rfl | rfl | rfl | rfl
  · exact ⟨1, by decide, by decide, rfl⟩
  · exact ⟨2, by decide, by decide, rfl⟩
  · exact ⟨8, by decide, by decide, rfl⟩
  · exact ⟨4, by decide, by decide, rfl⟩
/-- of more different names than stand in a list one is none of it -/
theorem more_left {α : Type} [DecidableEq α] : ∀ (xs ys : List α), xs.Nodup → ys.length < xs.length → ∃ x ∈ xs, x ∉ ys
  | [], ys, _, h => by simp at h
  | x :: xs, ys, hn, h => by
    by_cases hx : x ∈ ys
    · have hn2 := (List.nodup_cons.mp hn)
      obtain ⟨z, hz, hz2⟩ := more_left xs (ys.erase x) hn2.2 (by
        rw [List.length_erase_of_mem hx]
        rw [List.length_cons] at h
        have : 0 < ys.length := List.length_pos_of_mem hx
        omega)
      refine ⟨z, List.mem_cons_of_mem _ hz, fun q => hz2 ?_⟩
      have ne : z ≠ x := fun e => hn2.1 (e ▸ hz)
      exact (List.mem_erase_of_ne ne).mpr q
    · exact ⟨x, List.mem_cons_self, hx⟩
def spNames : Sp := fun vs H Q _ => ∃ (b : Addr) (m : Int), vs = [.ref b, .int m] ∧ BagAt H b ∧ 0 ≤ m ∧ m ≤ 25 ∧
  ∀ (H' : Hp) (p : Addr) (ns : List Str), Ex H H' → H p = none → H' p = some (.lst (ns.map V.str)) → (ns.length : Int) = m → ns.Nodup → (∀ z ∈ ns, isNm z = true) → Q (.ref p) H'
theorem ok_names (T : Txt0 mg) (D : Df K mg "_law_names" s_l_names) (c_l_take : CalG P w K mg base 1 "_law_take" spTake) : CalG P w K mg base 2 "_law_names" spNames := by
  refine cal_mk D sc_l_names (fun _ _ _ _ _ _ us hl => match us, hl with | [_, _], _ => rfl) (fun vs H Q E h => ?_) (fun f cdv A outer s H vs Q E hr hG h => ?_)
  · obtain ⟨b, m, rfl, _⟩ := h
    rfl
  · obtain ⟨b, m, rfl, hb, m0, m25, q⟩ := h
    refine ⟨_, (pss_cons (ps_asg (pe_tup (pa_cons pe_str (pa_cons (pe_lst pa_nil) pa_nil))) (pg_tup rfl (pgs_cons (pg_name (i := 2) sc_l_names.nd rfl (Or.inr rfl)) (pgs_cons (pg_name (i := 3) sc_l_names.nd rfl (Or.inr rfl)) pgs_nil))))
      (pss_cons (ps_set (i := 4) sc_l_names.nd rfl (Or.inl rfl) (pe_split pe_str pe_str))
      (pss_cons (ps_forO (ps_for PassesOwn.never rfl (pi_range1 rfl T.range (pa_cons (pv 1) pa_nil)) (pg_name (i := 5) sc_l_names.nd rfl (Or.inl rfl))
        (pss_cons (ps_setLcO (ps_setLc (i := 6) (own := [("_law_spin", 7)]) rfl sc_l_names.nd rfl rfl (sw_true rfl rfl rfl (by decide +kernel)) (pi_range1 rfl T.range (pa_cons (pe_ix ixAny (pe_lst (pa_cons pe_int (pa_cons pe_int (pa_cons pe_int (pa_cons pe_int pa_nil))))) (pe_cG c_l_take hr hG (by decide) rfl (pa_cons (pv 0) (pa_cons pe_int pa_nil))) (fun _ _ => rfl)) pa_nil)) (blkOk_by (own := [("_law_spin", 7)]) (N := ["_law_bag_here", "_law_many", "_law_letters", "_law_found", "_law_words", "_law_k", "_law_signs", "_law_spin", "_law_at", "_law_rest", "_law_some_here", "_law_one"]) (sc := defScope s_l_names) (by first | decide +kernel | kernel_rfl)) (fun _ _ _ _ _ => pg_name (i := 7) sc_l_names.nd rfl (Or.inl rfl)) (fun _ _ _ _ _ => pts_nil) (fun _ _ _ _ _ => pe_ix ixAnyB (pv 2) (pe_cG c_l_take hr hG (by decide) rfl (pa_cons (pv 0) (pa_cons pe_int pa_nil))) (fun _ _ => rfl))))
      (pss_cons (ps_asg (pe_tup (pa_cons (pe_bm PySem.F.plainAttrs_str PySem.F.slot_str_index PySem.F.type_str_index mt_sindex (pv 2) (pa_cons (pe_ix ixAny (pv 6) pe_int (fun _ _ => rfl)) pa_nil)) (pa_cons (pe_join pe_str (pe_slice slAny (pv 6) (po_some pe_int) po_none)) pa_nil))) (pg_tup rfl (pgs_cons (pg_name (i := 8) sc_l_names.nd rfl (Or.inl rfl)) (pgs_cons (pg_name (i := 9) sc_l_names.nd rfl (Or.inr rfl)) pgs_nil))))
      (pss_cons (ps_set (i := 10) sc_l_names.nd rfl (Or.inl rfl) (pe_op opAdd (pe_op opMul (pe_slice slAny (pv 4) (po_some (pv 8)) po_none) (pe_callTy call_int1 (by rfl) T.int (by decide +kernel) (pa_cons (pe_cmpR (opEq hr) (pe_cG c_l_take hr hG (by decide) rfl (pa_cons (pv 0) (pa_cons pe_int pa_nil))) pe_int (nomark _)) pa_nil))) (pe_lcO (pe_lc (own := [("_law_one", 11)]) rfl sc_l_names.nd (piAny (pe_op opAdd (pe_slice slAny (pv 2) (po_some (pv 8)) po_none) (pe_slice slAny (pv 2) po_none (po_some (pv 8))))) (blkOk_by (own := [("_law_one", 11)]) (N := ["_law_bag_here", "_law_many", "_law_letters", "_law_found", "_law_words", "_law_k", "_law_signs", "_law_spin", "_law_at", "_law_rest", "_law_some_here", "_law_one"]) (sc := defScope s_l_names) (by first | decide +kernel | kernel_rfl)) (fun _ _ _ _ _ => pg_name (i := 11) sc_l_names.nd rfl (Or.inl rfl)) (fun _ _ _ _ _ => pts_nil) (fun _ _ _ _ _ => pe_op opAddB (pv 11) (pv 9))))))
      (pss_one (ps_expr (pe_bm PySem.F.plainAttrs_list PySem.F.slot_list_append PySem.F.type_list_append mt_append (pv 3) (pa_cons (pe_ix ixAny (pe_lcO (pe_lc (own := [("_law_one", 11)]) rfl sc_l_names.nd (piAny (pv 10)) (blkOk_by (own := [("_law_one", 11)]) (N := ["_law_bag_here", "_law_many", "_law_letters", "_law_found", "_law_words", "_law_k", "_law_signs", "_law_spin", "_law_at", "_law_rest", "_law_some_here", "_law_one"]) (sc := defScope s_l_names) (by first | decide +kernel | kernel_rfl)) (fun _ _ _ _ _ => pg_name (i := 11) sc_l_names.nd rfl (Or.inl rfl)) (fun _ _ _ _ _ => pts_one (pt_cmpR opNotInB (pv 11) (pv 3) rfl)) (fun _ _ _ _ _ => pv 11))) pe_int (fun _ _ => rfl)) pa_nil)))))))))
      (pss_one (ps_ret (pv 3)))))), ?_⟩
    -- letters, found = '..', []
    refine ⟨Nat.zero_le _, fun fp hfp => ?_⟩
    generalize hq1 : upd H fp _ = H0
    obtain ⟨e0, h0⟩ := gen1 hq1 hfp
    refine ⟨by show 2 ≤ sizeLine; decide, fun tp htp => ?_⟩
    generalize hqt : upd H0 tp _ = H1
    obtain ⟨et, ht⟩ := gen1 hqt htp
    have e1 := e0.trans et
    have h1 := et _ _ h0
    refine ⟨tp, _, rfl, st_of ht, rfl, _, _, rfl, _, _, rfl, rfl, ?_⟩
    -- words
    refine ⟨⟨_, rfl⟩, _, _, rfl, rfl, (by decide), (by decide), fun wp hwp => ?_⟩
    generalize hq2 : upd H1 wp _ = H2
    obtain ⟨e2, h2⟩ := gen1 hq2 hwp
    have h2 : H2 wp = some (.lst (WL.map V.str)) := h2.trans (by rw [← wl_split]; rfl)
    refine ⟨_, rfl, m, rfl, by omega, by omega, ?_⟩
    refine frG (walk_range (lo := 0) (n := m.toNat)) (fun i σ H' => ∃ (ns : List Str) (x5 x6 x8 x9 x10 : Option V), σ = [some (.ref b), some (.int m), some (.str LET), some (.ref fp), some (.ref wp), x5, x6, none, x8, x9, x10, none] ∧ Ex H H' ∧
      H' fp = some (.lst (ns.map V.str)) ∧ H' wp = some (.lst (WL.map V.str)) ∧ ns.length = i ∧ ns.Nodup ∧ ∀ z ∈ ns, isNm z = true) ?_ (fun _ _ _ _ _ => trivial) ?_ ?_
    · exact ⟨[], none, none, none, none, none, rfl, e1.trans e2, e2 _ _ h1, h2, rfl, List.nodup_nil, fun z hz => by cases hz⟩
    · rintro i x σ H3 H4 hi ⟨ns, x5, x6, x8, x9, x10, rfl, e3, hf, hw, hl, hnd, hnm⟩ ⟨rfl, rfl⟩
      -- signs
      refine ⟨by show 4 ≤ sizeLine; decide, fun l4 hl4 => ?_⟩
      generalize hq5 : upd H4 l4 _ = H5
      obtain ⟨e5, h5⟩ := gen1 hq5 hl4
      refine ⟨_, rfl, b, 4, rfl, hb.ex (e3.trans e5), by decide, by decide, fun H6 r r0 r1 e6 => ?_⟩
      obtain ⟨n, n1, n8, hn⟩ := four_at r0 r1
      refine .inl ⟨l4, _, r, _, rfl, rfl, sq_of (e6 _ _ h5), hn, ?_⟩
      refine ⟨(n : Int), rfl, by omega, by omega, ?_⟩
      refine lcG (walk_range (lo := 0) (n := (n : Int).toNat)) (by omega) trivial (fun _ _ _ _ => trivial) yFn_ex (fun i ys _ => ∃ cl : List Nat, ys = (cl.map sgn).map V.str ∧ cl.length = i ∧ cl.all lowc = true) (fun _ _ _ _ _ h => h) ⟨[], rfl, rfl, rfl⟩ ?_ ?_
      · rintro j x H7 H8 ys hj e7 ⟨rfl, rfl⟩ ⟨cl, rfl, hcl, hlow⟩ N N0 kN kN0
        refine ⟨rfl, ?_⟩
        refine ⟨_, rfl, _, rfl, b, 26, rfl, hb.ex (((e3.trans e5).trans e6).trans e7), by decide, by decide, fun H9 r r0 r1 e9 => ?_⟩
        obtain ⟨j, rfl⟩ : ∃ j : Nat, r = (j : Int) := ⟨r.toNat, by omega⟩
        have ha := let_at ⟨j, by omega⟩
        refine .inr (.inr (.inl ⟨_, _, 97 + j, rfl, rfl, by decide, ha, ?_⟩))
        refine kN _ _ e9 ⟨cl ++ [97 + j], by simp [sgn], by simp [hcl], ?_⟩
        rw [List.all_append, hlow]
        simp [lowc]
        omega
      · rintro sp H7 ys hsp e7 h7 _ ⟨cl, rfl, hcl, hlow⟩
        -- at, rest
        have hcn : cl.length = n := by rw [hcl]; rfl
        obtain ⟨c0, cr, rfl⟩ : ∃ c0 cr, cl = c0 :: cr := by
          cases cl with
          | nil => rw [List.length_nil] at hcn; omega
          | cons c r => exact ⟨c, r, rfl⟩
        rw [List.all_cons, Bool.and_eq_true] at hlow
        obtain ⟨hc0, hcr⟩ := hlow
        obtain ⟨j0, rfl⟩ : ∃ j : Fin 26, c0 = 97 + j.val := by
          simp only [lowc, Bool.and_eq_true, decide_eq_true_eq] at hc0
          exact ⟨⟨c0 - 97, by omega⟩, by show c0 = 97 + (c0 - 97); omega⟩
        have hcrl : cr.length ≤ 7 := by rw [List.length_cons] at hcn; omega
        refine ⟨_, rfl, rfl, _, rfl, .inl ⟨sp, _, 0, .str (sgn (97 + j0.val)), rfl, rfl, sq_of h7, atI_nat (j := 0) rfl, ?_⟩⟩
        refine ⟨LET, sgn (97 + j0.val), j0.val, [], rfl, rfl, let_occ j0, ?_⟩
        refine ⟨⟨_, rfl⟩, _, rfl, 1, rfl, .inl ⟨sp, _, rfl, sq_of h7, fun l8 hl8 => ?_⟩⟩
        generalize hq8 : upd H7 l8 _ = H8
        obtain ⟨e8, h8⟩ := gen1 hq8 hl8
        have h8 : H8 l8 = some (.lst ((cr.map sgn).map V.str)) := by
          rw [h8]
          have z := cut_from (((((97 + j0.val) :: cr : List Nat)).map sgn).map V.str) 1
          rw [show (some (1 : Int)) = some ((1 : Nat) : Int) from rfl, z]
          rfl
        refine ⟨_, l8, cr.map sgn, rfl, rfl, .inl (sq_of h8), ?_, ?_⟩
        · have z := sum_sgn cr
          rw [z, List.length_map]
          show cr.length + cr.length * 0 ≤ 16777216
          omega
        generalize hR : Txt.join _ (cr.map sgn) = R
        have hR : R = SX.S cr := hR.symm.trans (join_sgn cr)
        refine ⟨by show 2 ≤ sizeLine; decide, fun t9 ht9 => ?_⟩
        generalize hq9 : upd H8 t9 _ = H9
        obtain ⟨e9, h9⟩ := gen1 hq9 ht9
        refine ⟨t9, _, rfl, st_of h9, rfl, _, _, rfl, _, _, rfl, rfl, ?_⟩
        have ee := (((e5.trans e6).trans e7).trans e8).trans e9
        -- some = words[at:] * int(take(8) == 0) + ..
        refine ⟨_, rfl, _, rfl, _, rfl, .inl ⟨wp, _, rfl, sq_of (ee _ _ hw), fun l10 hl10 => ?_⟩⟩
        generalize hq10 : upd H9 l10 _ = H10
        obtain ⟨e10, h10⟩ := gen1 hq10 hl10
        refine ⟨_, rfl, b, 8, rfl, hb.ex ((e3.trans ee).trans e10), by decide, by decide, fun H11 r r0 r1 e11 => ?_⟩
        refine .inl ⟨rfl, .inr ⟨_, rfl, ?_⟩⟩
        have hz10 : H10 l10 = some (.lst ((WL.drop j0.val).map V.str)) := by
          rw [h10, cut_from, List.map_drop]
        obtain ⟨kk, hkk⟩ : ∃ kk : Nat, (kk = 0 ∨ kk = 1) ∧ (if decide (V.int r = V.int 0) = true then (1 : Int) else 0) = (kk : Int) := by
          by_cases hz : decide (V.int r = V.int 0) = true
          · exact ⟨1, .inr rfl, by rw [if_pos hz]; rfl⟩
          · exact ⟨0, .inl rfl, by rw [if_neg hz]; rfl⟩
        refine .inr ⟨l10, (kk : Int), (WL.drop j0.val).map V.str, rfl, by rw [hkk.2], e11 _ _ hz10, by omega, by omega, ?_, fun l12 hl12 => ?_⟩
        · refine sz_of ?_
          rw [List.length_map, List.length_drop, Int.toNat_natCast]
          have z : WL.length = 20 := rfl
          rw [z]
          rcases hkk.1 with rfl | rfl <;> omega
        generalize hq12 : upd H11 l12 _ = H12
        obtain ⟨e12, h12⟩ := gen1 hq12 hl12
        obtain ⟨W0, hW0, hW1, hW2⟩ : ∃ W0 : List Str, H12 l12 = some (.lst (W0.map V.str)) ∧ W0.length ≤ 20 ∧ W0.all isNm = true := by
          rw [h12, Int.toNat_natCast]
          rcases hkk.1 with rfl | rfl
          · exact ⟨[], rfl, by decide, rfl⟩
          · refine ⟨WL.drop j0.val, by simp, ?_, ?_⟩
            · rw [List.length_drop]
              have z : WL.length = 20 := rfl
              omega
            · rw [List.all_eq_true]
              exact fun x hx => (List.all_eq_true.mp wl_nm) x (List.drop_subset _ _ hx)
        refine .inr (.inr ⟨_, rfl, _, rfl, _, rfl, .inr (.inr ⟨LET, rfl, by decide, ?_⟩)⟩)
        refine ⟨_, rfl, _, rfl, _, rfl, .inr (.inr ⟨LET, rfl, by decide, ?_⟩)⟩
        refine .inr (.inl ⟨_, _, rfl, rfl, sz_of (Nat.le_trans (let_cut j0) (by decide)), _, rfl, ?_⟩)
        obtain ⟨rnd, rlow, rlen⟩ := let_rot j0
        generalize hrot : (cutS LET (some (j0.val : Int)) none ++ cutS LET none (some (j0.val : Int))) = ROT at rnd rlow rlen
        have eW := (ee.trans e10).trans (e11.trans e12)
        have hrotl : ROT.cps.size = 26 := by rw [← rlen, Array.length_toList]
        refine lcG (walk_str (z := ROT)) (by rw [hrotl]; decide) trivial (fun _ _ _ _ => trivial) (fun _ _ _ _ h => ex_eq h.1) (fun i ys _ => ys = (((TL.tl ROT).take i).map fun c => sgn c ++ R).map V.str) (fun _ _ _ _ _ h => h) rfl ?_ ?_
        · rintro j x H13 H14 ys hj e13 ⟨rfl, c, hc, rfl⟩ rfl N N0 kN kN0
          refine ⟨rfl, ?_⟩
          refine ⟨_, rfl, _, rfl, .inr (.inl ⟨sgn c, R, rfl, rfl, ?_, ?_⟩)⟩
          · rw [hR]
            show 1 + cr.toArray.size ≤ sizeLine
            refine sz_of ?_
            rw [List.size_toArray]
            omega
          · refine kN _ _ (Ex.refl _) ?_
            have hc' : (TL.tl ROT)[j]? = some c := by rw [Array.getElem?_toList]; exact hc
            rw [List.take_add_one, hc', List.map_append, List.map_append]
            rfl
        · rintro l15 H15 ys hl15 e15 h15 _ rfl
          rw [hrotl, List.take_of_length_le (by rw [rlen]; decide)] at h15
          have c2l : ((TL.tl ROT).map fun c => sgn c ++ R).length = 26 := by rw [List.length_map]; exact rlen
          refine .inr (.inr (.inl ⟨l12, l15, W0.map V.str, ((TL.tl ROT).map fun c => sgn c ++ R).map V.str, rfl, rfl, e15 _ _ hW0, h15, ?_, fun l16 hl16 => ?_⟩))
          · rw [List.length_map, List.length_map]
            refine sz_of ?_
            omega
          generalize hq16 : upd H15 l16 _ = H16
          obtain ⟨e16, h16⟩ := gen1 hq16 hl16
          rw [← List.map_append] at h16
          have eA := (eW.trans e15).trans e16
          have hf16 := eA _ _ hf
          have hcl2 : (W0 ++ (TL.tl ROT).map fun c => sgn c ++ R).length ≤ 46 := by
            rw [List.length_append, c2l]
            omega
          have hcn2 : ∀ z ∈ (W0 ++ (TL.tl ROT).map fun c => sgn c ++ R), isNm z = true := by
            intro z hz
            rcases List.mem_append.mp hz with hz | hz
            · exact (List.all_eq_true.mp hW2) z hz
            · obtain ⟨c, hc, rfl⟩ := List.mem_map.mp hz
              have lc := (List.all_eq_true.mp rlow) c hc
              have e1 : TL.tl (sgn c ++ R) = c :: cr := by
                rw [TL.tl_append, hR]
                rfl
              unfold isNm
              rw [TL.len_tl, e1, List.all_cons, lc, hcr, List.length_cons]
              simp
              omega
          have hmore : ∃ z ∈ (W0 ++ (TL.tl ROT).map fun c => sgn c ++ R), z ∉ ns := by
            obtain ⟨z, hz, hz2⟩ := more_left ((TL.tl ROT).map fun c => sgn c ++ R) ns (by
              rw [List.Nodup, List.pairwise_map]
              refine List.Pairwise.imp (fun {a b} hab e => hab ?_) rnd
              have q := congrArg TL.tl e
              rw [TL.tl_append, TL.tl_append] at q
              exact (List.cons.inj q).1) (by rw [c2l]; omega)
            exact ⟨z, List.mem_append_right _ hz, hz2⟩
          generalize (W0 ++ (TL.tl ROT).map fun c => sgn c ++ R) = C at h16 hcl2 hcn2 hmore
          refine ⟨_, rfl, .inl ⟨rfl, _, sq_of hf16⟩, .inl ⟨_, rfl, l16, rfl, ⟨_, sq_of h16⟩, ?_⟩⟩
          refine lcG (walk_list (xs := C.map V.str)) (by rw [List.length_map]; omega) (sq_of h16) (fun _ _ e h => ex_l e h) yAt_ex (fun i ys _ => ys = ((C.take i).filter fun z => !decide (z ∈ ns)).map V.str) (fun _ _ _ _ _ h => h) rfl ?_ ?_
          · rintro j x H17 H18 ys hj e17 ⟨rfl, hx⟩ rfl N N0 kN kN0
            obtain ⟨z, hz, rfl⟩ := str_at hx
            refine ⟨rfl, ?_⟩
            refine ⟨_, rfl, _, rfl, .inl ⟨fp, _, rfl, .inl (sq_of (e17 _ _ hf16)), rfl, flat_strs ns, _, rfl, ?_⟩⟩
            have hin : (if true = true then !inV (V.str z) (ns.map V.str) else inV (V.str z) (ns.map V.str)) = !decide (z ∈ ns) := by
              rw [if_pos rfl, in_strs]
            rw [hin]
            by_cases hm : (!decide (z ∈ ns)) = true
            · rw [hm]
              refine iteT ⟨_, rfl, kN _ _ (Ex.refl _) ?_⟩
              rw [List.take_add_one, hz, List.filter_append, Option.toList, List.filter_cons, if_pos hm, List.map_append]
              rfl
            · rw [show (!decide (z ∈ ns)) = false by simpa using hm]
              refine iteF (kN0 _ (Ex.refl _) ?_)
              rw [List.take_add_one, hz, List.filter_append, Option.toList, List.filter_cons, if_neg hm, List.map_append]
              simp
          · rintro l17 H17 ys hl17 e17 h17 _ rfl
            rw [List.take_of_length_le (by rw [List.length_map]; exact Nat.le_refl _)] at h17
            obtain ⟨z0, zr, hz0⟩ : ∃ z0 zr, (C.filter fun z => !decide (z ∈ ns)) = z0 :: zr := by
              cases hc : (C.filter fun z => !decide (z ∈ ns)) with
              | nil =>
                obtain ⟨z, hz, hz2⟩ := hmore
                have q : z ∈ C.filter fun z => !decide (z ∈ ns) := List.mem_filter.mpr ⟨hz, by simpa using hz2⟩
                rw [hc] at q
                cases q
              | cons z0 zr => exact ⟨z0, zr, rfl⟩
            rw [hz0] at h17
            have hm0 : z0 ∈ C.filter fun z => !decide (z ∈ ns) := by rw [hz0]; exact List.mem_cons_self
            obtain ⟨hz1, hz2⟩ := List.mem_filter.mp hm0
            have hz2 : z0 ∉ ns := by simpa using hz2
            refine .inl ⟨l17, _, 0, .str z0, rfl, rfl, sq_of h17, atI_nat (j := 0) rfl, ?_⟩
            have hf17 := e17 _ _ hf16
            refine ⟨fp, _, .str z0, rfl, rfl, hf17, ?_, ?_⟩
            · rw [List.length_map]
              refine sz_lt ?_
              omega
            · have fe := (e3.trans eA).trans e17
              have nfw : wp ≠ fp := fun z => by
                have q := fe wp
                rw [z] at hwp
                rw [h1] at hwp
                cases hwp
              refine ⟨ns ++ [z0], _, _, _, _, _, rfl, Ex.mut fe hfp, ?_, ?_, ?_, ?_, ?_⟩
              · rw [upd_same, List.map_append]
                rfl
              · rw [upd_ne nfw]
                exact e17 _ _ (eA _ _ hw)
              · rw [List.length_append, hl]
                rfl
              · rw [List.nodup_append]
                refine ⟨hnd, by simp, fun a ha b hb e => hz2 ?_⟩
                rw [List.mem_singleton] at hb
                rw [← hb, ← e]
                exact ha
              · intro z hz
                rcases List.mem_append.mp hz with hz | hz
                · exact hnm z hz
                · rw [List.mem_singleton] at hz
                  rw [hz]
                  exact hcn2 z0 hz1
    · rintro σ H3 ⟨ns, x5, x6, x8, x9, x10, rfl, e3, hf, hw, hl, hnd, hnm⟩
      exact ⟨_, rfl, q _ fp ns e3 hfp hf (by omega) hnd hnm⟩
end
/-! ### atoms and facts as data -/
abbrev A3 := Str × Str × Str
def sl3 (a : A3) : List Str := [a.1, a.2.1, a.2.2]
def AtomAt (H : Hp) (v : V) (a : A3) : Prop := ∃ p, v = .ref p ∧ H p = some (.tup ((sl3 a).map V.str))
theorem AtomAt.tex {H H' : Hp} {v : V} {a : A3} (e : TEx H H') (h : AtomAt H v a) : AtomAt H' v a := by
  obtain ⟨p, h1, h2⟩ := h
  exact ⟨p, h1, e _ _ h2⟩
theorem AtomAt.ex {H H' : Hp} {v : V} {a : A3} (e : Ex H H') (h : AtomAt H v a) : AtomAt H' v a := h.tex (TEx.of e)
def AllAt (H : Hp) : List V → List A3 → Prop
  | [], [] => True
  | v :: vs, a :: as => AtomAt H v a ∧ AllAt H vs as
  | _, _ => False
theorem AllAt.tex {H H' : Hp} (e : TEx H H') : ∀ {vs : List V} {as : List A3}, AllAt H vs as → AllAt H' vs as
  | [], [], _ => trivial
  | _ :: _, _ :: _, h => ⟨h.1.tex e, AllAt.tex e h.2⟩
  | [], _ :: _, h => h.elim
  | _ :: _, [], h => h.elim
theorem AllAt.len {H : Hp} : ∀ {vs : List V} {as : List A3}, AllAt H vs as → vs.length = as.length
  | [], [], _ => rfl
  | _ :: vs, _ :: as, h => by rw [List.length_cons, List.length_cons, AllAt.len h.2]
  | [], _ :: _, h => h.elim
  | _ :: _, [], h => h.elim
theorem AllAt.at {H : Hp} : ∀ {vs : List V} {as : List A3} {i : Nat} {v : V}, AllAt H vs as → vs[i]? = some v → ∃ a, as[i]? = some a ∧ AtomAt H v a
  | _ :: _, a :: _, 0, _, h, e => ⟨a, rfl, by cases e; exact h.1⟩
  | _ :: vs, _ :: as, i + 1, v, h, e => AllAt.at (vs := vs) (as := as) (i := i) h.2 e
  | [], [], _, _, _, e => by simp at e
  | [], _ :: _, _, _, h, _ => h.elim
  | _ :: _, [], _, _, h, _ => h.elim
theorem AllAt.snoc {H : Hp} {v : V} {a : A3} (hv : AtomAt H v a) : ∀ {vs : List V} {as : List A3}, AllAt H vs as → AllAt H (vs ++ [v]) (as ++ [a])
  | [], [], _ => ⟨hv, trivial⟩
  | _ :: vs, _ :: as, h => ⟨h.1, AllAt.snoc hv h.2⟩
  | [], _ :: _, h => h.elim
  | _ :: _, [], h => h.elim
def FactAt (H : Hp) (v : V) (as : List A3) : Prop := ∃ p xs, v = .ref p ∧ H p = some (.tup xs) ∧ AllAt H xs as
theorem FactAt.ex {H H' : Hp} {v : V} {as : List A3} (e : Ex H H') (h : FactAt H v as) : FactAt H' v as := by
  obtain ⟨p, xs, h1, h2, h3⟩ := h
  exact ⟨p, xs, h1, e _ _ h2, h3.tex (TEx.of e)⟩
def atD (a : A3) : PyData := .tuple ((sl3 a).map PyData.str)
theorem dp_strs {K : PySem.W.Frag} {H : Hp} : ∀ ns : List Str, DpAll K H (ns.map V.str) (ns.map PyData.str)
  | [] => .nil
  | n :: ns => .cons (.str n) (dp_strs ns)
theorem AtomAt.dp {K : PySem.W.Frag} {H : Hp} {v : V} {a : A3} (h : AtomAt H v a) : Dp K H v (atD a) := by
  obtain ⟨p, rfl, h2⟩ := h
  exact .tup (st_of h2) (dp_strs _)
theorem AllAt.dp {K : PySem.W.Frag} {H : Hp} : ∀ {vs : List V} {as : List A3}, AllAt H vs as → DpAll K H vs (as.map atD)
  | [], [], _ => .nil
  | _ :: vs, _ :: as, h => .cons h.1.dp (AllAt.dp h.2)
  | [], _ :: _, h => h.elim
  | _ :: _, [], h => h.elim
def faD (as : List A3) : PyData := .tuple (as.map atD)
theorem FactAt.dp {K : PySem.W.Frag} {H : Hp} {v : V} {as : List A3} (h : FactAt H v as) : Dp K H v (faD as) := by
  obtain ⟨p, xs, rfl, h2, h3⟩ := h
  exact .tup (st_of h2) h3.dp
/-! ### the mathematics -/
def isR (r : Str) : Bool := r == "eq" || r == "lt" || r == "gt" || r == ""
def trR (r : Str) : Str := if r = "lt" then "gt" else if r = "gt" then "lt" else r
def trA (a : A3) : A3 := (trR a.1, a.2.2, a.2.1)
def okp (p a : Str) : Bool := (("" : Str) == p) || (a == p)
def fitL (p a : A3) : List Bool := List.zipWith okp (sl3 p) (sl3 a)
def fitB (p a : A3) : Bool := (fitL p a).all id
theorem isR_cases {r : Str} (h : isR r = true) : r = "eq" ∨ r = "lt" ∨ r = "gt" ∨ r = "" := by
  simp only [isR, Bool.or_eq_true, beq_iff_eq] at h
  rcases h with ((h | h) | h) | h
  · exact .inl h
  · exact .inr (.inl h)
  · exact .inr (.inr (.inl h))
  · exact .inr (.inr (.inr h))
theorem trR_trR {r : Str} (h : isR r = true) : trR (trR r) = r := by
  rcases isR_cases h with rfl | rfl | rfl | rfl <;> decide +kernel
theorem trR_isR {r : Str} (h : isR r = true) : isR (trR r) = true := by
  rcases isR_cases h with rfl | rfl | rfl | rfl <;> decide +kernel
theorem trA_trA {a : A3} (h : isR a.1 = true) : trA (trA a) = a := by
  obtain ⟨r, l, t⟩ := a
  show (trR (trR r), l, t) = (r, l, t)
  rw [trR_trR h]
theorem okp_trR {p a : Str} (hp : isR p = true) (ha : isR a = true) : okp (trR p) a = okp p (trR a) := by
  rcases isR_cases hp with rfl | rfl | rfl | rfl <;> rcases isR_cases ha with rfl | rfl | rfl | rfl <;> decide +kernel
theorem fitB_eq (p a : A3) : fitB p a = (okp p.1 a.1 && (okp p.2.1 a.2.1 && okp p.2.2 a.2.2)) := by
  show (okp p.1 a.1 && (okp p.2.1 a.2.1 && (okp p.2.2 a.2.2 && true))) = _
  rw [Bool.and_true]
theorem fitB_tr {p a : A3} (hp : isR p.1 = true) (ha : isR a.1 = true) : fitB (trA p) a = fitB p (trA a) := by
  rw [fitB_eq, fitB_eq]
  show (okp (trR p.1) a.1 && (okp p.2.2 a.2.1 && okp p.2.1 a.2.2)) = (okp p.1 (trR a.1) && (okp p.2.1 a.2.2 && okp p.2.2 a.2.1))
  rw [okp_trR hp ha, Bool.and_comm (okp p.2.2 a.2.1)]
theorem okp_self (a : Str) : okp a a = true := by simp [okp]
theorem fitB_self (a : A3) : fitB a a = true := by
  rw [fitB_eq, okp_self, okp_self, okp_self]
  rfl
def lay (z : Str) : Bool := (PyData.str z).canLay0
def sOk (a : A3) : Bool := lay a.1 && (lay a.2.1 && lay a.2.2)
theorem shp_at {a : A3} (h : sOk a = true) : SeqAt.shaped (atD a) = true := by
  show ((lay a.1 && (lay a.2.1 && (lay a.2.2 && true))) && true) = true
  rw [Bool.and_true, Bool.and_true]
  exact h
theorem nm_ok {z : Str} (h : isNm z = true) : lay z = true := by
  unfold isNm at h
  rw [Bool.and_eq_true] at h
  show z.cps.all (· < 0x110000) = true
  rw [← Array.all_toList, List.all_eq_true]
  intro c hc
  have q := (List.all_eq_true.mp h.2) c hc
  simp only [lowc, Bool.and_eq_true, decide_eq_true_eq] at q
  exact decide_eq_true (by omega)
theorem rel_ok {r : Str} (h : isR r = true) : lay r = true := by
  rcases isR_cases h with rfl | rfl | rfl | rfl <;> decide +kernel
theorem eqv_at (a b : A3) : PyData.eqv (atD a) (atD b) = decide (a = b) := by
  obtain ⟨a1, a2, a3⟩ := a
  obtain ⟨b1, b2, b3⟩ := b
  show (a1 == b1 && (a2 == b2 && (a3 == b3 && true))) = decide ((a1, a2, a3) = (b1, b2, b3))
  rw [Bool.and_true]
  by_cases h1 : a1 = b1 <;> by_cases h2 : a2 = b2 <;> by_cases h3 : a3 = b3 <;> simp [h1, h2, h3]
theorem eqv_ats : ∀ as bs : List A3, PyData.eqvAll (as.map atD) (bs.map atD) = decide (as = bs)
  | [], [] => rfl
  | [], _ :: _ => rfl
  | _ :: _, [] => rfl
  | a :: as, b :: bs => by
    show (PyData.eqv (atD a) (atD b) && PyData.eqvAll (as.map atD) (bs.map atD)) = decide (a :: as = b :: bs)
    rw [eqv_at, eqv_ats as bs]
    by_cases h1 : a = b <;> by_cases h2 : as = bs <;> simp [h1, h2]
theorem shp_fa {as : List A3} (h : as.length ≤ 2) (hs : ∀ a ∈ as, sOk a = true) : SeqAt.shaped (faD as) = true := by
  have hk : ∀ a ∈ as, (atD a).canLay0 = true := fun a ha => (Bool.and_eq_true_iff.mp (shp_at (hs a ha))).1
  match as, h, hk with
  | [], _, _ => rfl
  | [a], _, hk =>
    show (((atD a).canLay0 && true) && true) = true
    rw [hk a (by simp)]
    rfl
  | [a, b], _, hk =>
    show (((atD a).canLay0 && ((atD b).canLay0 && true)) && true) = true
    rw [hk a (by simp), hk b (by simp)]
    rfl
  | _ :: _ :: _ :: _, h, _ => simp at h
theorem eqv_fa (as bs : List A3) : PyData.eqv (faD as) (faD bs) = decide (as = bs) := eqv_ats as bs
def isR3 (r : Str) : Bool := r == "eq" || r == "lt" || r == "gt"
theorem isR_of {r : Str} (h : isR3 r = true) : isR r = true := by
  unfold isR
  unfold isR3 at h
  rw [h]
  rfl
theorem rel_at {r : Int} (h0 : 0 ≤ r) (h1 : r < 4) : ∃ z : Str, isR3 z = true ∧ atI [V.str "eq", V.str "lt", V.str "gt", V.str "lt"] r = some (.str z) := by
  have q : r = 0 ∨ r = 1 ∨ r = 2 ∨ r = 3 := by omega
  rcases q with rfl | rfl | rfl | rfl
  · exact ⟨"eq", by decide +kernel, rfl⟩
  · exact ⟨"lt", by decide +kernel, rfl⟩
  · exact ⟨"gt", by decide +kernel, rfl⟩
  · exact ⟨"lt", by decide +kernel, rfl⟩
theorem okp_full {p a : Str} (h : p ≠ "") : okp p a = decide (p = a) := by
  unfold okp
  have h1 : (("" : Str) == p) = false := beq_eq_false_iff_ne.mpr fun e => h e.symm
  rw [h1, Bool.false_or]
  by_cases e : p = a
  · subst e
    simp
  · have e2 : ¬ a = p := fun z => e z.symm
    have e3 : (a == p) = false := beq_eq_false_iff_ne.mpr e2
    rw [e3]
    simp [e]
theorem fitB_full {p a : A3} (h1 : p.1 ≠ "") (h2 : p.2.1 ≠ "") (h3 : p.2.2 ≠ "") : fitB p a = decide (p = a) := by
  obtain ⟨p1, p2, p3⟩ := p
  obtain ⟨a1, a2, a3⟩ := a
  rw [fitB_eq]
  show (okp p1 a1 && (okp p2 a2 && okp p3 a3)) = _
  rw [okp_full h1, okp_full h2, okp_full h3]
  by_cases e1 : p1 = a1 <;> by_cases e2 : p2 = a2 <;> by_cases e3 : p3 = a3 <;> simp [e1, e2, e3]
theorem fitB_none (a : A3) : fitB ("", "", "") a = true := by
  rw [fitB_eq]
  show ((("" : Str) == "" || _) && (((("" : Str) == "") || _) && ((("" : Str) == "") || _))) = true
  rw [show (("" : Str) == "") = true from by decide +kernel]
  rfl
theorem isR3_ne {r : Str} (h : isR3 r = true) : r ≠ "" := by
  intro e
  subst e
  revert h
  decide +kernel
theorem nm_ne {z : Str} (h : isNm z = true) : z ≠ "" := by
  intro e
  subst e
  revert h
  decide +kernel
abbrev s_l_atom : Stmt := top 34
theorem sc_l_atom : FnScope ["_law_bag_here", "_law_things"] ["_law_bag_here", "_law_things"] (defScope s_l_atom) := ⟨rfl, rfl, rfl, by decide +kernel, rfl, by decide +kernel, by decide +kernel⟩
section
variable {P : Program} {w : World} {K : PySem.W.Frag} {mg : Str → Option Value} {base : Heap}
def spAtom : Sp := fun vs H Q _ => ∃ (b p : Addr) (ns : List Str), vs = [.ref b, .ref p] ∧ BagAt H b ∧ H p = some (.lst (ns.map V.str)) ∧ ns ≠ [] ∧ ns.length ≤ 30 ∧
  ∀ (H' : Hp) (v : V) (a : A3), Ex H H' → AtomAt H' v a → isR3 a.1 = true → a.2.1 ∈ ns → a.2.2 ∈ ns → Q v H'
theorem ok_atom (T : Txt0 mg) (D : Df K mg "_law_atom" s_l_atom) (c_l_take : CalG P w K mg base 1 "_law_take" spTake) (c_l_some : CalG P w K mg base 2 "_law_some" (spSome K)) : CalG P w K mg base 3 "_law_atom" spAtom := by
  refine cal_mk D sc_l_atom (fun _ _ _ _ _ _ us hl => match us, hl with | [_, _], _ => rfl) (fun vs H Q E h => ?_) (fun f cdv A outer s H vs Q E hr hG h => ?_)
  · obtain ⟨b, p, ns, rfl, _⟩ := h
    rfl
  · obtain ⟨b, p, ns, rfl, hb, hp, hne, hl, q⟩ := h
    refine ⟨_, (pss_one (ps_ret (pe_tup (pa_cons (pe_ix ixAny (pe_lst (pa_cons pe_str (pa_cons pe_str (pa_cons pe_str (pa_cons pe_str pa_nil))))) (pe_cG c_l_take hr hG (by decide) rfl (pa_cons (pv 0) (pa_cons pe_int pa_nil))) (fun _ _ => rfl)) (pa_cons (pe_cG c_l_some hr hG (by decide) rfl (pa_cons (pv 0) (pa_cons (pv 1) pa_nil))) (pa_cons (pe_cG c_l_some hr hG (by decide) rfl (pa_cons (pv 0) (pa_cons (pv 1) pa_nil))) pa_nil)))))), ?_⟩
    refine ⟨by show 4 ≤ sizeLine; decide, fun l hl1 => ?_⟩
    generalize hq1 : upd H l _ = H1
    obtain ⟨e1, h1⟩ := gen1 hq1 hl1
    refine ⟨_, rfl, b, 4, rfl, hb.ex e1, by decide, by decide, fun H2 r r0 r1 e2 => ?_⟩
    obtain ⟨z, hz, hat⟩ := rel_at r0 r1
    refine .inl ⟨l, _, r, _, rfl, rfl, sq_of (e2 _ _ h1), hat, ?_⟩
    have e12 := e1.trans e2
    have hne' : ns.map V.str ≠ [] := fun e => hne (List.map_eq_nil_iff.mp e)
    refine ⟨_, rfl, _, rfl, b, p, _, rfl, hb.ex e12, .inl (sq_of (e12 _ _ hp)), hne', by rw [List.length_map]; omega, fun H3 i x e3 hx => ?_⟩
    obtain ⟨x1, hx1, rfl⟩ := str_at hx
    refine ⟨_, rfl, _, rfl, b, p, _, rfl, hb.ex (e12.trans e3), .inl (sq_of (e3 _ _ (e12 _ _ hp))), hne', by rw [List.length_map]; omega, fun H4 j y e4 hy => ?_⟩
    obtain ⟨y1, hy1, rfl⟩ := str_at hy
    refine ⟨by show 3 ≤ sizeLine; decide, fun t ht => ?_⟩
    exact q _ _ (z, x1, y1) (((e12.trans e3).trans e4).trans (Ex.new ht)) ⟨t, rfl, upd_same⟩ hz (List.mem_of_getElem? hx1) (List.mem_of_getElem? hy1)
end
abbrev s_l_fact : Stmt := top 35
theorem sc_l_fact : FnScope ["_law_bag_here", "_law_things", "_law_k"] ["_law_bag_here", "_law_things"] (defScope s_l_fact) := ⟨rfl, rfl, rfl, by decide +kernel, rfl, by decide +kernel, by decide +kernel⟩
section
variable {P : Program} {w : World} {K : PySem.W.Frag} {mg : Str → Option Value} {base : Heap}
def spFact : Sp := fun vs H Q _ => ∃ (b p : Addr) (ns : List Str), vs = [.ref b, .ref p] ∧ BagAt H b ∧ H p = some (.lst (ns.map V.str)) ∧ ns ≠ [] ∧ ns.length ≤ 30 ∧
  ∀ (H' : Hp) (v : V) (as : List A3), Ex H H' → FactAt H' v as → 1 ≤ as.length → as.length ≤ 2 → (∀ a ∈ as, isR3 a.1 = true ∧ a.2.1 ∈ ns ∧ a.2.2 ∈ ns) → Q v H'
theorem ok_fact (T : Txt0 mg) (D : Df K mg "_law_fact" s_l_fact) (c_l_take : CalG P w K mg base 1 "_law_take" spTake) (c_l_atom : CalG P w K mg base 3 "_law_atom" spAtom) : CalG P w K mg base 4 "_law_fact" spFact := by
  refine cal_mk D sc_l_fact (fun _ _ _ _ _ _ us hl => match us, hl with | [_, _], _ => rfl) (fun vs H Q E h => ?_) (fun f cdv A outer s H vs Q E hr hG h => ?_)
  · obtain ⟨b, p, ns, rfl, _⟩ := h
    rfl
  · obtain ⟨b, p, ns, rfl, hb, hp, hne, hl, q⟩ := h
    refine ⟨_, (pss_one (ps_ret (pe_callTy call_tuple_of (by rfl) T.tuple (by decide +kernel) (pa_cons (pe_lcO (pe_lc (own := [("_law_k", 2)]) rfl sc_l_fact.nd (pi_range1 rfl T.range (pa_cons (pe_op opAdd pe_int (pe_op op_fdivW (pe_cG c_l_take hr hG (by decide) rfl (pa_cons (pv 0) (pa_cons pe_int pa_nil))) pe_int)) pa_nil)) (blkOk_by (own := [("_law_k", 2)]) (N := ["_law_bag_here", "_law_things", "_law_k"]) (sc := defScope s_l_fact) (by first | decide +kernel | kernel_rfl)) (fun _ _ _ _ _ => pg_name (i := 2) sc_l_fact.nd rfl (Or.inl rfl)) (fun _ _ _ _ _ => pts_nil) (fun _ _ _ _ _ => pe_cG c_l_atom hr hG (by decide) rfl (pa_cons (pv 0) (pa_cons (pv 1) pa_nil))))) pa_nil)))), ?_⟩
    refine ⟨_, rfl, b, 3, rfl, hb, by decide, by decide, fun H1 r r0 r1 e1 => ?_⟩
    refine ⟨_, _, rfl, rfl, wide_div (b := 30) (by decide) (by decide) (by decide) (by decide), .inl ⟨1, _, rfl, rfl, ?_⟩⟩
    obtain ⟨n, hn, hn1, hn2⟩ : ∃ n : Nat, 1 + r / 2 = (n : Int) ∧ 1 ≤ n ∧ n ≤ 2 := ⟨(1 + r / 2).toNat, by omega, by omega, by omega⟩
    refine ⟨(n : Int), by show [V.int (1 + r / 2)] = _; rw [hn], by omega, by omega, ?_⟩
    refine lcG (walk_range (lo := 0) (n := (n : Int).toNat)) (by omega) trivial (fun _ _ _ _ => trivial) yFn_ex (fun i ys H' => ∃ as : List A3, AllAt H' ys as ∧ as.length = i ∧ ∀ a ∈ as, isR3 a.1 = true ∧ a.2.1 ∈ ns ∧ a.2.2 ∈ ns)
      (fun _ _ _ _ e ⟨as, h1, h2⟩ => ⟨as, h1.tex e, h2⟩) ⟨[], trivial, rfl, fun a ha => by cases ha⟩ ?_ ?_
    · rintro i x H2 H3 ys hi e2 ⟨rfl, rfl⟩ ⟨as, hA, hal, hR⟩ N N0 kN kN0
      refine ⟨rfl, ?_⟩
      have e12 := e1.trans e2
      refine ⟨_, rfl, _, rfl, b, p, ns, rfl, hb.ex e12, e12 _ _ hp, hne, hl, fun H4 v a e4 ha h1 h2 h3 => ?_⟩
      refine kN _ _ e4 ⟨as ++ [a], AllAt.snoc ha (hA.tex (TEx.of e4)), by rw [List.length_append, hal]; rfl, fun x hx => ?_⟩
      rcases List.mem_append.mp hx with hx | hx
      · exact hR x hx
      · rw [List.mem_singleton] at hx
        rw [hx]
        exact ⟨h1, h2, h3⟩
    · rintro l H2 ys hl2 e2 h2 _ ⟨as, hA, hal, hR⟩
      refine ⟨l, _, rfl, .inl ⟨sq_of h2, fun x hx => ?_⟩⟩
      have hal : as.length = n := by rw [hal]; rfl
      exact q _ _ as ((e1.trans e2).trans (Ex.new hx)) ⟨x, ys, rfl, upd_same, hA.tex (TEx.of (Ex.new hx))⟩ (by omega) (by omega) hR
end
abbrev s_l_pattern : Stmt := top 38
theorem sc_l_pattern : FnScope ["_law_bag_here", "_law_things", "_law_atom_here", "_law_manner", "_law_k"] ["_law_bag_here", "_law_things"] (defScope s_l_pattern) := ⟨rfl, rfl, rfl, by decide +kernel, rfl, by decide +kernel, by decide +kernel⟩
section
variable {P : Program} {w : World} {K : PySem.W.Frag} {mg : Str → Option Value} {base : Heap}
def spPattern : Sp := fun vs H Q _ => ∃ (b p : Addr) (ns : List Str), vs = [.ref b, .ref p] ∧ BagAt H b ∧ H p = some (.lst (ns.map V.str)) ∧ ns ≠ [] ∧ ns.length ≤ 30 ∧
  ∀ (H' : Hp) (v : V) (a : A3), Ex H H' → AtomAt H' v a → isR a.1 = true → (a.2.1 = "" ∨ a.2.1 ∈ ns) → (a.2.2 = "" ∨ a.2.2 ∈ ns) → Q v H'
theorem two_at (i : Nat) (h : i < 3) : ∃ d : Int, 0 < d ∧ d < 8 ∧ atI [V.int 1, V.int 2, V.int 4] (i : Int) = some (.int d) := by
  have q : i = 0 ∨ i = 1 ∨ i = 2 := by omega
  rcases q with rfl | rfl | rfl
  · exact ⟨1, by decide, by decide, rfl⟩
  · exact ⟨2, by decide, by decide, rfl⟩
  · exact ⟨4, by decide, by decide, rfl⟩
theorem ok_pattern (T : Txt0 mg) (D : Df K mg "_law_pattern" s_l_pattern) (c_l_take : CalG P w K mg base 1 "_law_take" spTake) (c_l_atom : CalG P w K mg base 3 "_law_atom" spAtom) : CalG P w K mg base 4 "_law_pattern" spPattern := by
  refine cal_mk D sc_l_pattern (fun _ _ _ _ _ _ us hl => match us, hl with | [_, _], _ => rfl) (fun vs H Q E h => ?_) (fun f cdv A outer s H vs Q E hr hG h => ?_)
  · obtain ⟨b, p, ns, rfl, _⟩ := h
    rfl
  · obtain ⟨b, p, ns, rfl, hb, hp, hne, hl, q⟩ := h
    refine ⟨_, (pss_cons (ps_asg (pe_tup (pa_cons (pe_cG c_l_atom hr hG (by decide) rfl (pa_cons (pv 0) (pa_cons (pv 1) pa_nil))) (pa_cons (pe_cG c_l_take hr hG (by decide) rfl (pa_cons (pv 0) (pa_cons pe_int pa_nil))) pa_nil))) (pg_tup rfl (pgs_cons (pg_name (i := 2) sc_l_pattern.nd rfl (Or.inr rfl)) (pgs_cons (pg_name (i := 3) sc_l_pattern.nd rfl (Or.inr rfl)) pgs_nil))))
      (pss_one (ps_ret (pe_callTy call_tuple_of (by rfl) T.tuple (by decide +kernel) (pa_cons (pe_lcO (pe_lc (own := [("_law_k", 4)]) rfl sc_l_pattern.nd (pi_range1 rfl T.range (pa_cons pe_int pa_nil)) (blkOk_by (own := [("_law_k", 4)]) (N := ["_law_bag_here", "_law_things", "_law_atom_here", "_law_manner", "_law_k"]) (sc := defScope s_l_pattern) (by first | decide +kernel | kernel_rfl)) (fun _ _ _ _ _ => pg_name (i := 4) sc_l_pattern.nd rfl (Or.inl rfl)) (fun _ _ _ _ _ => pts_nil) (fun _ _ _ _ _ => pe_ifExp (pt_cmpR (opEqB hr) (pe_op op_mod (pe_callTy call_int1 (by rfl) T.int (by decide +kernel) (pa_cons (pe_op op_fdivW (pv 3) (pe_ix ixAnyB (pe_lst (pa_cons pe_int (pa_cons pe_int (pa_cons pe_int pa_nil)))) (pv 4) (fun _ _ => rfl))) pa_nil)) pe_int) pe_int (nomark _)) (pe_ix ixAnyB (pv 2) (pv 4) (fun _ _ => rfl)) pe_str))) pa_nil))))), ?_⟩
    refine ⟨_, rfl, _, rfl, b, p, ns, rfl, hb, hp, hne, hl, fun H1 va a e1 ha hR h1 h2 => ?_⟩
    refine ⟨_, rfl, b, 8, rfl, hb.ex e1, by decide, by decide, fun H2 r r0 r1 e2 => ?_⟩
    obtain ⟨pa, rfl, hpa⟩ := ha.ex e2
    refine ⟨by show 2 ≤ sizeLine; decide, fun tq htq => ?_⟩
    generalize hqt : upd H2 tq _ = H2' 
    obtain ⟨et, ht⟩ := gen1 hqt htq
    refine ⟨tq, _, rfl, st_of ht, rfl, _, _, rfl, _, _, rfl, rfl, ?_⟩
    have hpa := et _ _ hpa
    have e2 := e2.trans et
    refine ⟨3, rfl, by decide, by decide, ?_⟩
    refine lcG (walk_range (lo := 0) (n := 3)) (by decide) trivial (fun _ _ _ _ => trivial) yFn_ex (fun i ys _ => ∃ zs : List Str, ys = zs.map V.str ∧ zs.length = i ∧ ∀ (j : Nat) z, zs[j]? = some z → z = "" ∨ (sl3 a)[j]? = some z) (fun _ _ _ _ _ h => h) ⟨[], rfl, rfl, fun j z hz => by simp at hz⟩ ?_ ?_
    · rintro i x H3 H4 ys hi e3 ⟨rfl, rfl⟩ ⟨zs, rfl, hzl, hzs⟩ N N0 kN kN0
      have z0 : (0 : Int) + (i : Int) = (i : Int) := Int.zero_add _
      obtain ⟨d, d0, d8, hd⟩ := two_at i hi
      refine ⟨rfl, ?_⟩
      refine ⟨_, rfl, by show 3 ≤ sizeLine; decide, fun l hl1 => ?_⟩
      generalize hq5 : upd H4 l _ = H5
      obtain ⟨e5, h5⟩ := gen1 hq5 hl1
      refine ⟨_, rfl, .inl ⟨l, _, _, _, rfl, rfl, sq_of h5, (by rw [z0]; exact hd), ?_⟩⟩
      refine ⟨_, _, rfl, rfl, wide_div d0 (b := 30) (by omega) (by decide) (by decide), .inl ⟨_, rfl, ?_⟩⟩
      refine ⟨_, _, rfl, rfl, (show (0 : Int) < 2 by decide), .inl ⟨rfl, _, rfl, ?_⟩⟩
      have grow : ∀ z : Str, (z = "" ∨ (sl3 a)[i]? = some z) → ∃ zs' : List Str, zs.map V.str ++ [V.str z] = zs'.map V.str ∧ zs'.length = i + 1 ∧ ∀ (j : Nat) y, zs'[j]? = some y → y = "" ∨ (sl3 a)[j]? = some y := fun z hz =>
        ⟨zs ++ [z], by rw [List.map_append]; rfl, by rw [List.length_append, hzl]; rfl, fun j y hy => by
          rw [List.getElem?_append] at hy
          split at hy
          · exact hzs j y hy
          · rename_i hj
            rw [List.getElem?_singleton] at hy
            split at hy
            · cases hy
              have : j = i := by omega
              rw [this]
              exact hz
            · cases hy⟩
      have hi3 : i < (sl3 a).length := hi
      refine ite2 (fun _ => ?_) (fun _ => ?_)
      · refine ⟨_, rfl, _, rfl, .inr (.inl ⟨pa, _, _, .str (sl3 a)[i], rfl, rfl, st_of (e5 _ _ (e3 _ _ hpa)), ?_, ?_⟩)⟩
        · rw [z0]
          refine atI_nat ?_
          rw [List.getElem?_map, List.getElem?_eq_getElem hi3]
          rfl
        · exact kN _ _ e5 (grow _ (.inr (List.getElem?_eq_getElem hi3)))
      · exact kN _ _ e5 (grow _ (.inl rfl))
    · rintro l H3 ys hl3 e3 h3 _ ⟨zs, rfl, hzl, hzs⟩
      obtain ⟨z1, z2, z3, rfl⟩ : ∃ z1 z2 z3, zs = [z1, z2, z3] := by
        match zs, hzl with
        | [z1, z2, z3], _ => exact ⟨z1, z2, z3, rfl⟩
      refine ⟨l, _, rfl, .inl ⟨sq_of h3, fun x hx => ?_⟩⟩
      refine q _ _ (z1, z2, z3) (((e1.trans e2).trans e3).trans (Ex.new hx)) ⟨x, rfl, upd_same⟩ ?_ ?_ ?_
      · rcases hzs 0 z1 rfl with h | h
        · show isR z1 = true
          rw [h]
          decide +kernel
        · cases h
          exact isR_of hR
      · rcases hzs 1 z2 rfl with h | h
        · exact .inl h
        · cases h
          exact .inr h1
      · rcases hzs 2 z3 rfl with h | h
        · exact .inl h
        · cases h
          exact .inr h2
end
abbrev s_l_alike : Stmt := top 30
theorem sc_l_alike : FnScope ["_law_found", "_law_due"] ["_law_found", "_law_due"] (defScope s_l_alike) := ⟨rfl, rfl, rfl, by decide +kernel, rfl, by decide +kernel, by decide +kernel⟩
section
variable {P : Program} {w : World} {K : PySem.W.Frag} {mg : Str → Option Value} {base : Heap}
theorem ok_alike (T : Txt0 mg) (D : Df K mg "_law_alike" s_l_alike) : CalG P w K mg base 1 "_law_alike" (spAlike K) := by
  refine cal_mk D sc_l_alike (fun _ _ _ _ _ _ us hl => match us, hl with | [_, _], _ => rfl) (fun vs H Q E h => ?_) (fun f cdv A outer s H vs Q E hr hG h => ?_)
  · obtain ⟨a, b, d, rfl, _⟩ := h
    rfl
  · obtain ⟨a, b, d, rfl, ha, hb, hf, q⟩ := h
    refine ⟨_, (pss_one (ps_ret (pe_and (pe_cmpR (opEq hr) (pv 0) (pv 1) (nomark _)) (pe_one (pe_cmpR (opEq hr) (pe_callB (callReprA hG hr) (by rfl) T.repr (by decide +kernel) (pa_cons (pv 0) pa_nil)) (pe_callB (callReprA hG hr) (by rfl) T.repr (by decide +kernel) (pa_cons (pv 1) pa_nil)) (nomark _)))))), ?_⟩
    refine ⟨_, rfl, _, rfl, .inr ⟨d, d, ha, hb, hf.shp, hf.shp, _, rfl, ?_⟩⟩
    rw [PySem.SeqAt.eqv_refl d hf.1]
    refine ⟨_, rfl, a, d, rfl, ha, hf, ?_⟩
    refine ⟨_, rfl, b, d, rfl, hb, hf, ?_⟩
    refine .inl ⟨rfl, ?_⟩
    rw [decide_eq_true rfl]
    exact q
end
theorem fin_at {a : A3} (h : sOk a = true) (h1 : a.1.length ≤ 8) (h2 : a.2.1.length ≤ 8) (h3 : a.2.2.length ≤ 8) : fin 1 300 (atD a) := by
  unfold sOk lay at h
  rw [Bool.and_eq_true, Bool.and_eq_true] at h
  refine (fin_tup (n := 0) (W := 82) (m := 3) (fun d hd => ?_) (Nat.le_refl _)).mono (by decide) (by decide)
  have hd : d ∈ [PyData.str a.1, PyData.str a.2.1, PyData.str a.2.2] := hd
  simp only [List.mem_cons, List.not_mem_nil, or_false] at hd
  rcases hd with rfl | rfl | rfl
  · exact fin_str (L := 8) h.1 h1
  · exact fin_str (L := 8) h.2.1 h2
  · exact fin_str (L := 8) h.2.2 h3
def gA (a : A3) : Prop := sOk a = true ∧ a.1.length ≤ 8 ∧ a.2.1.length ≤ 8 ∧ a.2.2.length ≤ 8
theorem gA.fin {a : A3} (h : gA a) : fin 1 300 (atD a) := fin_at h.1 h.2.1 h.2.2.1 h.2.2.2
theorem fin_fa {as : List A3} (h : ∀ a ∈ as, gA a) (h2 : as.length ≤ 2) : Own.fin 2 700 (faD as) := by
  refine (fin_tup (n := 1) (W := 300) (m := 2) (fun d hd => ?_) (by rw [List.length_map]; exact h2)).mono (by decide) (by decide)
  obtain ⟨a, ha, rfl⟩ := List.mem_map.mp hd
  exact (h a ha).fin
theorem rel_len {r : Str} (h : isR r = true) : r.length ≤ 8 := by
  rcases isR_cases h with rfl | rfl | rfl | rfl <;> decide
theorem nm_len {z : Str} (h : isNm z = true) : z.length ≤ 8 := by
  unfold isNm at h
  simp only [Bool.and_eq_true, decide_eq_true_eq] at h
  exact h.1.2
theorem gA_of {ns : List Str} (hnm : ∀ z ∈ ns, isNm z = true) {a : A3} (h0 : isR a.1 = true) (h1 : a.2.1 = "" ∨ a.2.1 ∈ ns) (h2 : a.2.2 = "" ∨ a.2.2 ∈ ns) : gA a := by
  have ok : ∀ z : Str, (z = "" ∨ z ∈ ns) → lay z = true ∧ z.length ≤ 8 := fun z hz => by
    rcases hz with rfl | hz
    · exact ⟨by decide +kernel, by decide⟩
    · exact ⟨nm_ok (hnm z hz), nm_len (hnm z hz)⟩
  refine ⟨?_, rel_len h0, (ok _ h1).2, (ok _ h2).2⟩
  show (lay a.1 && (lay a.2.1 && lay a.2.2)) = true
  rw [rel_ok h0, (ok _ h1).1, (ok _ h2).1]
  rfl
theorem gA.tr {a : A3} (h : gA a) (hr : isR a.1 = true) : gA (trA a) := by
  obtain ⟨h1, h2, h3, h4⟩ := h
  have hr2 := trR_isR hr
  unfold sOk at h1
  rw [Bool.and_eq_true, Bool.and_eq_true] at h1
  refine ⟨?_, rel_len hr2, h4, h3⟩
  show (lay (trR a.1) && (lay a.2.2 && lay a.2.1)) = true
  rw [rel_ok hr2, h1.2.1, h1.2.2]
  rfl
end Own

namespace Own
open PySem PySem.Spec PyProof.Rows L2 Evl
/-! ### what data is -/
structure TxtI (K : PySem.W.Frag) (mg : Str → Option Value) (rel : Addr) : Prop where
  isinstance : mg "isinstance" = none
  str : mg "str" = none
  bool : mg "bool" = none
  tuple : mg "tuple" = none
  g_LONGEST_NAME : ∃ t, mg "LONGEST_NAME" = some (.int 8 t)
  g_RELATIONS : mg "RELATIONS" = some (.ref rel)
  rels : ∀ H, SqT K H rel [.str "eq", .str "lt", .str "gt"]
def rLeA : R2 := fun x y H Z => rLeI x y H Z ∨ ∃ i j, x = .str i ∧ y = .str j ∧ Z (.bl (!decide (j.cps.toList < i.cps.toList))) H
theorem opLeA {X : Cx} : OpR X (compareOp .LtE) rLeA := OpR.or op_le op_le_str
def nmD : PyData → Bool | .str z => isNm z | _ => false
def relD : PyData → Bool | .str z => isR3 z | _ => false
def blankD : PyData → Bool | .str z => decide (z = "") | _ => false
def atomD : PyData → Bool | .tuple [a, b, c] => relD a && (nmD b && nmD c) | _ => false
def partD (d : PyData) : Bool := blankD d || nmD d
def patD : PyData → Bool | .tuple [a, b, c] => (blankD a || relD a) && (partD b && partD c) | _ => false
def factD : PyData → Bool | .tuple ds => decide (1 ≤ ds.length) && (decide (ds.length ≤ 2) && ds.all atomD) | _ => false
def rowD : PyData → Bool | .tuple [a, b] => nmD a && factD b | _ => false
theorem str_of {d : PyData} (h : isStrD d = true) : ∃ z, d = .str z := by cases d <;> first | exact ⟨_, rfl⟩ | cases h
theorem tup_of {d : PyData} (h : isTupD d = true) : ∃ ds, d = .tuple ds := by cases d <;> first | exact ⟨_, rfl⟩ | cases h
theorem nmD_no {d : PyData} (h : isStrD d = false) : nmD d = false := by cases d <;> first | rfl | cases h
theorem relD_no {d : PyData} (h : isStrD d = false) : relD d = false := by cases d <;> first | rfl | cases h
theorem blankD_no {d : PyData} (h : isStrD d = false) : blankD d = false := by cases d <;> first | rfl | cases h
theorem atomD_no {d : PyData} (h : isTupD d = false) : atomD d = false := by cases d <;> first | rfl | cases h
theorem patD_no {d : PyData} (h : isTupD d = false) : patD d = false := by cases d <;> first | rfl | cases h
theorem factD_no {d : PyData} (h : isTupD d = false) : factD d = false := by cases d <;> first | rfl | cases h
theorem rowD_no {d : PyData} (h : isTupD d = false) : rowD d = false := by cases d <;> first | rfl | cases h
theorem atomD_len : ∀ {ds : List PyData}, ds.length ≠ 3 → atomD (.tuple ds) = false
  | [], _ => rfl
  | [_], _ => rfl
  | [_, _], _ => rfl
  | [_, _, _], h => absurd rfl h
  | _ :: _ :: _ :: _ :: _, _ => rfl
theorem patD_len : ∀ {ds : List PyData}, ds.length ≠ 3 → patD (.tuple ds) = false
  | [], _ => rfl
  | [_], _ => rfl
  | [_, _], _ => rfl
  | [_, _, _], h => absurd rfl h
  | _ :: _ :: _ :: _ :: _, _ => rfl
theorem rowD_len : ∀ {ds : List PyData}, ds.length ≠ 2 → rowD (.tuple ds) = false
  | [], _ => rfl
  | [_], _ => rfl
  | [_, _], h => absurd rfl h
  | _ :: _ :: _ :: _, _ => rfl
theorem Da.str_inv {H : Hp} {v : V} {z : Str} (h : Da H v (.str z)) : v = .str z := by cases h; rfl
theorem Da.tup_inv {H : Hp} {v : V} {ds : List PyData} (h : Da H v (.tuple ds)) : ∃ p xs, v = .ref p ∧ H p = some (.tup xs) ∧ DaAll H xs ds := by cases h with | tup h1 h2 => exact ⟨_, _, rfl, h1, h2⟩
theorem Da.lst_inv {H : Hp} {v : V} {ds : List PyData} (h : Da H v (.list ds)) : ∃ p xs, v = .ref p ∧ H p = some (.lst xs) ∧ DaAll H xs ds := by cases h with | lst h1 h2 => exact ⟨_, _, rfl, h1, h2⟩
theorem three {H : Hp} {xs : List V} {ds : List PyData} (h : DaAll H xs ds) (hl : ds.length = 3) : ∃ x y z a b c, xs = [x, y, z] ∧ ds = [a, b, c] ∧ Da H x a ∧ Da H y b ∧ Da H z c := by
  match ds, xs, h, hl with
  | [a, b, c], _, .cons h1 (.cons h2 (.cons h3 .nil)), _ => exact ⟨_, _, _, _, _, _, rfl, rfl, h1, h2, h3⟩
theorem two {H : Hp} {xs : List V} {ds : List PyData} (h : DaAll H xs ds) (hl : ds.length = 2) : ∃ x y a b, xs = [x, y] ∧ ds = [a, b] ∧ Da H x a ∧ Da H y b := by
  match ds, xs, h, hl with
  | [a, b], _, .cons h1 (.cons h2 .nil), _ => exact ⟨_, _, _, _, rfl, rfl, h1, h2⟩
theorem okD.memT {n W : Nat} {ds : List PyData} (h : okD n W (.tuple ds)) {d : PyData} (hd : d ∈ ds) : okD n W d := by
  obtain ⟨h1, h2, h3⟩ := h
  have q2 : PyData.depthAll ds + 1 ≤ n := h2
  have q3 : wds ds + 3 ≤ W := h3
  have z := wd_mem hd
  exact ⟨gDs_iff.mp h1 d hd, Nat.le_trans (depthAll_le.mp (Nat.le_refl _) d hd) (by omega), by omega⟩
theorem okD.memL {n W : Nat} {ds : List PyData} (h : okD n W (.list ds)) {d : PyData} (hd : d ∈ ds) : okD n W d := okD.memT (ds := ds) h hd
theorem okD.lenT {n W : Nat} {ds : List PyData} (h : okD n W (.tuple ds)) : 5 * ds.length ≤ W := by
  have q3 : wds ds + 3 ≤ W := h.2.2
  have := len_wds ds
  omega
theorem int_ne (n m : Nat) : (!decide (V.int (n : Int) = V.int (m : Int))) = !decide (n = m) := by
  by_cases h : n = m
  · rw [h]
    simp
  · rw [decide_eq_false h, decide_eq_false (show ¬ V.int (n : Int) = V.int (m : Int) from fun e => h (Int.ofNat.inj (V.int.inj e)))]
theorem int_eq (n m : Nat) : decide (V.int (n : Int) = V.int (m : Int)) = decide (n = m) := by
  by_cases h : n = m
  · rw [h]
    simp
  · rw [decide_eq_false h, decide_eq_false (show ¬ V.int (n : Int) = V.int (m : Int) from fun e => h (Int.ofNat.inj (V.int.inj e)))]
theorem one_lt (a b : Nat) : decide (([a] : List Nat) < [b]) = decide (a < b) := by
  by_cases h : a < b
  · rw [decide_eq_true h, decide_eq_true (List.cons_lt_cons_iff.mpr (.inl h))]
  · rw [decide_eq_false h, decide_eq_false]
    intro e
    rcases List.cons_lt_cons_iff.mp e with e | ⟨_, e⟩
    · exact h e
    · exact absurd e (by simp)
theorem le_a (c : Nat) : (!decide ((sgn c).cps.toList < (Str.ofString "a").cps.toList)) = decide (97 ≤ c) := by
  show (!decide (([c] : List Nat) < [97])) = _
  rw [one_lt]
  by_cases h : c < 97
  · rw [decide_eq_true h, decide_eq_false (by omega)]
    rfl
  · rw [decide_eq_false h, decide_eq_true (by omega)]
    rfl
theorem le_z (c : Nat) : (!decide ((Str.ofString "z").cps.toList < (sgn c).cps.toList)) = decide (c ≤ 122) := by
  show (!decide (([122] : List Nat) < [c])) = _
  rw [one_lt]
  by_cases h : 122 < c
  · rw [decide_eq_true h, decide_eq_false (by omega)]
    rfl
  · rw [decide_eq_false h, decide_eq_true (by omega)]
    rfl
theorem rel_in (z : Str) : inV (.str z) [.str "eq", .str "lt", .str "gt"] = isR3 z := by
  rw [show [V.str "eq", V.str "lt", V.str "gt"] = (["eq", "lt", "gt"] : List Str).map V.str from rfl, in_strs]
  unfold isR3
  by_cases h1 : z = "eq" <;> by_cases h2 : z = "lt" <;> by_cases h3 : z = "gt" <;> simp [h1, h2, h3]
theorem tk {α : Type} {l : List α} {i : Nat} {x : α} (h : l[i]? = some x) : l.take (i + 1) = l.take i ++ [x] := by
  rw [List.take_add_one, h]
  rfl
section
variable {P : Program} {w : World} {K : PySem.W.Frag} {mg : Str → Option Value} {base : Heap} {rel : Addr}
def spIs (p : PyData → Bool) : Sp := fun vs H Q _ => ∃ (v : V) (d : PyData), vs = [v] ∧ Da H v d ∧ okD 40 16000000 d ∧ ∀ H', Ex H H' → Q (.bl (p d)) H'
end
abbrev s_is_name : Stmt := top 6
theorem sc_is_name : FnScope ["thing", "letter"] ["thing"] (defScope s_is_name) := ⟨rfl, rfl, rfl, by decide +kernel, rfl, by decide +kernel, by decide +kernel⟩
abbrev s_is_relation : Stmt := top 7
theorem sc_is_relation : FnScope ["thing"] ["thing"] (defScope s_is_relation) := ⟨rfl, rfl, rfl, by decide +kernel, rfl, by decide +kernel, by decide +kernel⟩
abbrev s_is_blank : Stmt := top 10
theorem sc_is_blank : FnScope ["thing"] ["thing"] (defScope s_is_blank) := ⟨rfl, rfl, rfl, by decide +kernel, rfl, by decide +kernel, by decide +kernel⟩
abbrev s_is_pattern : Stmt := top 11
theorem sc_is_pattern : FnScope ["thing", "part"] ["thing"] (defScope s_is_pattern) := ⟨rfl, rfl, rfl, by decide +kernel, rfl, by decide +kernel, by decide +kernel⟩
section
variable {P : Program} {w : World} {K : PySem.W.Frag} {mg : Str → Option Value} {base : Heap} {rel : Addr}
theorem ok_is_name (T : Txt0 mg) (TI : TxtI K mg rel) (D : Df K mg "is_name" s_is_name) : CalG P w K mg base 1 "is_name" (spIs nmD) := by
  obtain ⟨t0, g_LONGEST_NAME⟩ := TI.g_LONGEST_NAME
  refine cal_mk D sc_is_name (fun _ _ _ _ _ _ us hl => match us, hl with | [_], _ => rfl) (fun vs H Q E h => ?_) (fun f cdv A outer s H vs Q E hr hG h => ?_)
  · obtain ⟨v, d, rfl, _⟩ := h
    rfl
  · obtain ⟨v, d, rfl, hv, hok, q⟩ := h
    refine ⟨_, (pss_cons (ps_if (PW.pt (pw_or (pt_not (pt_val (pe_callB call_isi (by rfl) TI.isinstance (by decide +kernel) (pa_cons (pv 0) (pa_cons (pe_bltn (v := .ty "str") (by rfl) TI.str (by decide +kernel) rfl) pa_nil))))) (pw_or1 (pt_not (pt_chain opLeA opLeA pe_int (pe_callB callLen (by rfl) T.len PySem.boot_len (pa_cons (pv 0) pa_nil)) (pe_glob (v := .int _) rfl g_LONGEST_NAME ⟨_, rfl⟩)))))) (pss_one (ps_ret pe_bl)) pss_nil)
      (pss_one (ps_ret (pe_callB (cr_all rfl) (by rfl) T.all (by decide +kernel) (pa_cons (pe_lcO (pe_lc (own := [("letter", 1)]) rfl sc_is_name.nd (piAny (pv 0)) (blkOk_by (own := [("letter", 1)]) (N := ["thing", "letter"]) (sc := defScope s_is_name) (by first | decide +kernel | kernel_rfl)) (fun _ _ _ _ _ => pg_name (i := 1) sc_is_name.nd rfl (Or.inl rfl)) (fun _ _ _ _ _ => pts_nil) (fun _ _ _ _ _ => pe_chain opLeA opLeA pe_str (pv 1) pe_str))) pa_nil))))), ?_⟩
    refine ⟨_, rfl, v, .ty "str", _, _, _, rfl, .ty _, hv.ty, kit_ty (kit_str d), _, rfl, ?_⟩
    cases hs : isStrD d with
    | false =>
      refine iteT ?_
      rw [← nmD_no hs]
      exact q _ (Ex.refl _)
    | true =>
      obtain ⟨z, rfl⟩ := str_of hs
      have ev := hv.str_inv
      subst ev
      have hw : 10 * z.length + 5 ≤ 16000000 := hok.2.2
      refine iteF ⟨_, rfl, .inr ⟨z, rfl, by show z.length ≤ 16777216; omega, ?_⟩⟩
      refine .inl ⟨_, _, rfl, rfl, _, rfl, ite2 (fun h1 => .inl ⟨_, _, rfl, rfl, _, rfl, ite2 (fun h2 => ?_) (fun h2 => ?_)⟩) (fun h1 => ⟨_, rfl, ifT (by rfl) ?_⟩)⟩
      · have e : nmD (.str z) = false := by
          show (_ && decide (z.length ≤ 8) && _) = false
          have z2 : ¬ ((z.length : Int) ≤ (8 : Int)) := by simpa using h2
          rw [decide_eq_false (show ¬ z.length ≤ 8 by omega), Bool.and_false, Bool.false_and]
        rw [← e]
        exact q _ (Ex.refl _)
      · have z1 : ((1 : Int) ≤ (z.length : Int)) := by simpa using h1
        have z2 : ((z.length : Int) ≤ (8 : Int)) := by simpa using h2
        refine .inr (.inr ⟨_, rfl, z, rfl, ?_⟩)
        refine lcG walk_str (by have z2 : z.cps.size = z.length := rfl; omega) trivial (fun _ _ _ _ => trivial) (fun i H x H' h => by rw [h.1]; exact Ex.refl _) (fun i ys _ => ys = (((TL.tl z).take i).map lowc).map V.bl) (fun _ _ _ _ _ h => h) rfl ?_ ?_
        · rintro i x H1 H2 ys hi e ⟨rfl, c, hc, rfl⟩ rfl N N0 kN kN0
          have hc2 : (TL.tl z)[i]? = some c := by
            show z.cps.toList[i]? = some c
            rw [Array.getElem?_toList]
            exact hc
          have fin : ∀ b : Bool, b = lowc c → N (.bl b) H2 := fun b hb => kN _ _ (Ex.refl _) (by
            rw [tk hc2, List.map_append, List.map_append, hb]
            rfl)
          refine ⟨rfl, ?_⟩
          refine ⟨_, rfl, .inr ⟨_, _, rfl, rfl, _, congrArg V.bl (le_a c), ite2 (fun k1 => .inr ⟨_, _, rfl, rfl, ?_⟩) (fun k1 => fin _ ?_)⟩⟩
          · refine fin _ ?_
            rw [show (!decide ((Str.ofString "z").cps.toList < (⟨#[c]⟩ : Str).cps.toList)) = decide (c ≤ 122) from le_z c]
            unfold lowc
            rw [k1, Bool.true_and]
          · unfold lowc
            rw [show decide (97 ≤ c) = false from by simpa using k1, Bool.false_and]
        · rintro l H1 ys hl e1 h1' _ rfl
          refine ⟨l, _, rfl, sq_of h1', ?_⟩
          have e : ((((TL.tl z).take z.cps.size).map lowc).all id) = nmD (.str z) := by
            rw [show z.cps.size = (TL.tl z).length from by simp, List.take_length, List.all_map]
            show _ = (decide (1 ≤ z.length) && decide (z.length ≤ 8) && (TL.tl z).all lowc)
            rw [decide_eq_true (show 1 ≤ z.length by omega), decide_eq_true (show z.length ≤ 8 by omega)]
            rfl
          rw [e]
          exact q _ e1
      · have e : nmD (.str z) = false := by
          show (decide (1 ≤ z.length) && _ && _) = false
          have z1 : ¬ ((1 : Int) ≤ (z.length : Int)) := by simpa using h1
          rw [decide_eq_false (show ¬ 1 ≤ z.length by omega), Bool.false_and, Bool.false_and]
        rw [← e]
        exact q _ (Ex.refl _)
theorem ok_is_relation (T : Txt0 mg) (TI : TxtI K mg rel) (D : Df K mg "is_relation" s_is_relation) : CalG P w K mg base 1 "is_relation" (spIs relD) := by
  refine cal_mk D sc_is_relation (fun _ _ _ _ _ _ us hl => match us, hl with | [_], _ => rfl) (fun vs H Q E h => ?_) (fun f cdv A outer s H vs Q E hr hG h => ?_)
  · obtain ⟨v, d, rfl, _⟩ := h
    rfl
  · obtain ⟨v, d, rfl, hv, hok, q⟩ := h
    refine ⟨_, (pss_one (ps_ret (pe_and (pe_callB call_isi (by rfl) TI.isinstance (by decide +kernel) (pa_cons (pv 0) (pa_cons (pe_bltn (v := .ty "str") (by rfl) TI.str (by decide +kernel) rfl) pa_nil))) (pe_one (pe_cmpR opIn (pv 0) (pe_glob (v := .ref _) rfl TI.g_RELATIONS rfl) rfl))))), ?_⟩
    refine ⟨_, rfl, v, .ty "str", _, _, _, rfl, .ty _, hv.ty, kit_ty (kit_str d), _, rfl, ?_⟩
    cases hs : isStrD d with
    | false =>
      refine iteF ?_
      rw [← relD_no hs]
      exact q _ (Ex.refl _)
    | true =>
      obtain ⟨z, rfl⟩ := str_of hs
      have ev := hv.str_inv
      subst ev
      refine iteT ⟨_, rfl, .inl ⟨rel, _, rfl, .inr (TI.rels H), rfl, rfl, ?_⟩⟩
      show Q (.bl (inV (.str z) [.str "eq", .str "lt", .str "gt"])) H
      rw [rel_in]
      exact q _ (Ex.refl _)
theorem ok_is_blank (T : Txt0 mg) (TI : TxtI K mg rel) (D : Df K mg "is_blank" s_is_blank) : CalG P w K mg base 1 "is_blank" (spIs blankD) := by
  refine cal_mk D sc_is_blank (fun _ _ _ _ _ _ us hl => match us, hl with | [_], _ => rfl) (fun vs H Q E h => ?_) (fun f cdv A outer s H vs Q E hr hG h => ?_)
  · obtain ⟨v, d, rfl, _⟩ := h
    rfl
  · obtain ⟨v, d, rfl, hv, hok, q⟩ := h
    refine ⟨_, (pss_one (ps_ret (pe_and (pe_callB call_isi (by rfl) TI.isinstance (by decide +kernel) (pa_cons (pv 0) (pa_cons (pe_bltn (v := .ty "str") (by rfl) TI.str (by decide +kernel) rfl) pa_nil))) (pe_one (pe_cmpR (opEq hr) (pv 0) pe_str (nomark _)))))), ?_⟩
    refine ⟨_, rfl, v, .ty "str", _, _, _, rfl, .ty _, hv.ty, kit_ty (kit_str d), _, rfl, ?_⟩
    cases hs : isStrD d with
    | false =>
      refine iteF ?_
      rw [← blankD_no hs]
      exact q _ (Ex.refl _)
    | true =>
      obtain ⟨z, rfl⟩ := str_of hs
      have ev := hv.str_inv
      subst ev
      refine iteT ⟨_, rfl, .inl ⟨rfl, ?_⟩⟩
      have e : decide (V.str z = V.str "") = blankD (.str z) := by
        show _ = decide (z = "")
        by_cases h : z = ""
        · rw [h]
          simp
        · rw [decide_eq_false h, decide_eq_false (fun e => h (V.str.inj e))]
      show Q (.bl (decide (V.str z = V.str ""))) H
      rw [e]
      exact q _ (Ex.refl _)
theorem ok_is_pattern (T : Txt0 mg) (TI : TxtI K mg rel) (D : Df K mg "is_pattern" s_is_pattern) (c_is_relation : CalG P w K mg base 1 "is_relation" (spIs relD)) (c_is_name : CalG P w K mg base 1 "is_name" (spIs nmD)) (c_is_blank : CalG P w K mg base 1 "is_blank" (spIs blankD)) : CalG P w K mg base 2 "is_pattern" (spIs patD) := by
  refine cal_mk D sc_is_pattern (fun _ _ _ _ _ _ us hl => match us, hl with | [_], _ => rfl) (fun vs H Q E h => ?_) (fun f cdv A outer s H vs Q E hr hG h => ?_)
  · obtain ⟨v, a, rfl, _⟩ := h
    rfl
  · obtain ⟨v, d, rfl, hv, hok, q⟩ := h
    refine ⟨_, (pss_cons (ps_if (PW.pt (pw_or (pt_not (pt_val (pe_callB call_isi (by rfl) TI.isinstance (by decide +kernel) (pa_cons (pv 0) (pa_cons (pe_bltn (v := .ty "tuple") (by rfl) T.tuple (by decide +kernel) rfl) pa_nil))))) (pw_or1 (pt_cmpR (opNe hr) (pe_callB callLen (by rfl) T.len PySem.boot_len (pa_cons (pv 0) pa_nil)) pe_int (nomark _))))) (pss_one (ps_ret pe_bl)) pss_nil)
      (Evl.pss_cut (ps_if (PW.pt (pw_and (pt_not (pt_val (pe_cG c_is_blank hr hG (by decide) rfl (pa_cons (pe_ix ixAny (pv 0) pe_int (fun _ _ => rfl)) pa_nil)))) (pw_and1 (pt_not (pt_val (pe_cG c_is_relation hr hG (by decide) rfl (pa_cons (pe_ix ixAny (pv 0) pe_int (fun _ _ => rfl)) pa_nil))))))) (pss_one (ps_ret pe_bl)) pss_nil)
      (pss_one (ps_ret (pe_callB (cr_all rfl) (by rfl) T.all (by decide +kernel) (pa_cons (pe_lcO (pe_lc (own := [("part", 1)]) rfl sc_is_pattern.nd (piAny (pe_slice slAny (pv 0) (po_some pe_int) po_none)) (blkOk_by (own := [("part", 1)]) (N := ["thing", "part"]) (sc := defScope s_is_pattern) (by first | decide +kernel | kernel_rfl)) (fun _ _ _ _ _ => pg_name (i := 1) sc_is_pattern.nd rfl (Or.inl rfl)) (fun _ _ _ _ _ => pts_nil) (fun _ _ _ _ _ => (pe_or (pe_cG c_is_blank hr hG (by decide) rfl (pa_cons (pv 1) pa_nil)) (pe_one (pe_cG c_is_name hr hG (by decide) rfl (pa_cons (pv 1) pa_nil))))))) pa_nil)))))), ?_⟩
    refine ⟨_, rfl, v, .ty "tuple", _, _, _, rfl, .ty _, hv.ty, kit_ty (kit_tuple d), _, rfl, ?_⟩
    cases hs : isTupD d with
    | false =>
      refine iteT ?_
      rw [← patD_no hs]
      exact q _ (Ex.refl _)
    | true =>
      obtain ⟨ds, rfl⟩ := tup_of hs
      obtain ⟨p, xs, rfl, hp, hA⟩ := hv.tup_inv
      have hl := hA.len
      refine iteF ⟨_, rfl, .inl ⟨p, _, rfl, .inr (st_of hp), .inl ⟨rfl, _, rfl, ?_⟩⟩⟩
      by_cases h3 : ds.length = 3
      · obtain ⟨x, y, z, a, b, c, rfl, rfl, ha, hb, hc⟩ := three hA h3
        refine ifF (b := !decide (V.int 3 = V.int 3)) (by decide +kernel) ?_
        refine ⟨fun σ' H' => σ' = [some (.ref p), none] ∧ Ex H H' ∧ (blankD a || relD a) = true, ?_, ?_⟩
        · refine ⟨_, rfl, .inr (.inl ⟨p, _, 0, _, rfl, rfl, st_of hp, atI_nat (j := 0) rfl, ?_⟩)⟩
          refine ⟨x, a, rfl, ha, hok.memT (by simp), fun H1 e1 => ⟨_, rfl, ?_⟩⟩
          cases r1 : blankD a with
          | true => exact iteF (iteF ⟨rfl, e1, rfl⟩)
          | false =>
            refine iteT ⟨_, rfl, .inr (.inl ⟨p, _, 0, _, rfl, rfl, st_of (e1 _ _ hp), atI_nat (j := 0) rfl, ?_⟩)⟩
            refine ⟨x, a, rfl, ha.ex e1, hok.memT (by simp), fun H2 e2 => ⟨_, rfl, ?_⟩⟩
            cases r2 : relD a with
            | true => exact iteF ⟨rfl, e1.trans e2, rfl⟩
            | false =>
              refine iteT ?_
              have e : patD (.tuple [a, b, c]) = false := by show ((blankD a || relD a) && _) = false; rw [r1, r2]; rfl
              rw [← e]
              exact q _ (e1.trans e2)
        · rintro σ' H1 ⟨rfl, e1, hrel⟩
          refine .inr (.inl ⟨_, rfl, ?_⟩)
          refine ⟨1, rfl, .inr (.inl ⟨p, _, rfl, st_of (e1 _ _ hp), fun hz => absurd hz.1 (by show ¬ HT.sIx 3 0 (some 1) = 0; decide), fun _ t ht => ?_⟩)⟩
          rw [show (some (1 : Int)) = some ((1 : Nat) : Int) from rfl, cut_from]
          generalize hq2 : upd H1 t _ = H2
          obtain ⟨e2, h2⟩ := gen1 hq2 ht
          have h2 : H2 t = some (.tup [y, z]) := h2
          have e12 := e1.trans e2
          have hA2 : DaAll H2 [y, z] [b, c] := .cons (hb.ex e12) (.cons (hc.ex e12) .nil)
          refine ⟨t, rfl, ⟨_, st_of h2⟩, ?_⟩
          refine lcG (walk_tup (xs := [y, z])) (by show 2 ≤ 40000; decide) (st_of h2) (fun _ _ e h => ex_t e h) yAt_ex (fun i ys _ => ys = (([b, c].take i).map partD).map V.bl) (fun _ _ _ _ _ h => h) rfl ?_ ?_
          · rintro i u H3 H4 ys hi e ⟨rfl, hx⟩ rfl N N0 kN kN0
            obtain ⟨g, hg, hat⟩ := (DaAll.ex e _ hA2).at hx
            have hgm : g ∈ [a, b, c] := List.mem_cons_of_mem _ (List.mem_of_getElem? hg)
            have fin : ∀ (o : Bool) (H5 : Hp), Ex H4 H5 → o = partD g → N (.bl o) H5 := fun o H5 e5 ho => kN _ _ e5 (by
              rw [tk hg, List.map_append, List.map_append, ho]
              rfl)
            refine ⟨rfl, ?_⟩
            refine ⟨_, rfl, u, g, rfl, hat, hok.memT hgm, fun H5 e5 => ⟨_, rfl, ?_⟩⟩
            cases r1 : blankD g with
            | true => exact iteT (fin _ _ e5 (by unfold partD; rw [r1]; rfl))
            | false =>
              refine iteF ⟨_, rfl, u, g, rfl, hat.ex e5, hok.memT hgm, fun H6 e6 => fin _ _ (e5.trans e6) ?_⟩
              unfold partD
              rw [r1, Bool.false_or]
          · rintro l H3 ys hl3 e3 h3' _ rfl
            refine ⟨l, _, rfl, sq_of h3', ?_⟩
            have e : ((([b, c].take [y, z].length).map partD).all id) = patD (.tuple [a, b, c]) := by
              show (partD b && (partD c && true)) = ((blankD a || relD a) && (partD b && partD c))
              rw [hrel, Bool.and_true, Bool.true_and]
            rw [e]
            exact q _ (e12.trans e3)
      · refine ifT (b := !decide (V.int (xs.length : Int) = V.int ((3 : Nat) : Int))) (by rw [int_ne, decide_eq_false (by omega)]; rfl) ?_
        rw [← patD_len h3]
        exact q _ (Ex.refl _)
end
abbrev s_l_world : Stmt := top 33
theorem sc_l_world : FnScope ["_law_bag_here"] ["_law_bag_here"] (defScope s_l_world) := ⟨rfl, rfl, rfl, by decide +kernel, rfl, by decide +kernel, by decide +kernel⟩
abbrev s_l_row : Stmt := top 36
theorem sc_l_row : FnScope ["_law_bag_here", "_law_world_here"] ["_law_bag_here", "_law_world_here"] (defScope s_l_row) := ⟨rfl, rfl, rfl, by decide +kernel, rfl, by decide +kernel, by decide +kernel⟩
structure WOk (ns ts : List Str) : Prop where
  n : ns.length = 3
  t2 : 2 ≤ ts.length
  t4 : ts.length ≤ 4
  nn : ∀ z ∈ ns, isNm z = true
  nt : ∀ z ∈ ts, isNm z = true
def WorldAt (H : Hp) (v : V) (ns ts : List Str) : Prop := ∃ (d pn pt : Addr) (kvs : List (Key × V)), v = .ref d ∧ H d = some (.dK kvs) ∧ valV kvs (Sum.inr "names") = some (.ref pn) ∧ valV kvs (Sum.inr "things") = some (.ref pt) ∧ H pn = some (.lst (ns.map V.str)) ∧ H pt = some (.lst (ts.map V.str))
theorem WorldAt.ex {H H' : Hp} {v : V} {ns ts : List Str} (e : Ex H H') (h : WorldAt H v ns ts) : WorldAt H' v ns ts := by
  obtain ⟨d, pn, pt, kvs, h1, h2, h3, h4, h5, h6⟩ := h
  exact ⟨d, pn, pt, kvs, h1, e _ _ h2, h3, h4, e _ _ h5, e _ _ h6⟩
/-- a row: its name and its fact -/
abbrev Rw := Str × List A3
def RowAt (H : Hp) (v : V) (r : Rw) : Prop := ∃ p vf, v = .ref p ∧ H p = some (.tup [.str r.1, vf]) ∧ FactAt H vf r.2
theorem RowAt.tex {H H' : Hp} {v : V} {r : Rw} (e : TEx H H') (h : RowAt H v r) : RowAt H' v r := by
  obtain ⟨p, vf, h1, h2, p2, xs, h3, h4, h5⟩ := h
  exact ⟨p, vf, h1, e _ _ h2, p2, xs, h3, e _ _ h4, h5.tex e⟩
def AllRw (H : Hp) : List V → List Rw → Prop
  | [], [] => True
  | v :: vs, r :: rs => RowAt H v r ∧ AllRw H vs rs
  | _, _ => False
theorem AllRw.tex {H H' : Hp} (e : TEx H H') : ∀ {vs : List V} {rs : List Rw}, AllRw H vs rs → AllRw H' vs rs
  | [], [], _ => trivial
  | _ :: _, _ :: _, h => ⟨h.1.tex e, AllRw.tex e h.2⟩
  | [], _ :: _, h => h.elim
  | _ :: _, [], h => h.elim
theorem AllRw.len {H : Hp} : ∀ {vs : List V} {rs : List Rw}, AllRw H vs rs → vs.length = rs.length
  | [], [], _ => rfl
  | _ :: _, _ :: _, h => by rw [List.length_cons, List.length_cons, AllRw.len h.2]
  | [], _ :: _, h => h.elim
  | _ :: _, [], h => h.elim
theorem AllRw.at {H : Hp} : ∀ {vs : List V} {rs : List Rw} {i : Nat} {v : V}, AllRw H vs rs → vs[i]? = some v → ∃ r, rs[i]? = some r ∧ RowAt H v r
  | [], [], _, _, _, h => by simp at h
  | _ :: _, r :: _, 0, _, h, e => by
    cases e
    exact ⟨r, rfl, h.1⟩
  | _ :: _, _ :: _, i + 1, _, h, e => AllRw.at (i := i) h.2 e
  | [], _ :: _, _, _, h, _ => h.elim
  | _ :: _, [], _, _, h, _ => h.elim
theorem AllRw.snoc {H : Hp} {v : V} {r : Rw} (hv : RowAt H v r) : ∀ {vs : List V} {rs : List Rw}, AllRw H vs rs → AllRw H (vs ++ [v]) (rs ++ [r])
  | [], [], _ => ⟨hv, trivial⟩
  | _ :: _, _ :: _, h => ⟨h.1, AllRw.snoc hv h.2⟩
  | [], _ :: _, h => h.elim
  | _ :: _, [], h => h.elim
theorem AllRw.take {H : Hp} : ∀ {vs : List V} {rs : List Rw} (n : Nat), AllRw H vs rs → AllRw H (vs.take n) (rs.take n)
  | _, _, 0, _ => trivial
  | [], [], _ + 1, _ => trivial
  | _ :: _, _ :: _, n + 1, h => ⟨h.1, AllRw.take n h.2⟩
  | [], _ :: _, _ + 1, h => h.elim
  | _ :: _, [], _ + 1, h => h.elim
def rwD (r : Rw) : PyData := .tuple [.str r.1, faD r.2]
theorem RowAt.dp {K : PySem.W.Frag} {H : Hp} {v : V} {r : Rw} (h : RowAt H v r) : Dp K H v (rwD r) := by
  obtain ⟨p, vf, rfl, h2, h3⟩ := h
  exact .tup (st_of h2) (.cons (.str _) (.cons h3.dp .nil))
theorem AllRw.dp {K : PySem.W.Frag} {H : Hp} : ∀ {vs : List V} {rs : List Rw}, AllRw H vs rs → DpAll K H vs (rs.map rwD)
  | [], [], _ => .nil
  | _ :: _, _ :: _, h => .cons h.1.dp (AllRw.dp h.2)
  | [], _ :: _, h => h.elim
  | _ :: _, [], h => h.elim
def nA (a : A3) : Prop := isR3 a.1 = true ∧ isNm a.2.1 = true ∧ isNm a.2.2 = true
def nF (as : List A3) : Prop := 1 ≤ as.length ∧ as.length ≤ 2 ∧ ∀ a ∈ as, nA a
def nR (r : Rw) : Prop := isNm r.1 = true ∧ nF r.2
theorem WOk.nA {ns ts : List Str} (h : WOk ns ts) {a : A3} (h1 : isR3 a.1 = true) (h2 : a.2.1 ∈ ts) (h3 : a.2.2 ∈ ts) : nA a := ⟨h1, h.nt _ h2, h.nt _ h3⟩
def gR (r : Rw) : Prop := isNm r.1 = true ∧ r.2.length ≤ 2 ∧ ∀ a ∈ r.2, gA a
theorem gR.fin {r : Rw} (h : gR r) : Own.fin 3 2000 (rwD r) := by
  refine (fin_tup (n := 2) (W := 700) (m := 2) (fun d hd => ?_) (Nat.le_refl _)).mono (by decide) (by decide)
  have hd : d ∈ [PyData.str r.1, faD r.2] := hd
  simp only [List.mem_cons, List.not_mem_nil, or_false] at hd
  rcases hd with rfl | rfl
  · exact (fin_str (L := 8) (nm_ok h.1) (nm_len h.1)).mono (by decide) (by decide)
  · exact fin_fa h.2.2 h.2.1
theorem gR.list {rs : List Rw} (h : ∀ r ∈ rs, gR r) (hl : rs.length ≤ 100) : fine (.list (rs.map rwD)) := by
  refine (fin_list (n := 3) (W := 2000) (m := 100) (fun d hd => ?_) (by rw [List.length_map]; exact hl)).fine (by decide) (by decide)
  obtain ⟨r, hr, rfl⟩ := List.mem_map.mp hd
  exact (h r hr).fin
theorem nA.g {a : A3} (h : nA a) : gA a := gA_of (ns := [a.2.1, a.2.2]) (fun z hz => by
  simp only [List.mem_cons, List.not_mem_nil, or_false] at hz
  rcases hz with rfl | rfl
  · exact h.2.1
  · exact h.2.2) (isR_of h.1) (.inr (by simp)) (.inr (by simp))
theorem nR.g {r : Rw} (h : nR r) : gR r := ⟨h.1, h.2.2.1, fun a ha => (h.2.2.2 a ha).g⟩
theorem w_names (x y : V) : valV (mergeK [] [((Sum.inr "names" : Key), x), ((Sum.inr "things" : Key), y)]) (Sum.inr "names") = some x := by rfl
theorem w_things (x y : V) : valV (mergeK [] [((Sum.inr "names" : Key), x), ((Sum.inr "things" : Key), y)]) (Sum.inr "things") = some y := by rfl
section
variable {P : Program} {w : World} {K : PySem.W.Frag} {mg : Str → Option Value} {base : Heap}
def spWorld : Sp := fun vs H Q _ => ∃ (b : Addr), vs = [.ref b] ∧ BagAt H b ∧ ∀ (H' : Hp) (v : V) (ns ts : List Str), Ex H H' → WorldAt H' v ns ts → WOk ns ts → Q v H'
theorem ok_world (T : Txt0 mg) (D : Df K mg "_law_world" s_l_world) (c_l_take : CalG P w K mg base 1 "_law_take" spTake) (c_l_names : CalG P w K mg base 2 "_law_names" spNames) : CalG P w K mg base 3 "_law_world" spWorld := by
  refine cal_mk D sc_l_world (fun _ _ _ _ _ _ us hl => match us, hl with | [_], _ => rfl) (fun vs H Q E h => ?_) (fun f cdv A outer s H vs Q E hr hG h => ?_)
  · obtain ⟨b, rfl, _⟩ := h
    rfl
  · obtain ⟨b, rfl, hb, q⟩ := h
    refine ⟨_, (pss_one (ps_ret (pe_disp (pps_cons pe_str (pe_cG c_l_names hr hG (by decide) rfl (pa_cons (pv 0) (pa_cons pe_int pa_nil))) (pps_cons pe_str (pe_cG c_l_names hr hG (by decide) rfl (pa_cons (pv 0) (pa_cons (pe_op opAdd pe_int (pe_cG c_l_take hr hG (by decide) rfl (pa_cons (pv 0) (pa_cons pe_int pa_nil)))) pa_nil))) pps_nil)) (by rfl) (by rfl) (fun z => by cases z) (by decide)))), fun d hd => ?_⟩
    generalize hq1 : upd H d _ = H1
    obtain ⟨e1, h1⟩ := gen1 hq1 hd
    refine ⟨_, rfl, b, 3, rfl, hb.ex e1, by decide, by decide, fun H2 pn ns e2 _ hpn hnl _ hnn => ?_⟩
    refine ⟨_, rfl, _, rfl, b, 3, rfl, hb.ex (e1.trans e2), by decide, by decide, fun H3 r r0 r1 e3 => .inl ⟨2, r, rfl, rfl, ?_⟩⟩
    refine ⟨b, _, rfl, hb.ex ((e1.trans e2).trans e3), by omega, by omega, fun H4 pt ts e4 _ hpt htl _ hnt => ?_⟩
    have e14 := (e2.trans e3).trans e4
    refine ⟨e14 _ _ h1, [(Sum.inr "names", .ref pn), (Sum.inr "things", .ref pt)], rfl, by show 2 ≤ 15; decide, ?_⟩
    have e34 := e3.trans e4
    have hpn4 := e34 _ _ hpn
    have n1 : pn ≠ d := fun e => by
      rw [e] at hpn4
      rw [e14 _ _ h1] at hpn4
      cases hpn4
    have n2 : pt ≠ d := fun e => by
      rw [e] at hpt
      rw [e14 _ _ h1] at hpt
      cases hpt
    refine q _ _ ns ts (Ex.mut (e1.trans e14) hd) ⟨d, pn, pt, _, rfl, upd_same, w_names _ _, w_things _ _, by rw [upd_ne n1]; exact hpn4, by rw [upd_ne n2]; exact hpt⟩ ⟨by omega, by omega, by omega, hnn, hnt⟩
def spRow : Sp := fun vs H Q _ => ∃ (b : Addr) (v : V) (ns ts : List Str), vs = [.ref b, v] ∧ BagAt H b ∧ WorldAt H v ns ts ∧ WOk ns ts ∧ ∀ (H' : Hp) (u : V) (r : Rw), Ex H H' → RowAt H' u r → nR r → Q u H'
theorem ok_row (T : Txt0 mg) (D : Df K mg "_law_row" s_l_row) (c_l_some : CalG P w K mg base 2 "_law_some" (spSome K)) (c_l_fact : CalG P w K mg base 4 "_law_fact" spFact) : CalG P w K mg base 5 "_law_row" spRow := by
  refine cal_mk D sc_l_row (fun _ _ _ _ _ _ us hl => match us, hl with | [_, _], _ => rfl) (fun vs H Q E h => ?_) (fun f cdv A outer s H vs Q E hr hG h => ?_)
  · obtain ⟨b, v, ns, ts, rfl, _⟩ := h
    rfl
  · obtain ⟨b, _, ns, ts, rfl, hb, ⟨d, pn, pt, kvs, rfl, hd, hkn, hkt, hpn, hpt⟩, hw, q⟩ := h
    refine ⟨_, (pss_one (ps_ret (pe_tup (pa_cons (pe_cG c_l_some hr hG (by decide) rfl (pa_cons (pv 0) (pa_cons (pe_dget (hu_of hr) (pv 1) pe_str (fun _ _ => rfl)) pa_nil))) (pa_cons (pe_cG c_l_fact hr hG (by decide) rfl (pa_cons (pv 0) (pa_cons (pe_dget (hu_of hr) (pv 1) pe_str (fun _ _ => rfl)) pa_nil))) pa_nil))))), ?_⟩
    have hn3 := hw.n
    have ht2 := hw.t2
    have ht4 := hw.t4
    refine ⟨_, rfl, _, rfl, d, .ref pn, rfl, .inl ⟨kvs, Sum.inr "names", .inl hd, rfl, hkn.symm⟩, ?_⟩
    refine ⟨b, pn, _, rfl, hb, .inl (sq_of hpn), (fun e => by have z := congrArg List.length e; rw [List.length_map] at z; rw [hn3] at z; cases z), by rw [List.length_map]; omega, fun H1 i x e1 hx => ?_⟩
    obtain ⟨nm, hnm, rfl⟩ := str_at hx
    refine ⟨_, rfl, _, rfl, d, .ref pt, rfl, .inl ⟨kvs, Sum.inr "things", .inl (e1 _ _ hd), rfl, hkt.symm⟩, ?_⟩
    refine ⟨b, pt, ts, rfl, hb.ex e1, e1 _ _ hpt, (fun e => by rw [e] at ht2; exact absurd ht2 (by decide)), by omega, fun H2 vf as e2 hf h1 h2 hall => ?_⟩
    refine ⟨by show 2 ≤ sizeLine; decide, fun t ht => ?_⟩
    refine q _ _ (nm, as) ((e1.trans e2).trans (Ex.new ht)) ⟨t, vf, rfl, upd_same, hf.ex (Ex.new ht)⟩ ⟨hw.nn _ (List.mem_of_getElem? hnm), h1, h2, fun a ha => ?_⟩
    obtain ⟨k1, k2, k3⟩ := hall a ha
    exact hw.nA k1 k2 k3
end
/-! ### rows as data -/
theorem strs_da {H : Hp} : ∀ ns : List Str, DaAll H (ns.map V.str) (ns.map PyData.str)
  | [] => .nil
  | n :: ns => .cons (.str n) (strs_da ns)
theorem AtomAt.da {H : Hp} {v : V} {a : A3} (h : AtomAt H v a) : Da H v (atD a) := by
  obtain ⟨p, rfl, h2⟩ := h
  exact .tup h2 (strs_da _)
theorem AllAt.da {H : Hp} : ∀ {vs : List V} {as : List A3}, AllAt H vs as → DaAll H vs (as.map atD)
  | [], [], _ => .nil
  | _ :: vs, _ :: as, h => .cons h.1.da (AllAt.da h.2)
  | [], _ :: _, h => h.elim
  | _ :: _, [], h => h.elim
theorem FactAt.da {H : Hp} {v : V} {as : List A3} (h : FactAt H v as) : Da H v (faD as) := by
  obtain ⟨p, xs, rfl, h2, h3⟩ := h
  exact .tup h2 h3.da
theorem RowAt.da {H : Hp} {v : V} {r : Rw} (h : RowAt H v r) : Da H v (rwD r) := by
  obtain ⟨p, vf, rfl, h2, h3⟩ := h
  exact .tup h2 (.cons (.str _) (.cons h3.da .nil))
theorem AllRw.da {H : Hp} : ∀ {vs : List V} {rs : List Rw}, AllRw H vs rs → DaAll H vs (rs.map rwD)
  | [], [], _ => .nil
  | _ :: _, _ :: _, h => .cons h.1.da (AllRw.da h.2)
  | [], _ :: _, h => h.elim
  | _ :: _, [], h => h.elim
theorem okD_str {z : Str} {L : Nat} (h : lay z = true) (hl : z.length ≤ L) : okD 0 (10 * L + 5) (.str z) := ⟨h, Nat.le_refl _, by show 10 * z.length + 5 ≤ _; omega⟩
theorem okD_tup {n W : Nat} {ds : List PyData} (h : ∀ d ∈ ds, okD n W d) {m : Nat} (hm : ds.length ≤ m) : okD (n + 1) (m * (W + 2) + 3) (.tuple ds) := by
  refine ⟨gDs_iff.mpr fun d hd => (h d hd).1, Nat.succ_le_succ (depthAll_le.mpr fun d hd => (h d hd).2.1), ?_⟩
  have z : ∀ es : List PyData, (∀ d ∈ es, wd d ≤ W) → wds es ≤ es.length * (W + 2) := by
    intro es
    induction es with
    | nil => exact fun _ => Nat.zero_le _
    | cons e es ih =>
      intro he
      have q1 := he e List.mem_cons_self
      have q2 := ih fun d hd => he d (List.mem_cons_of_mem _ hd)
      show wd e + 2 + wds es ≤ (es.length + 1) * (W + 2)
      rw [Nat.add_mul]
      omega
  have q := z ds fun d hd => (h d hd).2.2
  have q2 := Nat.mul_le_mul_right (W + 2) hm
  show wds ds + 3 ≤ _
  omega
theorem okD_list {n W : Nat} {ds : List PyData} (h : ∀ d ∈ ds, okD n W d) {m : Nat} (hm : ds.length ≤ m) : okD (n + 1) (m * (W + 2) + 3) (.list ds) := okD_tup h hm
theorem gA.okD {a : A3} (h : gA a) : okD 1 264 (atD a) := by
  obtain ⟨h1, h2, h3, h4⟩ := h
  unfold sOk at h1
  rw [Bool.and_eq_true, Bool.and_eq_true] at h1
  refine okD_tup (n := 0) (W := 85) (m := 3) (fun d hd => ?_) (Nat.le_refl _)
  have hd : d ∈ [PyData.str a.1, PyData.str a.2.1, PyData.str a.2.2] := hd
  simp only [List.mem_cons, List.not_mem_nil, or_false] at hd
  rcases hd with rfl | rfl | rfl
  · exact okD_str (L := 8) h1.1 h2
  · exact okD_str (L := 8) h1.2.1 h3
  · exact okD_str (L := 8) h1.2.2 h4
theorem okD_fa {as : List A3} {m : Nat} (h : ∀ a ∈ as, gA a) (h2 : as.length ≤ m) : okD 2 (m * 266 + 3) (faD as) := by
  refine okD_tup (n := 1) (W := 264) (m := m) (fun d hd => ?_) (by rw [List.length_map]; exact h2)
  obtain ⟨a, ha, rfl⟩ := List.mem_map.mp hd
  exact (h a ha).okD
theorem gR.okD {r : Rw} (h : gR r) : okD 3 1200 (rwD r) := by
  refine (okD_tup (n := 2) (W := 540) (m := 2) (fun d hd => ?_) (Nat.le_refl _)).mono (by decide) (by decide)
  have hd : d ∈ [PyData.str r.1, faD r.2] := hd
  simp only [List.mem_cons, List.not_mem_nil, or_false] at hd
  rcases hd with rfl | rfl
  · exact (okD_str (L := 8) (nm_ok h.1) (nm_len h.1)).mono (by decide) (by decide)
  · exact (okD_fa (m := 2) h.2.2 h.2.1).mono (by decide) (by decide)
abbrev s_l_rows : Stmt := top 37
theorem sc_l_rows : FnScope ["_law_bag_here", "_law_world_here", "_law_top", "_law_k"] ["_law_bag_here", "_law_world_here", "_law_top"] (defScope s_l_rows) := ⟨rfl, rfl, rfl, by decide +kernel, rfl, by decide +kernel, by decide +kernel⟩
section
variable {P : Program} {w : World} {K : PySem.W.Frag} {mg : Str → Option Value} {base : Heap}
def spRows : Sp := fun vs H Q _ => ∃ (b : Addr) (v : V) (ns ts : List Str) (m : Int), vs = [.ref b, v, .int m] ∧ BagAt H b ∧ WorldAt H v ns ts ∧ WOk ns ts ∧ 0 ≤ m ∧ m ≤ 20 ∧ ∀ (H' : Hp) (p : Addr) (us : List V) (rs : List Rw), Ex H H' → H p = none → H' p = some (.lst us) → AllRw H' us rs → (∀ r ∈ rs, nR r) → (rs.length : Int) ≤ m → Q (.ref p) H'
theorem ok_rows (T : Txt0 mg) (D : Df K mg "_law_rows" s_l_rows) (c_l_take : CalG P w K mg base 1 "_law_take" spTake) (c_l_row : CalG P w K mg base 5 "_law_row" spRow) : CalG P w K mg base 6 "_law_rows" spRows := by
  refine cal_mk D sc_l_rows (fun _ _ _ _ _ _ us hl => match us, hl with | [_, _, _], _ => rfl) (fun vs H Q E h => ?_) (fun f cdv A outer s H vs Q E hr hG h => ?_)
  · obtain ⟨b, v, ns, ts, m, rfl, _⟩ := h
    rfl
  · obtain ⟨b, v, ns, ts, m, rfl, hb, hv, hw, m0, m1, q⟩ := h
    refine ⟨_, (pss_one (ps_ret (pe_lcO (pe_lc (own := [("_law_k", 3)]) rfl sc_l_rows.nd (pi_range1 rfl T.range (pa_cons (pe_cG c_l_take hr hG (by decide) rfl (pa_cons (pv 0) (pa_cons (pe_op opAdd (pv 2) pe_int) pa_nil))) pa_nil)) (blkOk_by (own := [("_law_k", 3)]) (N := ["_law_bag_here", "_law_world_here", "_law_top", "_law_k"]) (sc := defScope s_l_rows) (by first | decide +kernel | kernel_rfl)) (fun _ _ _ _ _ => pg_name (i := 3) sc_l_rows.nd rfl (Or.inl rfl)) (fun _ _ _ _ _ => pts_nil) (fun _ _ _ _ _ => pe_cG c_l_row hr hG (by decide) rfl (pa_cons (pv 0) (pa_cons (pv 1) pa_nil))))))), ?_⟩
    refine ⟨_, rfl, _, rfl, .inl ⟨m, 1, rfl, rfl, ?_⟩⟩
    refine ⟨b, _, rfl, hb, by omega, by omega, fun H1 r r0 r1 e1 => ?_⟩
    obtain ⟨n, rfl⟩ : ∃ n : Nat, r = (n : Int) := ⟨r.toNat, by omega⟩
    refine ⟨(n : Int), rfl, by omega, by omega, ?_⟩
    refine lcG (walk_range (lo := 0) (n := (n : Int).toNat)) (by omega) trivial (fun _ _ _ _ => trivial) yFn_ex (fun i ys H' => ∃ rs : List Rw, AllRw H' ys rs ∧ rs.length = i ∧ ∀ r ∈ rs, nR r)
      (fun _ _ _ _ e ⟨rs, h1, h2⟩ => ⟨rs, h1.tex e, h2⟩) ⟨[], trivial, rfl, fun a ha => by cases ha⟩ ?_ ?_
    · rintro i x H2 H3 ys hi e2 ⟨rfl, rfl⟩ ⟨rs, hA, hal, hR⟩ N N0 kN kN0
      refine ⟨rfl, ?_⟩
      have e12 := e1.trans e2
      refine ⟨_, rfl, _, rfl, b, v, ns, ts, rfl, hb.ex e12, hv.ex e12, hw, fun H4 u r e4 hu hg => ?_⟩
      refine kN _ _ e4 ⟨rs ++ [r], AllRw.snoc hu (hA.tex (TEx.of e4)), by rw [List.length_append, hal]; rfl, fun x hx => ?_⟩
      rcases List.mem_append.mp hx with hx | hx
      · exact hR x hx
      · rw [List.mem_singleton] at hx
        rw [hx]
        exact hg
    · rintro l H2 ys hl e2 h2 _ ⟨rs, hA, hal, hR⟩
      have hln : H l = none := by
        cases hx : H l with
        | none => rfl
        | some o => rw [e1 _ _ hx] at hl; cases hl
      exact q _ l ys rs (e1.trans e2) hln h2 hA hR (by rw [hal]; omega)
end
end Own

namespace Own
open PySem PySem.Spec PyProof.Rows L2 Evl
abbrev s_l_start : Stmt := top 39
theorem sc_l_start : FnScope ["_law_bag_here", "_law_world_here", "_law_top", "_law_board"] ["_law_bag_here", "_law_world_here", "_law_top"] (defScope s_l_start) := ⟨rfl, rfl, rfl, by decide +kernel, rfl, by decide +kernel, by decide +kernel⟩
section
variable {P : Program} {w : World} {K : PySem.W.Frag} {mg : Str → Option Value} {base : Heap} {rel : Addr}
def spStart31 : Sp := fun vs H Q _ => ∃ (b : Addr) (v : V) (ns ts : List Str) (m : Nat), vs = [.ref b, v, .int (m : Int)] ∧ 1 ≤ m ∧ m ≤ 10 ∧ BagAt H b ∧ WorldAt H v ns ts ∧ WOk ns ts ∧
  ∀ (H' : Hp) (p bd bk : Addr) (va : V) (us ub : List V) (gs bs : List Rw) (a : A3), Ex H H' → H' p = some (.tup [.ref bd, .ref bk, va]) → H bd = none → H bk = none → bd ≠ bk → H' bd = some (.lst us) → H' bk = some (.lst ub) → AllRw H' us gs → AllRw H' ub bs → AtomAt H' va a → (∀ r ∈ gs, nR r) → (∀ r ∈ bs, nR r) → nA a → 1 ≤ gs.length → gs.length ≤ m → bs.length ≤ 2 → Q (.ref p) H'
theorem ok_start31 (T : Txt0 mg) (D : Df K mg "_law_start" s_l_start) (c_l_row : CalG P w K mg base 5 "_law_row" spRow) (c_l_rows : CalG P w K mg base 6 "_law_rows" spRows) (c_l_atom : CalG P w K mg base 3 "_law_atom" spAtom) : CalG P w K mg base 7 "_law_start" spStart31 := by
  refine cal_mk D sc_l_start (fun _ _ _ _ _ _ us hl => match us, hl with | [_, _, _], _ => rfl) (fun vs H Q E h => ?_) (fun f cdv A outer s H vs Q E hr hG h => ?_)
  · obtain ⟨b, v, ns, ts, m, rfl, _⟩ := h
    rfl
  · obtain ⟨b, v, ns, ts, m, rfl, hm1, hm2, hb, hv, hw, q⟩ := h
    refine ⟨_, (pss_cons (ps_set (i := 3) sc_l_start.nd rfl (Or.inl rfl) (pe_op opAdd (pe_lst (pa_cons (pe_cG c_l_row hr hG (by decide) rfl (pa_cons (pv 0) (pa_cons (pv 1) pa_nil))) pa_nil)) (pe_cG c_l_rows hr hG (by decide) rfl (pa_cons (pv 0) (pa_cons (pv 1) (pa_cons (pe_op op_sub (pv 2) pe_int) pa_nil))))))
      (pss_one (ps_ret (pe_tup (pa_cons (pv 3) (pa_cons (pe_cG c_l_rows hr hG (by decide) rfl (pa_cons (pv 0) (pa_cons (pv 1) (pa_cons pe_int pa_nil)))) (pa_cons (pe_cG c_l_atom hr hG (by decide) rfl (pa_cons (pv 0) (pa_cons (pe_dget (hu_of hr) (pv 1) pe_str (fun _ _ => rfl)) pa_nil))) pa_nil))))))), ?_⟩
    refine ⟨_, rfl, _, rfl, b, v, ns, ts, rfl, hb, hv, hw, fun H1 u r e1 hu hr1 => ?_⟩
    refine ⟨by show 1 ≤ sizeLine; decide, fun l1 n1 => ?_⟩
    generalize hq2 : upd H1 l1 _ = H2
    obtain ⟨e2, h2⟩ := gen1 hq2 n1
    have e12 := e1.trans e2
    refine ⟨_, rfl, _, rfl, _, rfl, _, _, rfl, rfl, b, v, ns, ts, _, rfl, hb.ex e12, hv.ex e12, hw, by omega, by omega, fun H3 p3 us rs e3 n3 h3 hA3 hn3 hl3 => ?_⟩
    have hul := hA3.len
    have hl3 : rs.length ≤ m - 1 := by omega
    refine .inr (.inr (.inl ⟨l1, p3, _, _, rfl, rfl, e3 _ _ h2, h3, by show 1 + us.length ≤ sizeLine; rw [sizeLine_eq]; omega, fun l4 n4 => ?_⟩))
    generalize hq4 : upd H3 l4 _ = H4
    obtain ⟨e4, h4⟩ := gen1 hq4 n4
    have e14 := (e12.trans e3).trans e4
    refine ⟨_, rfl, _, rfl, _, rfl, b, v, ns, ts, _, rfl, hb.ex e14, hv.ex e14, hw, by decide, by decide, fun H5 p5 ub rb e5 n5 h5 hA5 hn5 hl5 => ?_⟩
    have hbl := hA5.len
    have e15 := e14.trans e5
    obtain ⟨d, pn, pt, kvs, rfl, hd, hkn, hkt, hpn, hpt⟩ := hv
    have ht2 := hw.t2
    have ht4 := hw.t4
    refine ⟨_, rfl, _, rfl, d, .ref pt, rfl, .inl ⟨kvs, Sum.inr "things", .inl (e15 _ _ hd), rfl, hkt.symm⟩, ?_⟩
    refine ⟨b, pt, ts, rfl, hb.ex e15, e15 _ _ hpt, (fun e => by rw [e] at ht2; exact absurd ht2 (by decide)), by omega, fun H6 va a e6 ha hR h1 h2 => ?_⟩
    refine ⟨by show 3 ≤ sizeLine; decide, fun t7 n7 => ?_⟩
    generalize hq7 : upd H6 t7 _ = H7
    obtain ⟨e7, h7⟩ := gen1 hq7 n7
    have e47 := (e5.trans e6).trans e7
    have e57 := e6.trans e7
    have e37 := (e3.trans e4).trans e47
    have d45 : l4 ≠ p5 := fun e => by rw [← e, h4] at n5; cases n5
    exact q _ t7 l4 p5 va _ _ (r :: rs) rb a (e14.trans e47) h7 (none_of (e12.trans e3) n4) (none_of e14 n5) d45 (e47 _ _ h4) (e57 _ _ h5) ⟨hu.tex (TEx.of (e2.trans e37)), hA3.tex (TEx.of (e4.trans e47))⟩ (hA5.tex (TEx.of e57)) (ha.ex e7) (fun x hx => (List.mem_cons.mp hx).elim (fun e => e ▸ hr1) (hn3 x)) hn5 (hw.nA hR h1 h2) (by show 1 ≤ rs.length + 1; omega) (by show rs.length + 1 ≤ m; omega) (by omega)
end
end Own

namespace Own
open PySem PySem.Spec PyProof.Rows L2 Evl
section
variable {X : Cx}
/-- len(d), the keys of d tuples of any depth -/
def rLenDic (w : World) : List V → Hp → VK → Prop := fun vs H Q => ∃ (d : Addr) (L : List DE), vs = [.ref d] ∧ H d = some (DicO w d L) ∧ KeysAt H L ∧ Q (.int (L.length : Int)) H
theorem cr_lenDic : CallR X (.builtin "len") (rLenDic X.w) := by
  intro pk s τ H vs us Q I r h
  obtain ⟨d, L, rfl, hd, hk, q⟩ := h
  rw [Vals.ref1 r]
  obtain ⟨z, y, xs, rp, dd⟩ := dic_of I hd hk
  have l := dicr_len rp
  refine call_len_dictH y dd (by rw [sizeLine_eq] at z; omega) ?_
  exact ⟨.int (L.length : Int), H, I.tok _, ⟨_, by rw [l]⟩, q⟩
end
end Own

namespace Own
open PySem PySem.Spec PyProof.Rows L2 Evl
/-! ### written data: what an expression of literals tells, whatever is behind it -/
/-- te tells some d with P, made of what A has; A has all that is new since H0 -/
def Lit (A : Addr → Prop) (H0 : Hp) (σ : L2.St) (te : TE) (P : PyData → Prop) : Prop := ∀ H Q, Ex H0 H → (∀ H' v d, Ex H H' → P d → DaA A H' v d → Q v H') → te σ H Q
def LitA (A : Addr → Prop) (H0 : Hp) (σ : L2.St) (ta : TA) (P : List PyData → Prop) : Prop := ∀ H Q, Ex H0 H → (∀ H' vs ds, Ex H H' → P ds → DaAA A H' vs ds → Q vs H') → ta σ H Q
section
variable {A : Addr → Prop} {H0 : Hp} {σ : L2.St} {te tf : TE} {ta : TA} {K : PySem.W.Frag}
theorem DaA.exA {H H' : Hp} {v : V} {d : PyData} (e : Ex H H') (h : DaA A H v d) : DaA A H' v d := DaA.move (fun a o _ q => e a o q) (fun _ z => z) d h
theorem DaAA.exA {H H' : Hp} {vs : List V} {ds : List PyData} (e : Ex H H') (h : DaAA A H vs ds) : DaAA A H' vs ds := DaAA.move (fun a o _ q => e a o q) (fun _ z => z) ds h
theorem Lit.mono {P P' : PyData → Prop} (h : Lit A H0 σ te P) (k : ∀ d, P d → P' d) : Lit A H0 σ te P' := fun H Q e q => h H Q e fun H' v d e' hp hd => q H' v d e' (k d hp) hd
theorem LitA.mono {P P' : List PyData → Prop} (h : LitA A H0 σ ta P) (k : ∀ d, P d → P' d) : LitA A H0 σ ta P' := fun H Q e q => h H Q e fun H' v d e' hp hd => q H' v d e' (k d hp) hd
theorem lit_non : Lit A H0 σ (tC .non) (· = .none) := fun H Q e q => q H _ _ (Ex.refl _) rfl .non
theorem lit_bl {b : Bool} : Lit A H0 σ (tC (.bl b)) (· = .bool b) := fun H Q e q => q H _ _ (Ex.refl _) rfl (.bl b)
theorem lit_int {i : Int} : Lit A H0 σ (tC (.int i)) (· = .int i) := fun H Q e q => q H _ _ (Ex.refl _) rfl (.int i)
theorem lit_neg {i : Int} : Lit A H0 σ (tUn (rU fun i => .int (-i)) (tC (.int i))) (· = .int (-i)) := fun H Q e q => ⟨i, rfl, q H _ _ (Ex.refl _) rfl (.int _)⟩
theorem lit_str {z : Str} : Lit A H0 σ (tC (.str z)) (· = .str z) := fun H Q e q => q H _ _ (Ex.refl _) rfl (.str z)
theorem lit_new (hA : ∀ a, H0 a = none → A a) : Lit A H0 σ tDNewK (· = .dict []) := fun H Q e q p np => q _ _ _ (Ex.new np) rfl (.dct (kv := []) (hA _ (none_of e np)) upd_same rfl)
theorem lit_dict1 {z : Str} {i : Int} (hA : ∀ a, H0 a = none → A a) : Lit A H0 σ (tDisp [(tC (.str z), tC (.int i))]) (· = .dict [(.str z, .int i)]) := fun H Q e q p np => by
  refine ⟨upd_same, [(Sum.inr z, .int i)], rfl, by show 1 ≤ 15; decide, ?_⟩
  exact q _ _ _ (Ex.mut (Ex.new np) np) rfl (.dct (kv := [(z, i)]) (hA _ (none_of e np)) upd_same rfl)
theorem lit_nil : LitA A H0 σ tNil (· = []) := fun H Q e q => q H _ _ (Ex.refl _) rfl .nil
theorem lit_cons {d : PyData} {ds : List PyData} (h : Lit A H0 σ te (· = d)) (k : LitA A H0 σ ta (· = ds)) : LitA A H0 σ (tCons te ta) (· = d :: ds) := fun H Q e q =>
  h H _ e fun H1 v d' e1 p1 h1 => k H1 _ (e.trans e1) fun H2 vs ds' e2 p2 h2 => q H2 _ _ (e1.trans e2) (by rw [p1, p2]) (.cons (DaA.exA e2 h1) h2)
theorem lit_consP {P : PyData → Prop} {R : List PyData → Prop} (h : Lit A H0 σ te P) (k : LitA A H0 σ ta R) : LitA A H0 σ (tCons te ta) (fun ds => ∃ d es, ds = d :: es ∧ P d ∧ R es) := fun H Q e q =>
  h H _ e fun H1 v d' e1 p1 h1 => k H1 _ (e.trans e1) fun H2 vs ds' e2 p2 h2 => q H2 _ _ (e1.trans e2) ⟨_, _, rfl, p1, p2⟩ (.cons (DaA.exA e2 h1) h2)
theorem lit_lst {ds : List PyData} (hA : ∀ a, H0 a = none → A a) (hl : ds.length ≤ 60000) (h : LitA A H0 σ ta (· = ds)) : Lit A H0 σ (tLst ta) (· = .list ds) := fun H Q e q =>
  h H _ e fun H1 vs ds' e1 p1 h1 => by
    subst p1
    refine ⟨by rw [(DaAA.da _ h1).len, sizeLine_eq]; omega, fun p np => ?_⟩
    exact q _ _ _ (e1.trans (Ex.new np)) rfl (.lst (hA _ (none_of (e.trans e1) np)) upd_same (DaAA.exA (Ex.new np) h1))
theorem lit_tup {ds : List PyData} (hA : ∀ a, H0 a = none → A a) (hl : ds.length ≤ 60000) (h : LitA A H0 σ ta (· = ds)) : Lit A H0 σ (tTup ta) (· = .tuple ds) := fun H Q e q =>
  h H _ e fun H1 vs ds' e1 p1 h1 => by
    subst p1
    refine ⟨by rw [(DaAA.da _ h1).len, sizeLine_eq]; omega, fun p np => ?_⟩
    exact q _ _ _ (e1.trans (Ex.new np)) rfl (.tup (hA _ (none_of (e.trans e1) np)) upd_same (DaAA.exA (Ex.new np) h1))
theorem lit_lstP {R : List PyData → Prop} (hA : ∀ a, H0 a = none → A a) (hl : ∀ ds, R ds → ds.length ≤ 60000) (h : LitA A H0 σ ta R) : Lit A H0 σ (tLst ta) (fun d => ∃ ds, d = .list ds ∧ R ds) := fun H Q e q =>
  h H _ e fun H1 vs ds' e1 p1 h1 => by
    have := hl _ p1
    refine ⟨by rw [(DaAA.da _ h1).len, sizeLine_eq]; omega, fun p np => ?_⟩
    exact q _ _ _ (e1.trans (Ex.new np)) ⟨_, rfl, p1⟩ (.lst (hA _ (none_of (e.trans e1) np)) upd_same (DaAA.exA (Ex.new np) h1))
theorem lit_var {i : Nat} {v : V} {d : PyData} (hi : σ[i]? = some (some v)) (h : DaA A H0 v d) : Lit A H0 σ (tVar i) (· = d) := fun H Q e q => ⟨v, hi, q H _ _ (Ex.refl _) rfl (DaA.exA e h)⟩
/-- two lists joined -/
theorem lit_add {R S : List PyData → Prop} (hA : ∀ a, H0 a = none → A a) (h : Lit A H0 σ te (fun d => ∃ ds, d = .list ds ∧ R ds)) (k : Lit A H0 σ tf (fun d => ∃ ds, d = .list ds ∧ S ds)) (hl : ∀ ds es, R ds → S es → ds.length + es.length ≤ 60000) :
    Lit A H0 σ (tOp (rAdd K) te tf) (fun d => ∃ ds es, d = .list (ds ++ es) ∧ R ds ∧ S es) := fun H Q e q =>
  h H _ e fun H1 v d' e1 p1 h1 => k H1 _ (e.trans e1) fun H2 u g e2 p2 h2 => by
    obtain ⟨ds, rfl, r1⟩ := p1
    obtain ⟨es, rfl, r2⟩ := p2
    have := hl _ _ r1 r2
    cases h1 with
    | @lst a xs _ a1 a2 a3 =>
      cases h2 with
      | @lst b ys _ b1 b2 b3 =>
        have l1 := (DaAA.da _ a3).len
        have l2 := (DaAA.da _ b3).len
        refine .inr (.inr (.inl ⟨a, b, xs, ys, rfl, rfl, e2 _ _ a2, b2, by rw [sizeLine_eq]; omega, fun l n => ?_⟩))
        have e3 := Ex.new (o := .lst (xs ++ ys)) n
        exact q _ _ _ ((e1.trans e2).trans e3) ⟨_, _, rfl, r1, r2⟩ (.lst (hA _ (none_of ((e.trans e1).trans e2) n)) upd_same (DaAA.app (DaAA.exA (e2.trans e3) a3) (DaAA.exA e3 b3)))
end
end Own

namespace Own
open PySem PySem.Spec PyProof.Rows L2 Evl
/-! ### long lists of noughts may be shown -/
mutual
/-- no text of d is longer (noughts told) -/
def wq : PyData → Nat
  | .none => 5
  | .bool _ => 5
  | .int i => if i = 0 then 4 else 1921
  | .str x => 10 * x.length + 5
  | .list xs => wqs xs + 3
  | .tuple xs => wqs xs + 3
  | .dict ks => wqk ks + 3
def wqs : List PyData → Nat
  | [] => 0
  | x :: xs => wq x + 2 + wqs xs
def wqk : List (PyData × PyData) → Nat
  | [] => 0
  | (k, v) :: r => wq k + wq v + 4 + wqk r
end
mutual
theorem shownQ : ∀ d : PyData, gD d = true → d.showable = true ∧ d.shown.length ≤ wq d
  | .none, _ => ⟨rfl, by decide⟩
  | .bool b, _ => ⟨rfl, by cases b <;> decide⟩
  | .int i, h => by
    refine ⟨h, ?_⟩
    show (toString i : Str).length ≤ (if i = 0 then 4 else 1921)
    by_cases e : i = 0
    · subst e
      rw [if_pos rfl]
      decide +kernel
    · rw [if_neg e]
      exact int_text_len_1921 (of_decide_eq_true h)
  | .str x, h => ⟨rfl, str_wd h⟩
  | .list xs, h => by
    obtain ⟨q1, q2⟩ := shownQs xs h
    have z := listText_le (PyData.shownAll xs)
    refine ⟨q1, ?_⟩
    show (listText (PyData.shownAll xs)).length ≤ wqs xs + 3
    omega
  | .tuple xs, h => by
    obtain ⟨q1, q2⟩ := shownQs xs h
    have z := tupleText_le (PyData.shownAll xs)
    refine ⟨q1, ?_⟩
    show (tupleText (PyData.shownAll xs)).length ≤ wqs xs + 3
    omega
  | .dict ks, h => by
    obtain ⟨q1, q2⟩ := shownQk ks h
    refine ⟨q1, ?_⟩
    show (dictText (PyData.shownKv ks)).length ≤ wqk ks + 3
    have z := dictText_len_le (PyData.shownKv ks)
    omega
theorem shownQs : ∀ ds : List PyData, gDs ds = true → PyData.showableAll ds = true ∧ piled (PyData.shownAll ds) ≤ wqs ds
  | [], _ => ⟨rfl, Nat.le_refl _⟩
  | d :: ds, h => by
    have h' : (gD d && gDs ds) = true := h
    rw [Bool.and_eq_true] at h'
    obtain ⟨a1, a2⟩ := shownQ d h'.1
    obtain ⟨b1, b2⟩ := shownQs ds h'.2
    refine ⟨?_, ?_⟩
    · show (d.showable && PyData.showableAll ds) = true
      rw [a1, b1]
      rfl
    · show piled (d.shown :: PyData.shownAll ds) ≤ wq d + 2 + wqs ds
      rw [piled_cons]
      omega
theorem shownQk : ∀ ks : List (PyData × PyData), gDk ks = true → PyData.showableKv ks = true ∧ ((PyData.shownKv ks).map (·.length)).sum + 2 * (PyData.shownKv ks).length ≤ wqk ks
  | [], _ => ⟨rfl, Nat.le_refl _⟩
  | (k, v) :: r, h => by
    have h' : (gD k && (gD v && gDk r)) = true := h
    rw [Bool.and_eq_true, Bool.and_eq_true] at h'
    obtain ⟨a1, a2⟩ := shownQ k h'.1
    obtain ⟨b1, b2⟩ := shownQ v h'.2.1
    obtain ⟨c1, c2⟩ := shownQk r h'.2.2
    refine ⟨?_, ?_⟩
    · show (k.showable && v.showable && PyData.showableKv r) = true
      rw [a1, b1, c1]
      rfl
    · rw [PyData.shownKv_cons, List.map_cons, List.sum_cons, List.length_cons, strLen_append, strLen_append]
      show _ ≤ wq k + wq v + 4 + wqk r
      have : (": " : Str).length = 2 := rfl
      omega
end
/-- data that may be shown -/
def okQ (n W : Nat) (d : PyData) : Prop := gD d = true ∧ d.depth ≤ n ∧ wq d ≤ W
theorem okQ.mono {n W n' W' : Nat} {d : PyData} (h : okQ n W d) (h1 : n ≤ n') (h2 : W ≤ W') : okQ n' W' d := ⟨h.1, Nat.le_trans h.2.1 h1, Nat.le_trans h.2.2 h2⟩
def rReprQ : List V → Hp → VK → Prop := fun xs H Q => ∃ v d, xs = [v] ∧ Da H v d ∧ okQ 40 16000000 d ∧ Q (.str d.shown) H
theorem callReprQ {X : Cx} {k : Nat} (hs : SysAt X.base) (hg : X.A.guards = some []) (hr : Room k X.A) : CallR X (.builtin "repr") rReprQ := by
  intro pk s τ H xs us Q I r h
  obtain ⟨v, d, rfl, hd, ⟨g1, g2, g3⟩, q⟩ := h
  obtain ⟨s1, s2⟩ := shownQ d g1
  have hlen : d.shown.length ≤ sizeLine := Nat.le_trans s2 (Nat.le_trans g3 (by decide))
  have hu := hr.units
  obtain ⟨u, eu, ru⟩ := vals1 r
  subst eu
  obtain ⟨as, rd, hn⟩ := Da.reads I hs d v u hd ru
  cases hd with
  | lst h1 h2 =>
    cases ru
    exact repr_of_reads' rd s1 (fun _ => hn) hg (by omega) (fun _ _ e => e) (fun h' u tk hkp => ⟨.str _, H, I.kept (h' := h') (t' := tk) hkp, ⟨_, rfl⟩, q⟩) hlen
  | tup h1 h2 =>
    cases ru
    exact repr_of_reads' rd s1 (fun _ => hn) hg (by omega) (fun _ _ e => e) (fun h' u tk hkp => ⟨.str _, H, I.kept (h' := h') (t' := tk) hkp, ⟨_, rfl⟩, q⟩) hlen
  | dct h1 h2 =>
    cases ru
    exact repr_of_reads' rd s1 (fun _ => hn) hg (by omega) (fun _ _ e => e) (fun h' u tk hkp => ⟨.str _, H, I.kept (h' := h') (t' := tk) hkp, ⟨_, rfl⟩, q⟩) hlen
  | non =>
    cases ru
    exact PySem.P.repr_of_none ⟨.str "None", H, I.tok _, ⟨_, rfl⟩, q⟩
  | bl b =>
    cases ru
    exact PySem.P.repr_of_bool ⟨.str (if b then "True" else "False"), H, I.tok _, ⟨_, by cases b <;> rfl⟩, by cases b <;> exact q⟩
  | int i =>
    obtain ⟨t, rfl⟩ := ru
    exact PySem.P.repr_of_int (of_decide_eq_true g1) ⟨.str (toString i), H, I.tok _, ⟨_, rfl⟩, q⟩
  | str x =>
    obtain ⟨t, rfl⟩ := ru
    exact PySem.P.repr_of_str ⟨.str (reprText x), H, I.tok _, ⟨_, rfl⟩, q⟩ hlen

mutual
theorem wq_le : ∀ d : PyData, wq d ≤ wd d
  | .none => Nat.le_refl _
  | .bool _ => Nat.le_refl _
  | .int i => by
    show (if i = 0 then 4 else 1921) ≤ 1921
    split <;> omega
  | .str x => Nat.le_refl _
  | .list xs => Nat.add_le_add_right (wqs_le xs) 3
  | .tuple xs => Nat.add_le_add_right (wqs_le xs) 3
  | .dict ks => Nat.add_le_add_right (wqk_le ks) 3
theorem wqs_le : ∀ ds : List PyData, wqs ds ≤ wds ds
  | [] => Nat.le_refl _
  | x :: xs => by
    have := wq_le x
    have := wqs_le xs
    show wq x + 2 + wqs xs ≤ wd x + 2 + wds xs
    omega
theorem wqk_le : ∀ ks : List (PyData × PyData), wqk ks ≤ wdk ks
  | [] => Nat.le_refl _
  | (k, v) :: r => by
    have := wq_le k
    have := wq_le v
    have := wqk_le r
    show wq k + wq v + 4 + wqk r ≤ wd k + wd v + 4 + wdk r
    omega
end
theorem okD.q {n W : Nat} {d : PyData} (h : okD n W d) : okQ n W d := ⟨h.1, h.2.1, Nat.le_trans (wq_le d) h.2.2⟩
theorem okQ_list {n W : Nat} {ds : List PyData} (h : ∀ d ∈ ds, okQ n W d) {m : Nat} (hm : ds.length ≤ m) : okQ (n + 1) (m * (W + 2) + 3) (.list ds) := by
  refine ⟨gDs_iff.mpr fun d hd => (h d hd).1, Nat.succ_le_succ (depthAll_le.mpr fun d hd => (h d hd).2.1), ?_⟩
  have q : ∀ l : List PyData, (∀ d ∈ l, okQ n W d) → wqs l ≤ l.length * (W + 2) := by
    intro l
    induction l with
    | nil => intro _; exact Nat.zero_le _
    | cons x xs ih =>
      intro h
      have h1 := (h x List.mem_cons_self).2.2
      have h2 := ih fun d hd => h d (List.mem_cons_of_mem _ hd)
      show wq x + 2 + wqs xs ≤ (xs.length + 1) * (W + 2)
      rw [Nat.succ_mul]
      omega
  have h3 := q ds h
  have h4 := Nat.mul_le_mul_right (W + 2) hm
  show wqs ds + 3 ≤ _
  omega
end Own

namespace Own
open PySem PySem.Spec PyProof.Rows L2 Evl
abbrev s_is_integer : Stmt := top 5
theorem sc_is_integer : FnScope ["thing"] ["thing"] (defScope s_is_integer) := ⟨rfl, rfl, rfl, by decide +kernel, rfl, by decide +kernel, by decide +kernel⟩
abbrev s_is_home : Stmt := top 8
theorem sc_is_home : FnScope ["thing"] ["thing"] (defScope s_is_home) := ⟨rfl, rfl, rfl, by decide +kernel, rfl, by decide +kernel, by decide +kernel⟩
abbrev s_is_word : Stmt := top 19
theorem sc_is_word : FnScope ["thing"] ["thing"] (defScope s_is_word) := ⟨rfl, rfl, rfl, by decide +kernel, rfl, by decide +kernel, by decide +kernel⟩
abbrev s_is_number_of_row : Stmt := top 20
theorem sc_is_number_of_row : FnScope ["thing"] ["thing"] (defScope s_is_number_of_row) := ⟨rfl, rfl, rfl, by decide +kernel, rfl, by decide +kernel, by decide +kernel⟩
abbrev s_are_names : Stmt := top 21
theorem sc_are_names : FnScope ["thing", "name"] ["thing"] (defScope s_are_names) := ⟨rfl, rfl, rfl, by decide +kernel, rfl, by decide +kernel, by decide +kernel⟩
abbrev s_are_patterns : Stmt := top 22
theorem sc_are_patterns : FnScope ["thing", "pattern"] ["thing"] (defScope s_are_patterns) := ⟨rfl, rfl, rfl, by decide +kernel, rfl, by decide +kernel, by decide +kernel⟩
abbrev s_are_numbers_of_rows : Stmt := top 23
theorem sc_are_numbers_of_rows : FnScope ["thing", "told"] ["thing"] (defScope s_are_numbers_of_rows) := ⟨rfl, rfl, rfl, by decide +kernel, rfl, by decide +kernel, by decide +kernel⟩
/-! ### what a licence is told -/
def natD : PyData → Bool | .int i => decide (0 ≤ i) | _ => false
def intD : PyData → Bool | .int _ => true | _ => false
def homeD : PyData → Bool | .str z => decide (z = "goal") || decide (z = "book") | _ => false
theorem homeD_no {d : PyData} (h : isStrD d = false) : homeD d = false := by cases d <;> first | rfl | cases h
theorem Da.int_inv {H : Hp} {v : V} {i : Int} (h : Da H v (.int i)) : v = .int i := by cases h; rfl
def isWd (z : Str) : Bool := inV (.str z) [.str "none", .str "front", .str "back", .str "any"]
def wordD : PyData → Bool | .str z => isWd z | _ => false
theorem wordD_no {d : PyData} (h : isStrD d = false) : wordD d = false := by cases d <;> first | rfl | cases h
def norD : PyData → Bool | .tuple [a, b] => homeD a && natD b | _ => false
theorem norD_no {d : PyData} (h : isTupD d = false) : norD d = false := by cases d <;> first | rfl | cases h
theorem norD_len : ∀ {ds : List PyData}, ds.length ≠ 2 → norD (.tuple ds) = false
  | [], _ => rfl
  | [_], _ => rfl
  | [_, _], h => absurd rfl h
  | _ :: _ :: _ :: _, _ => rfl
def partsD (p : PyData → Bool) : PyData → Bool | .list ds => ds.all p | .tuple ds => ds.all p | _ => false
/-- no two alike -/
def dis (ds : List PyData) : Bool := decide ((ds.map nk).Nodup)
def nosD : PyData → Bool | .list ds => ds.all norD && dis ds | .tuple ds => ds.all norD && dis ds | _ => false
theorem home_in (z : Str) : inV (.str z) [.str "goal", .str "book"] = (decide (z = "goal") || decide (z = "book")) := by
  rw [show [V.str "goal", V.str "book"] = (["goal", "book"] : List Str).map V.str from rfl, in_strs]
  by_cases h1 : z = "goal" <;> by_cases h2 : z = "book" <;> simp [h1, h2]
theorem kit_lt {K : PySem.W.Frag} (d : PyData) : PySem.W.kitAny K (.type (tyD d)) [.type "list", .type "tuple"] = some (isLstD d || isTupD d) := by
  refine kitAny_cons (kit_ty (kit_list d)) (fun e => ?_) (fun e => by rw [e]; rfl)
  rw [e, Bool.false_or]
  exact kitAny_cons (kit_ty (kit_tuple d)) (fun e => by rw [e]; exact kitAny_nil) (fun e => by rw [e])
/-- a list or a tuple, and its parts -/
def SqD (H : Hp) (v : V) (ds : List PyData) : Prop := ∃ p xs, v = .ref p ∧ (H p = some (.lst xs) ∨ H p = some (.tup xs)) ∧ DaAll H xs ds
structure TxtL (K : PySem.W.Frag) (mg : Str → Option Value) (rel hom wrd srt : Addr) : Prop extends TxtI K mg rel where
  g_HOMES : mg "HOMES" = some (.ref hom)
  homs : ∀ H, SqT K H hom [.str "goal", .str "book"]
  g_WORDS : mg "WORDS" = some (.ref wrd)
  words : ∀ H, SqT K H wrd [.str "none", .str "front", .str "back", .str "any"]
  g_SORTS : mg "SORTS" = some (.ref srt)
  sorts : ∀ H, SqT K H srt [.str "call", .str "more", .str "out", .str "part", .str "turn"]
theorem okD.len5 {n W : Nat} {ds : List PyData} (h : okD n W (.list ds)) : 5 * ds.length ≤ W := okD.lenT (ds := ds) h
/-- of a bounded length, and small parts -/
def okV (d : PyData) : Prop := ∀ ds, (d = .list ds ∨ d = .tuple ds) → ds.length ≤ 30000 ∧ ∀ x ∈ ds, okD 39 15000000 x
theorem okV.of {d : PyData} (h : okD 39 150000 d) : okV d := fun ds e => by
  rcases e with rfl | rfl
  · have := okD.len5 h
    exact ⟨by omega, fun x hx => (h.memL hx).mono (by decide) (by decide)⟩
  · have := okD.lenT h
    exact ⟨by omega, fun x hx => (h.memT hx).mono (by decide) (by decide)⟩
section
variable {P : Program} {w : World} {K : PySem.W.Frag} {mg : Str → Option Value} {base : Heap} {rel hom wrd srt : Addr}
/-- as spIs, of lists of a bounded length -/
def spIs5 (p : PyData → Bool) : Sp := fun vs H Q _ => ∃ (v : V) (d : PyData), vs = [v] ∧ Da H v d ∧ okV d ∧ ∀ H', Ex H H' → Q (.bl (p d)) H'
theorem ok_is_integer (T : Txt0 mg) (TI : TxtL K mg rel hom wrd srt) (D : Df K mg "is_integer" s_is_integer) : CalG P w K mg base 1 "is_integer" (spIs intD) := by
  refine cal_mk D sc_is_integer (fun _ _ _ _ _ _ us hl => match us, hl with | [_], _ => rfl) (fun vs H Q E h => ?_) (fun f cdv A outer s H vs Q E hr hG h => ?_)
  · obtain ⟨v, d, rfl, _⟩ := h
    rfl
  · obtain ⟨v, d, rfl, hv, hok, q⟩ := h
    refine ⟨_, (pss_one (ps_ret (pe_and (pe_callB call_isi (by rfl) TI.isinstance (by decide +kernel) (pa_cons (pv 0) (pa_cons (pe_bltn (v := .ty "int") (by rfl) T.int (by decide +kernel) rfl) pa_nil))) (pe_one (pe_not (pe_callB call_isi (by rfl) TI.isinstance (by decide +kernel) (pa_cons (pv 0) (pa_cons (pe_bltn (v := .ty "bool") (by rfl) TI.bool (by decide +kernel) rfl) pa_nil)))))))), ?_⟩
    refine ⟨_, rfl, v, .ty "int", _, _, _, rfl, .ty _, hv.ty, kit_ty (kit_int d), _, rfl, ?_⟩
    cases hs : isIntD d with
    | false =>
      refine iteF ?_
      have e : intD d = false := by cases d <;> first | rfl | cases hs
      rw [← e]
      exact q _ (Ex.refl _)
    | true =>
      refine iteT ⟨_, rfl, v, .ty "bool", _, _, _, rfl, .ty _, hv.ty, kit_ty (kit_bool d), _, rfl, ?_⟩
      have e : (!isBoolD d) = intD d := by cases d <;> first | rfl | cases hs
      rw [e]
      exact q _ (Ex.refl _)
theorem ok_is_home (T : Txt0 mg) (TI : TxtL K mg rel hom wrd srt) (D : Df K mg "is_home" s_is_home) : CalG P w K mg base 1 "is_home" (spIs homeD) := by
  refine cal_mk D sc_is_home (fun _ _ _ _ _ _ us hl => match us, hl with | [_], _ => rfl) (fun vs H Q E h => ?_) (fun f cdv A outer s H vs Q E hr hG h => ?_)
  · obtain ⟨v, d, rfl, _⟩ := h
    rfl
  · obtain ⟨v, d, rfl, hv, hok, q⟩ := h
    refine ⟨_, (pss_one (ps_ret (pe_and (pe_callB call_isi (by rfl) TI.isinstance (by decide +kernel) (pa_cons (pv 0) (pa_cons (pe_bltn (v := .ty "str") (by rfl) TI.str (by decide +kernel) rfl) pa_nil))) (pe_one (pe_cmpR opIn (pv 0) (pe_glob (v := .ref _) rfl TI.g_HOMES rfl) rfl))))), ?_⟩
    refine ⟨_, rfl, v, .ty "str", _, _, _, rfl, .ty _, hv.ty, kit_ty (kit_str d), _, rfl, ?_⟩
    cases hs : isStrD d with
    | false =>
      refine iteF ?_
      rw [← homeD_no hs]
      exact q _ (Ex.refl _)
    | true =>
      obtain ⟨z, rfl⟩ := str_of hs
      have ev := hv.str_inv
      subst ev
      refine iteT ⟨_, rfl, .inl ⟨hom, _, rfl, .inr (TI.homs H), rfl, rfl, ?_⟩⟩
      show Q (.bl (inV (.str z) [.str "goal", .str "book"])) H
      rw [home_in]
      exact q _ (Ex.refl _)
theorem ok_is_word (T : Txt0 mg) (TI : TxtL K mg rel hom wrd srt) (D : Df K mg "is_word" s_is_word) : CalG P w K mg base 1 "is_word" (spIs wordD) := by
  refine cal_mk D sc_is_word (fun _ _ _ _ _ _ us hl => match us, hl with | [_], _ => rfl) (fun vs H Q E h => ?_) (fun f cdv A outer s H vs Q E hr hG h => ?_)
  · obtain ⟨v, d, rfl, _⟩ := h
    rfl
  · obtain ⟨v, d, rfl, hv, hok, q⟩ := h
    refine ⟨_, (pss_one (ps_ret (pe_and (pe_callB call_isi (by rfl) TI.isinstance (by decide +kernel) (pa_cons (pv 0) (pa_cons (pe_bltn (v := .ty "str") (by rfl) TI.str (by decide +kernel) rfl) pa_nil))) (pe_one (pe_cmpR opIn (pv 0) (pe_glob (v := .ref _) rfl TI.g_WORDS rfl) rfl))))), ?_⟩
    refine ⟨_, rfl, v, .ty "str", _, _, _, rfl, .ty _, hv.ty, kit_ty (kit_str d), _, rfl, ?_⟩
    cases hs : isStrD d with
    | false =>
      refine iteF ?_
      rw [← wordD_no hs]
      exact q _ (Ex.refl _)
    | true =>
      obtain ⟨z, rfl⟩ := str_of hs
      have ev := hv.str_inv
      subst ev
      refine iteT ⟨_, rfl, .inl ⟨wrd, _, rfl, .inr (TI.words H), rfl, rfl, ?_⟩⟩
      exact q _ (Ex.refl _)
theorem ok_is_number (T : Txt0 mg) (TI : TxtL K mg rel hom wrd srt) (D : Df K mg "is_number_of_row" s_is_number_of_row) (c_is_home : CalG P w K mg base 1 "is_home" (spIs homeD)) (c_is_integer : CalG P w K mg base 1 "is_integer" (spIs intD)) : CalG P w K mg base 2 "is_number_of_row" (spIs norD) := by
  refine cal_mk D sc_is_number_of_row (fun _ _ _ _ _ _ us hl => match us, hl with | [_], _ => rfl) (fun vs H Q E h => ?_) (fun f cdv A outer s H vs Q E hr hG h => ?_)
  · obtain ⟨v, d, rfl, _⟩ := h
    rfl
  · obtain ⟨v, d, rfl, hv, hok, q⟩ := h
    refine ⟨_, (pss_cons (ps_if (PW.pt (pw_or (pt_not (pt_val (pe_callB call_isi (by rfl) TI.isinstance (by decide +kernel) (pa_cons (pv 0) (pa_cons (pe_bltn (v := .ty "tuple") (by rfl) T.tuple (by decide +kernel) rfl) pa_nil))))) (pw_or1 (pt_cmpR (opNe hr) (pe_callB callLen (by rfl) T.len PySem.boot_len (pa_cons (pv 0) pa_nil)) pe_int (nomark _))))) (pss_one (ps_ret pe_bl)) pss_nil)
      (pss_one (ps_ret (pe_and (pe_cG c_is_home hr hG (by decide) rfl (pa_cons (pe_ix ixAny (pv 0) pe_int (fun _ _ => rfl)) pa_nil)) (pe_and (pe_cG c_is_integer hr hG (by decide) rfl (pa_cons (pe_ix ixAny (pv 0) pe_int (fun _ _ => rfl)) pa_nil)) (pe_one (pe_cmpR opGe (pe_ix ixAny (pv 0) pe_int (fun _ _ => rfl)) pe_int (nomark _)))))))), ?_⟩
    refine ⟨_, rfl, v, .ty "tuple", _, _, _, rfl, .ty _, hv.ty, kit_ty (kit_tuple d), _, rfl, ?_⟩
    cases hs : isTupD d with
    | false =>
      refine iteT ?_
      rw [← norD_no hs]
      exact q _ (Ex.refl _)
    | true =>
      obtain ⟨ds, rfl⟩ := tup_of hs
      obtain ⟨p, xs, rfl, hp, hA⟩ := hv.tup_inv
      have hl := hA.len
      refine iteF ⟨_, rfl, .inl ⟨p, _, rfl, .inr (st_of hp), .inl ⟨rfl, _, rfl, ?_⟩⟩⟩
      by_cases h3 : ds.length = 2
      · obtain ⟨x, y, a, b, rfl, rfl, ha, hb⟩ := two hA h3
        refine ifF (b := !decide (V.int 2 = V.int 2)) (by decide +kernel) ?_
        refine ⟨_, rfl, .inr (.inl ⟨p, _, 0, _, rfl, rfl, st_of hp, atI_nat (j := 0) rfl, ?_⟩)⟩
        refine ⟨x, a, rfl, ha, hok.memT (by simp), fun H1 e1 => ⟨_, rfl, ?_⟩⟩
        rw [show norD (.tuple [a, b]) = (homeD a && natD b) from rfl] at q
        cases r1 : homeD a with
        | false =>
          rw [r1] at q
          exact iteF (q _ e1)
        | true =>
          rw [r1, Bool.true_and] at q
          refine iteT ⟨_, rfl, .inr (.inl ⟨p, _, 1, _, rfl, rfl, st_of (e1 _ _ hp), atI_nat (j := 1) rfl, ?_⟩)⟩
          refine ⟨y, b, rfl, hb.ex e1, hok.memT (by simp), fun H2 e2 => ⟨_, rfl, ?_⟩⟩
          have e12 := e1.trans e2
          cases r2 : intD b with
          | false =>
            rw [show natD b = false from by cases b <;> first | rfl | cases r2] at q
            exact iteF (q _ e12)
          | true =>
            obtain ⟨i, rfl⟩ : ∃ i, b = .int i := by cases b <;> first | exact ⟨_, rfl⟩ | cases r2
            have := hb.int_inv
            subst this
            refine iteT ⟨_, rfl, .inr (.inl ⟨p, _, 1, _, rfl, rfl, st_of (e12 _ _ hp), atI_nat (j := 1) rfl, ?_⟩)⟩
            refine ⟨i, 0, rfl, rfl, ?_⟩
            exact q _ e12
      · refine ifT (b := !decide (V.int (xs.length : Int) = V.int ((2 : Nat) : Int))) (by rw [int_ne, decide_eq_false (by omega)]; rfl) ?_
        rw [← norD_len h3]
        exact q _ (Ex.refl _)
theorem ok_are_names (T : Txt0 mg) (TI : TxtL K mg rel hom wrd srt) (D : Df K mg "are_names" s_are_names) (c_is_name : CalG P w K mg base 1 "is_name" (spIs nmD)) : CalG P w K mg base 2 "are_names" (spIs5 (partsD nmD)) := by
  refine cal_mk D sc_are_names (fun _ _ _ _ _ _ us hl => match us, hl with | [_], _ => rfl) (fun vs H Q E h => ?_) (fun f cdv A outer s H vs Q E hr hG h => ?_)
  · obtain ⟨v, d, rfl, _⟩ := h
    rfl
  · obtain ⟨v, d, rfl, hv, hok, q⟩ := h
    refine ⟨_, (pss_one (ps_ret (pe_and (pe_callB call_isiT (by rfl) TI.isinstance (by decide +kernel) (pa_cons (pv 0) (pa_cons (pe_tup (pa_cons (pe_bltn (v := .ty "list") (by rfl) T.list (by decide +kernel) rfl) (pa_cons (pe_bltn (v := .ty "tuple") (by rfl) T.tuple (by decide +kernel) rfl) pa_nil))) pa_nil))) (pe_one (pe_callB (cr_all rfl) (by rfl) T.all (by decide +kernel) (pa_cons (pe_lcO (pe_lc (own := [("name", 1)]) rfl sc_are_names.nd (piAny (pv 0)) (blkOk_by (own := [("name", 1)]) (N := ["thing", "name"]) (sc := defScope s_are_names) (by first | decide +kernel | kernel_rfl)) (fun _ _ _ _ _ => pg_name (i := 1) sc_are_names.nd rfl (Or.inl rfl)) (fun _ _ _ _ _ => pts_nil) (fun _ _ _ _ _ => pe_cG c_is_name hr hG (by decide) rfl (pa_cons (pv 1) pa_nil)))) pa_nil)))))), ?_⟩
    refine ⟨_, rfl, by show 2 ≤ sizeLine; decide, fun t2 n2 => ?_⟩
    generalize hq2 : upd H t2 _ = H2
    obtain ⟨e2, h2⟩ := gen1 hq2 n2
    refine ⟨v, t2, _, _, _, _, rfl, h2, .cons (.ty _) (.cons (.ty _) .nil), (Da.ex e2 _ hv).ty, kit_lt d, _, rfl, ?_⟩
    by_cases hl : isLstD d = true
    · obtain ⟨ds, rfl⟩ : ∃ ds, d = .list ds := by cases d <;> first | exact ⟨_, rfl⟩ | cases hl
      obtain ⟨p, xs, rfl, hp, hA⟩ := hv.lst_inv
      have hll := hA.len
      have h5 := (hok _ (.inl rfl)).1
      refine iteT (.inl ⟨.ref p, rfl, p, rfl, ⟨_, sq_of (e2 _ _ hp)⟩, ?_⟩)
      refine lcG (walk_list (xs := xs)) (by omega) (sq_of (e2 _ _ hp)) (fun _ _ e h => ex_l e h) yAt_ex (fun i ys _ => ys = ((ds.take i).map nmD).map V.bl) (fun _ _ _ _ _ h => h) rfl ?_ ?_
      · rintro i u H3 H4 ys hi e ⟨rfl, hx⟩ rfl N N0 kN kN0
        obtain ⟨g, hg, hat⟩ := (DaAll.ex (e2.trans e) _ hA).at hx
        refine ⟨rfl, ?_⟩
        refine ⟨_, rfl, u, g, rfl, hat, ((hok _ (.inl rfl)).2 _ (List.mem_of_getElem? hg)).mono (by decide) (by decide), fun H5 e5 => kN _ _ e5 ?_⟩
        rw [tk hg, List.map_append, List.map_append]
        rfl
      · rintro l H3 ys hl3 e3 h3' _ rfl
        refine ⟨l, _, rfl, sq_of h3', ?_⟩
        have e : (((ds.take xs.length).map nmD).all id) = partsD nmD (.list ds) := by
          rw [hll, List.take_length, List.all_map]
          rfl
        rw [e]
        exact q _ (e2.trans e3)
    · by_cases ht : isTupD d = true
      · obtain ⟨ds, rfl⟩ : ∃ ds, d = .tuple ds := by cases d <;> first | exact ⟨_, rfl⟩ | cases ht
        obtain ⟨p, xs, rfl, hp, hA⟩ := hv.tup_inv
        have hll := hA.len
        have h5 := (hok _ (.inr rfl)).1
        refine iteT (.inr (.inl ⟨.ref p, rfl, p, rfl, ⟨_, st_of (e2 _ _ hp)⟩, ?_⟩))
        refine lcG (walk_tup (xs := xs)) (by omega) (st_of (e2 _ _ hp)) (fun _ _ e h => ex_t e h) yAt_ex (fun i ys _ => ys = ((ds.take i).map nmD).map V.bl) (fun _ _ _ _ _ h => h) rfl ?_ ?_
        · rintro i u H3 H4 ys hi e ⟨rfl, hx⟩ rfl N N0 kN kN0
          obtain ⟨g, hg, hat⟩ := (DaAll.ex (e2.trans e) _ hA).at hx
          refine ⟨rfl, ?_⟩
          refine ⟨_, rfl, u, g, rfl, hat, ((hok _ (.inr rfl)).2 _ (List.mem_of_getElem? hg)).mono (by decide) (by decide), fun H5 e5 => kN _ _ e5 ?_⟩
          rw [tk hg, List.map_append, List.map_append]
          rfl
        · rintro l H3 ys hl3 e3 h3' _ rfl
          refine ⟨l, _, rfl, sq_of h3', ?_⟩
          have e : (((ds.take xs.length).map nmD).all id) = partsD nmD (.tuple ds) := by
            rw [hll, List.take_length, List.all_map]
            rfl
          rw [e]
          exact q _ (e2.trans e3)
      · have hl : isLstD d = false := by simpa using hl
        have ht : isTupD d = false := by simpa using ht
        rw [hl, ht]
        refine iteF ?_
        have e : partsD nmD d = false := by cases d <;> first | rfl | exact absurd (show true = false from hl) (by decide) | exact absurd (show true = false from ht) (by decide)
        rw [← e]
        exact q _ e2
theorem ok_are_patterns (T : Txt0 mg) (TI : TxtL K mg rel hom wrd srt) (D : Df K mg "are_patterns" s_are_patterns) (c_is_pattern : CalG P w K mg base 2 "is_pattern" (spIs patD)) : CalG P w K mg base 3 "are_patterns" (spIs5 (partsD patD)) := by
  refine cal_mk D sc_are_patterns (fun _ _ _ _ _ _ us hl => match us, hl with | [_], _ => rfl) (fun vs H Q E h => ?_) (fun f cdv A outer s H vs Q E hr hG h => ?_)
  · obtain ⟨v, d, rfl, _⟩ := h
    rfl
  · obtain ⟨v, d, rfl, hv, hok, q⟩ := h
    refine ⟨_, (pss_one (ps_ret (pe_and (pe_callB call_isiT (by rfl) TI.isinstance (by decide +kernel) (pa_cons (pv 0) (pa_cons (pe_tup (pa_cons (pe_bltn (v := .ty "list") (by rfl) T.list (by decide +kernel) rfl) (pa_cons (pe_bltn (v := .ty "tuple") (by rfl) T.tuple (by decide +kernel) rfl) pa_nil))) pa_nil))) (pe_one (pe_callB (cr_all rfl) (by rfl) T.all (by decide +kernel) (pa_cons (pe_lcO (pe_lc (own := [("pattern", 1)]) rfl sc_are_patterns.nd (piAny (pv 0)) (blkOk_by (own := [("pattern", 1)]) (N := ["thing", "pattern"]) (sc := defScope s_are_patterns) (by first | decide +kernel | kernel_rfl)) (fun _ _ _ _ _ => pg_name (i := 1) sc_are_patterns.nd rfl (Or.inl rfl)) (fun _ _ _ _ _ => pts_nil) (fun _ _ _ _ _ => pe_cG c_is_pattern hr hG (by decide) rfl (pa_cons (pv 1) pa_nil)))) pa_nil)))))), ?_⟩
    refine ⟨_, rfl, by show 2 ≤ sizeLine; decide, fun t2 n2 => ?_⟩
    generalize hq2 : upd H t2 _ = H2
    obtain ⟨e2, h2⟩ := gen1 hq2 n2
    refine ⟨v, t2, _, _, _, _, rfl, h2, .cons (.ty _) (.cons (.ty _) .nil), (Da.ex e2 _ hv).ty, kit_lt d, _, rfl, ?_⟩
    by_cases hl : isLstD d = true
    · obtain ⟨ds, rfl⟩ : ∃ ds, d = .list ds := by cases d <;> first | exact ⟨_, rfl⟩ | cases hl
      obtain ⟨p, xs, rfl, hp, hA⟩ := hv.lst_inv
      have hll := hA.len
      have h5 := (hok _ (.inl rfl)).1
      refine iteT (.inl ⟨.ref p, rfl, p, rfl, ⟨_, sq_of (e2 _ _ hp)⟩, ?_⟩)
      refine lcG (walk_list (xs := xs)) (by omega) (sq_of (e2 _ _ hp)) (fun _ _ e h => ex_l e h) yAt_ex (fun i ys _ => ys = ((ds.take i).map patD).map V.bl) (fun _ _ _ _ _ h => h) rfl ?_ ?_
      · rintro i u H3 H4 ys hi e ⟨rfl, hx⟩ rfl N N0 kN kN0
        obtain ⟨g, hg, hat⟩ := (DaAll.ex (e2.trans e) _ hA).at hx
        refine ⟨rfl, ?_⟩
        refine ⟨_, rfl, u, g, rfl, hat, ((hok _ (.inl rfl)).2 _ (List.mem_of_getElem? hg)).mono (by decide) (by decide), fun H5 e5 => kN _ _ e5 ?_⟩
        rw [tk hg, List.map_append, List.map_append]
        rfl
      · rintro l H3 ys hl3 e3 h3' _ rfl
        refine ⟨l, _, rfl, sq_of h3', ?_⟩
        have e : (((ds.take xs.length).map patD).all id) = partsD patD (.list ds) := by
          rw [hll, List.take_length, List.all_map]
          rfl
        rw [e]
        exact q _ (e2.trans e3)
    · by_cases ht : isTupD d = true
      · obtain ⟨ds, rfl⟩ : ∃ ds, d = .tuple ds := by cases d <;> first | exact ⟨_, rfl⟩ | cases ht
        obtain ⟨p, xs, rfl, hp, hA⟩ := hv.tup_inv
        have hll := hA.len
        have h5 := (hok _ (.inr rfl)).1
        refine iteT (.inr (.inl ⟨.ref p, rfl, p, rfl, ⟨_, st_of (e2 _ _ hp)⟩, ?_⟩))
        refine lcG (walk_tup (xs := xs)) (by omega) (st_of (e2 _ _ hp)) (fun _ _ e h => ex_t e h) yAt_ex (fun i ys _ => ys = ((ds.take i).map patD).map V.bl) (fun _ _ _ _ _ h => h) rfl ?_ ?_
        · rintro i u H3 H4 ys hi e ⟨rfl, hx⟩ rfl N N0 kN kN0
          obtain ⟨g, hg, hat⟩ := (DaAll.ex (e2.trans e) _ hA).at hx
          refine ⟨rfl, ?_⟩
          refine ⟨_, rfl, u, g, rfl, hat, ((hok _ (.inr rfl)).2 _ (List.mem_of_getElem? hg)).mono (by decide) (by decide), fun H5 e5 => kN _ _ e5 ?_⟩
          rw [tk hg, List.map_append, List.map_append]
          rfl
        · rintro l H3 ys hl3 e3 h3' _ rfl
          refine ⟨l, _, rfl, sq_of h3', ?_⟩
          have e : (((ds.take xs.length).map patD).all id) = partsD patD (.tuple ds) := by
            rw [hll, List.take_length, List.all_map]
            rfl
          rw [e]
          exact q _ (e2.trans e3)
      · have hl : isLstD d = false := by simpa using hl
        have ht : isTupD d = false := by simpa using ht
        rw [hl, ht]
        refine iteF ?_
        have e : partsD patD d = false := by cases d <;> first | rfl | exact absurd (show true = false from hl) (by decide) | exact absurd (show true = false from ht) (by decide)
        rw [← e]
        exact q _ e2
/-- the keys that are told are the things without repeats: as many only where no two are alike -/
theorem putL_new {L : List DE} {b : Addr} {k : PyData} {z : V} (h : nk k ∉ L.map fun l => nk l.2.1) : putL L b k z = L ++ [(b, k, z)] := by
  unfold putL
  rw [if_neg]
  intro e
  unfold atL at e
  rw [Option.isSome_map, List.find?_isSome] at e
  obtain ⟨l, hl, e2⟩ := e
  exact h (List.mem_map.mpr ⟨l, hl, of_decide_eq_true e2⟩)
theorem putL_old {L : List DE} {b : Addr} {k : PyData} {z : V} (h : nk k ∈ L.map fun l => nk l.2.1) : (putL L b k z).map (fun l => nk l.2.1) = L.map fun l => nk l.2.1 := by
  unfold putL
  rw [if_pos]
  · rw [List.map_map]
    refine List.map_congr_left fun l _ => ?_
    show nk (if nk l.2.1 = nk k then (l.1, l.2.1, z) else l).2.1 = nk l.2.1
    split <;> rfl
  · unfold atL
    rw [Option.isSome_map, List.find?_isSome]
    obtain ⟨l, hl, e2⟩ := List.mem_map.mp h
    exact ⟨l, hl, decide_eq_true e2⟩
/-- after some turns: as many keys as things only where no two are alike -/
def DisK (L : List DE) (ks : List NestedKey) : Prop := (∀ k, k ∈ L.map (fun l => nk l.2.1) ↔ k ∈ ks) ∧ L.length ≤ ks.length ∧ (L.length = ks.length ↔ ks.Nodup)
theorem DisK.nil : DisK [] [] := ⟨fun k => Iff.rfl, Nat.le_refl _, by simp⟩
theorem DisK.put {L : List DE} {ks : List NestedKey} (h : DisK L ks) (b : Addr) (k : PyData) (z : V) : DisK (putL L b k z) (ks ++ [nk k]) := by
  obtain ⟨h1, h2, h3⟩ := h
  have nd : (ks ++ [nk k]).Nodup ↔ ks.Nodup ∧ nk k ∉ ks := by
    rw [List.nodup_append]
    constructor
    · rintro ⟨a, _, c⟩
      exact ⟨a, fun m => c _ m _ (by simp) rfl⟩
    · rintro ⟨a, c⟩
      refine ⟨a, by simp, fun x hx y hy e => ?_⟩
      rw [List.mem_singleton] at hy
      subst hy
      subst e
      exact c hx
  by_cases hm : nk k ∈ L.map fun l => nk l.2.1
  · have e := putL_old (b := b) (z := z) hm
    have el : (putL L b k z).length = L.length := by
      have := congrArg List.length e
      rwa [List.length_map, List.length_map] at this
    refine ⟨fun x => ?_, by rw [el, List.length_append]; omega, ?_⟩
    · rw [e, h1, List.mem_append, List.mem_singleton]
      exact ⟨.inl, fun o => o.elim id fun z => z ▸ (h1 _).mp hm⟩
    · rw [el, List.length_append, nd]
      constructor
      · intro z
        simp only [List.length_cons, List.length_nil] at z
        omega
      · rintro ⟨_, c⟩
        exact absurd ((h1 _).mp hm) c
  · rw [putL_new hm]
    refine ⟨fun x => ?_, by rw [List.length_append, List.length_append]; exact Nat.add_le_add h2 (Nat.le_refl _), ?_⟩
    · rw [List.map_append, List.mem_append, List.mem_append, h1]
      simp
    · rw [List.length_append, List.length_append, nd]
      have hk : nk k ∉ ks := fun m => hm ((h1 _).mpr m)
      constructor
      · intro z
        exact ⟨h3.mp (by simp only [List.length_cons, List.length_nil] at z; omega), hk⟩
      · rintro ⟨a, _⟩
        rw [h3.mpr a]
        rfl
theorem nor_isT {d : PyData} (h : norD d = true) : isT d := by
  cases d with
  | tuple ds =>
    by_cases h2 : ds.length = 2
    · match ds, h2, h with
      | [a, b], _, h =>
        have h : (homeD a && natD b) = true := h
        rw [Bool.and_eq_true] at h
        have ka : kyD a = true ∧ a.depth = 0 := by cases a <;> first | exact ⟨rfl, rfl⟩ | cases h.1
        have kb : kyD b = true ∧ b.depth = 0 := by cases b <;> first | exact ⟨rfl, rfl⟩ | cases h.2
        refine ⟨?_, ?_, _, rfl⟩
        · show (kyD a && (kyD b && true)) = true
          rw [ka.1, kb.1]
          rfl
        · show max a.depth (max b.depth 0) + 1 ≤ 8
          omega
    · rw [norD_len h2] at h
      cases h
  | _ => cases h
theorem ok_are_numbers (T : Txt0 mg) (TI : TxtL K mg rel hom wrd srt) (D : Df K mg "are_numbers_of_rows" s_are_numbers_of_rows) (c_is_number_of_row : CalG P w K mg base 2 "is_number_of_row" (spIs norD)) : CalG P w K mg base 3 "are_numbers_of_rows" (spIs5 nosD) := by
  refine cal_mk D sc_are_numbers_of_rows (fun _ _ _ _ _ _ us hl => match us, hl with | [_], _ => rfl) (fun vs H Q E h => ?_) (fun f cdv A outer s H vs Q E hr hG h => ?_)
  · obtain ⟨v, d, rfl, _⟩ := h
    rfl
  · obtain ⟨v, d, rfl, hv, hok, q⟩ := h
    refine ⟨_, (pss_cons (ps_if (PW.pt (pw_or (pt_not (pt_val (pe_callB call_isiT (by rfl) TI.isinstance (by decide +kernel) (pa_cons (pv 0) (pa_cons (pe_tup (pa_cons (pe_bltn (v := .ty "list") (by rfl) T.list (by decide +kernel) rfl) (pa_cons (pe_bltn (v := .ty "tuple") (by rfl) T.tuple (by decide +kernel) rfl) pa_nil))) pa_nil))))) (pw_or1 (pt_not (pt_val (pe_callB (cr_all rfl) (by rfl) T.all (by decide +kernel) (pa_cons (pe_lcO (pe_lc (own := [("told", 1)]) rfl sc_are_numbers_of_rows.nd (piAny (pv 0)) (blkOk_by (own := [("told", 1)]) (N := ["thing", "told"]) (sc := defScope s_are_numbers_of_rows) (by first | decide +kernel | kernel_rfl)) (fun _ _ _ _ _ => pg_name (i := 1) sc_are_numbers_of_rows.nd rfl (Or.inl rfl)) (fun _ _ _ _ _ => pts_nil) (fun _ _ _ _ _ => pe_cG c_is_number_of_row hr hG (by decide) rfl (pa_cons (pv 1) pa_nil)))) pa_nil))))))) (pss_one (ps_ret pe_bl)) pss_nil)
      (pss_one (ps_ret (pe_cmpR (opEq hr) (pe_callB cr_lenDic (by rfl) T.len PySem.boot_len (pa_cons (pe_dd (own := [("told", 1)]) (hu12 hr) rfl sc_are_numbers_of_rows.nd (piAny (pv 0)) (blkOk_by (own := [("told", 1)]) (N := ["thing", "told"]) (sc := defScope s_are_numbers_of_rows) (by first | decide +kernel | kernel_rfl)) (fun _ _ _ _ _ => pg_name (i := 1) sc_are_numbers_of_rows.nd rfl (Or.inl rfl)) (fun _ _ _ _ _ => pts_nil) (fun _ _ _ _ _ => pv 1) (fun _ _ _ _ _ => pe_bl)) pa_nil)) (pe_callB callLen (by rfl) T.len PySem.boot_len (pa_cons (pv 0) pa_nil)) (nomark _))))), ?_⟩
    refine ⟨_, rfl, by show 2 ≤ sizeLine; decide, fun t2 n2 => ?_⟩
    generalize hq2 : upd H t2 _ = H2
    obtain ⟨e2, h2⟩ := gen1 hq2 n2
    refine ⟨v, t2, _, _, _, _, rfl, h2, .cons (.ty _) (.cons (.ty _) .nil), (Da.ex e2 _ hv).ty, kit_lt d, _, rfl, ?_⟩
    by_cases hl : isLstD d = true
    · obtain ⟨ds, rfl⟩ : ∃ ds, d = .list ds := by cases d <;> first | exact ⟨_, rfl⟩ | cases hl
      obtain ⟨p, xs, rfl, hp, hA⟩ := hv.lst_inv
      have hll := hA.len
      have h5 := (hok _ (.inl rfl)).1
      rw [show nosD (.list ds) = (ds.all norD && dis ds) from rfl] at q
      refine iteF (.inl ⟨.ref p, rfl, p, rfl, ⟨_, sq_of (e2 _ _ hp)⟩, ?_⟩)
      refine lcG (walk_list (xs := xs)) (by omega) (sq_of (e2 _ _ hp)) (fun _ _ e h => ex_l e h) yAt_ex (fun i ys _ => ys = ((ds.take i).map norD).map V.bl) (fun _ _ _ _ _ h => h) rfl ?_ ?_
      · rintro i u H3 H4 ys hi e ⟨rfl, hx⟩ rfl N N0 kN kN0
        obtain ⟨g, hg, hat⟩ := (DaAll.ex (e2.trans e) _ hA).at hx
        refine ⟨rfl, ?_⟩
        refine ⟨_, rfl, u, g, rfl, hat, ((hok _ (.inl rfl)).2 _ (List.mem_of_getElem? hg)).mono (by decide) (by decide), fun H5 e5 => kN _ _ e5 ?_⟩
        rw [tk hg, List.map_append, List.map_append]
        rfl
      · rintro l H3 ys hl3 e3 h3' _ rfl
        refine ⟨l, _, rfl, sq_of h3', ?_⟩
        have e : (((ds.take xs.length).map norD).all id) = ds.all norD := by
          rw [hll, List.take_length, List.all_map]
          rfl
        rw [e]
        have e23 := e2.trans e3
        refine ⟨_, rfl, ?_⟩
        cases ha : ds.all norD with
        | false =>
          rw [ha] at q
          exact iteT (q _ e23)
        | true =>
          rw [ha, Bool.true_and] at q
          have hT : ∀ g ∈ ds, isT g := fun g hg => nor_isT (List.all_eq_true.mp ha g hg)
          refine iteF (.inl ⟨.ref p, rfl, p, rfl, ⟨_, sq_of (e23 _ _ hp)⟩, ?_⟩)
          have hA3 := DaAll.ex e23 _ hA
          refine ddG (walk_list (xs := xs)) (by omega) (sq_of (e23 _ _ hp)) (fun _ _ e h => ex_l e h) yAt_ex (fun i L => i ≤ ds.length ∧ DisK L ((ds.take i).map nk)) ⟨Nat.zero_le _, DisK.nil⟩ ?_ ?_
          · rintro i x H4 H5 L hi e4 ⟨rfl, hx⟩ ⟨_, hD⟩ N N0 kN kN0
            obtain ⟨g, hg, hat⟩ := hA3.at hx
            obtain ⟨r, rfl⟩ := (hT g (List.mem_of_getElem? hg)).2.2
            obtain ⟨b, _, rfl, _, _⟩ := hat.tup_inv
            refine ⟨rfl, ?_⟩
            refine ⟨_, rfl, ?_⟩
            refine kN b _ _ _ (Ex.refl _) hat (hT _ (List.mem_of_getElem? hg)) ⟨by omega, ?_⟩
            rw [tk hg, List.map_append]
            exact hD.put _ _ _
          · rintro D H4 L hD e4 h4 hk _ ⟨_, hd⟩
            refine ⟨D, L, rfl, h4, hk.ex e4, ?_⟩
            have h44 := e4 _ _ (e23 _ _ hp)
            refine ⟨_, rfl, .inl ⟨p, _, rfl, .inl (sq_of h44), .inl ⟨rfl, ?_⟩⟩⟩
            have e : decide (V.int (L.length : Int) = V.int (xs.length : Int)) = dis ds := by
              rw [int_eq]
              unfold dis
              rw [List.take_of_length_le (by omega)] at hd
              have z := hd.2.2
              rw [List.length_map, ← hll] at z
              exact decide_eq_decide.mpr z
            rw [e]
            exact q _ (e23.trans e4)
    · by_cases ht : isTupD d = true
      · obtain ⟨ds, rfl⟩ : ∃ ds, d = .tuple ds := by cases d <;> first | exact ⟨_, rfl⟩ | cases ht
        obtain ⟨p, xs, rfl, hp, hA⟩ := hv.tup_inv
        have hll := hA.len
        have h5 := (hok _ (.inr rfl)).1
        rw [show nosD (.tuple ds) = (ds.all norD && dis ds) from rfl] at q
        refine iteF (.inr (.inl ⟨.ref p, rfl, p, rfl, ⟨_, st_of (e2 _ _ hp)⟩, ?_⟩))
        refine lcG (walk_tup (xs := xs)) (by omega) (st_of (e2 _ _ hp)) (fun _ _ e h => ex_t e h) yAt_ex (fun i ys _ => ys = ((ds.take i).map norD).map V.bl) (fun _ _ _ _ _ h => h) rfl ?_ ?_
        · rintro i u H3 H4 ys hi e ⟨rfl, hx⟩ rfl N N0 kN kN0
          obtain ⟨g, hg, hat⟩ := (DaAll.ex (e2.trans e) _ hA).at hx
          refine ⟨rfl, ?_⟩
          refine ⟨_, rfl, u, g, rfl, hat, ((hok _ (.inr rfl)).2 _ (List.mem_of_getElem? hg)).mono (by decide) (by decide), fun H5 e5 => kN _ _ e5 ?_⟩
          rw [tk hg, List.map_append, List.map_append]
          rfl
        · rintro l H3 ys hl3 e3 h3' _ rfl
          refine ⟨l, _, rfl, sq_of h3', ?_⟩
          have e : (((ds.take xs.length).map norD).all id) = ds.all norD := by
            rw [hll, List.take_length, List.all_map]
            rfl
          rw [e]
          have e23 := e2.trans e3
          refine ⟨_, rfl, ?_⟩
          cases ha : ds.all norD with
          | false =>
            rw [ha] at q
            exact iteT (q _ e23)
          | true =>
            rw [ha, Bool.true_and] at q
            have hT : ∀ g ∈ ds, isT g := fun g hg => nor_isT (List.all_eq_true.mp ha g hg)
            refine iteF (.inr (.inl ⟨.ref p, rfl, p, rfl, ⟨_, st_of (e23 _ _ hp)⟩, ?_⟩))
            have hA3 := DaAll.ex e23 _ hA
            refine ddG (walk_tup (xs := xs)) (by omega) (st_of (e23 _ _ hp)) (fun _ _ e h => ex_t e h) yAt_ex (fun i L => i ≤ ds.length ∧ DisK L ((ds.take i).map nk)) ⟨Nat.zero_le _, DisK.nil⟩ ?_ ?_
            · rintro i x H4 H5 L hi e4 ⟨rfl, hx⟩ ⟨_, hD⟩ N N0 kN kN0
              obtain ⟨g, hg, hat⟩ := hA3.at hx
              obtain ⟨r, rfl⟩ := (hT g (List.mem_of_getElem? hg)).2.2
              obtain ⟨b, _, rfl, _, _⟩ := hat.tup_inv
              refine ⟨rfl, ?_⟩
              refine ⟨_, rfl, ?_⟩
              refine kN b _ _ _ (Ex.refl _) hat (hT _ (List.mem_of_getElem? hg)) ⟨by omega, ?_⟩
              rw [tk hg, List.map_append]
              exact hD.put _ _ _
            · rintro D H4 L hD e4 h4 hk _ ⟨_, hd⟩
              refine ⟨D, L, rfl, h4, hk.ex e4, ?_⟩
              have h44 := e4 _ _ (e23 _ _ hp)
              refine ⟨_, rfl, .inl ⟨p, _, rfl, .inr (st_of h44), .inl ⟨rfl, ?_⟩⟩⟩
              have e : decide (V.int (L.length : Int) = V.int (xs.length : Int)) = dis ds := by
                rw [int_eq]
                unfold dis
                rw [List.take_of_length_le (by omega)] at hd
                have z := hd.2.2
                rw [List.length_map, ← hll] at z
                exact decide_eq_decide.mpr z
              rw [e]
              exact q _ (e23.trans e4)
      · have hl : isLstD d = false := by simpa using hl
        have ht : isTupD d = false := by simpa using ht
        rw [hl, ht]
        refine iteT ?_
        have e : nosD d = false := by cases d <;> first | rfl | exact absurd (show true = false from hl) (by decide) | exact absurd (show true = false from ht) (by decide)
        rw [← e]
        exact q _ e2
end
end Own

namespace Own
open PySem PySem.Spec PyProof.Rows L2 Evl
open PySem.SeqAt
open AutoSeq1 (wpAny_loadPart')
open MeetsSeq MeetsSeq2 MeetsSeq3 SeqRoads2
/-! ### tuples as keys whose places differ in kind only behind the first place that differs -/
mutual
def Cmp : PyData → PyData → Prop
  | .int _, .int _ => True
  | .str _, .str _ => True
  | .tuple xs, .tuple ys => CmpL xs ys
  | _, _ => False
def CmpL : List PyData → List PyData → Prop
  | x :: xs, y :: ys => Cmp x y ∧ (PyData.eqv x y = true → CmpL xs ys)
  | [], _ => True
  | _ :: _, [] => True
end
section
theorem tup_ltF (l c : Addr) (xa ya : Array Value) (n k : Nat) (d1 d2 : Option Addr) (s1 s2 : Array (Option Value)) (e r : Nat → Bool) :
    Meets (Builtin.«tuple.__lt__» ⟨[.ref l, .ref c], []⟩)
      (fun A R s => s.heap.get? l = some { cls := .type "tuple", dict := d1, data := .seq xa n, slots := s1 } ∧ s.heap.get? c = some { cls := .type "tuple", dict := d2, data := .seq ya k, slots := s2 } ∧
        (∀ j (h1 : j < xa.size) (h2 : j < ya.size), EqAt A.in1 s xa[j] ya[j] (e j)) ∧ (∀ j (h1 : j < xa.size) (h2 : j < ya.size), (∀ i, i < j → e i = true) → e j = false → RcLt A.in1 s xa[j] ya[j] (r j)) ∧
        R (.ok (.ret (.bool (firstLt e r (decide (xa.size < ya.size)) (List.range (min xa.size ya.size)))))) s) :=
  .of_wp fun pg wd A R s hyp => by
    obtain ⟨hp, g, d, tk, os⟩ := s; obtain ⟨gl, gc, heq, hlt, hR0⟩ := hyp
    have tt2 := AutoSeq1.sub_tuple_tuple
    have zl : (xa.toList.zip ya.toList).length = min xa.size ya.size := by simp
    wp_walk using wpAny_loadPart' gl, wpAny_loadPart' gc, wpAny_forIn_list _ (fun rs b s' => b.1 = none ∧ s' = ⟨hp, g, d, tk, os⟩ ∧ ∃ i, rs = (xa.toList.zip ya.toList).drop i ∧ (∀ j, j < i → e j = true) ∧
      R (.ok (.ret (.bool (firstLt e r (decide (xa.size < ya.size)) ((List.range (min xa.size ya.size)).drop i))))) ⟨hp, g, d, tk, os⟩) _
    case turn =>
      rintro ⟨u, v⟩ rs b s' ⟨hb', rfl, i, hz, hbe, hR⟩
      have il : i < (xa.toList.zip ya.toList).length := by
        rcases Nat.lt_or_ge i (xa.toList.zip ya.toList).length with q | q
        · exact q
        · rw [List.drop_of_length_le q] at hz; cases hz
      have im : i < min xa.size ya.size := zl ▸ il
      have i1 : i < xa.size := Nat.lt_of_lt_of_le im (Nat.min_le_left _ _)
      have i2 : i < ya.size := Nat.lt_of_lt_of_le im (Nat.min_le_right _ _)
      rw [List.drop_eq_getElem_cons il] at hz
      injection hz with huv hrs
      have eu : u = xa[i] := by have := congrArg Prod.fst huv; simpa using this
      have ev : v = ya[i] := by have := congrArg Prod.snd huv; simpa using this
      subst eu ev
      have dr : (List.range (min xa.size ya.size)).drop i = i :: (List.range (min xa.size ya.size)).drop (i + 1) := by simp [List.drop_eq_getElem_cons, im]
      rw [dr] at hR
      refine wpAny_bind (heq i i1 i2 pg wd _ _ ?_)
      cases ei : e i with
      | true =>
        rw [firstLt_yes ei] at hR
        wp_walk
        refine ⟨rfl, rfl, i + 1, hrs, fun j hj => ?_, hR⟩
        by_cases q : j < i
        · exact hbe j q
        · rw [show j = i by omega]; exact ei
      | false =>
        rw [firstLt_no ei] at hR
        have hl := hlt i i1 i2 hbe ei pg wd
        generalize richCompare CmpOp.Lt xa[i] ya[i] = mm at hl ⊢
        wp_walk
        refine hl _ _ ?_
        wp_walk
        exact ⟨_, rfl, hR⟩
    case fin =>
      rintro ⟨b1, b2⟩ s' ⟨hb', rfl, i, hz, _, hR⟩
      simp only at hb'
      subst hb'
      have ge : min xa.size ya.size ≤ i := by
        rcases Nat.lt_or_ge i (xa.toList.zip ya.toList).length with q | q
        · rw [List.drop_eq_getElem_cons q] at hz; cases hz
        · exact zl ▸ q
      rw [List.drop_of_length_le (by simpa using ge)] at hR
      wp_walk
      exact ⟨_, rfl, by simpa [Builtin.Tuple.tupleCompareSizes, firstLt] using hR⟩
    case h =>
      exact ⟨rfl, rfl, 0, rfl, (fun j hj => absurd hj (Nat.not_lt_zero _)), by simpa using hR0⟩
theorem rcLt_tupF {A : Around} {s : Shared} {l c : Addr} {xa ya : Array Value} {e r : Nat → Bool} (hl : s.heap.IsTuple l xa) (hc : s.heap.IsTuple c ya) (hu : A.units < cLine)
    (he : ∀ j (h1 : j < xa.size) (h2 : j < ya.size), EqAt A.in1 s xa[j] ya[j] (e j)) (hr : ∀ j (h1 : j < xa.size) (h2 : j < ya.size), (∀ i, i < j → e i = true) → e j = false → RcLt A.in1 s xa[j] ya[j] (r j)) :
    RcLt A s (.ref l) (.ref c) (firstLt e r (decide (xa.size < ya.size)) (List.range (min xa.size ya.size))) := fun pg wd E Q q => by
  obtain ⟨⟨c1, dd1, dt1, sl1⟩, ho1, hc1, n1, hd1⟩ := id hl
  obtain ⟨⟨c2, dd2, dt2, sl2⟩, ho2, hc2, n2, hd2⟩ := id hc
  simp only at hc1 hd1 hc2 hd2
  subst hc1 hd1 hc2 hd2
  exact richCompare_meets_room (op := .Lt) ⟨_, ho1, rfl⟩ ⟨_, ho2, rfl⟩ F.slot_tuple_lt F.entry_tuple_lt (F.args_tuple_lt_2 _ _) (tup_ltF l c xa ya n1 n2 dd1 dd2 sl1 sl2 e r)
    ⟨ho1, ho2, he, hr, (show Value.bool (firstLt e r (decide (xa.size < ya.size)) (List.range (min xa.size ya.size))) ≠ Value.notImplemented ∧ Q (.bool (firstLt e r (decide (xa.size < ya.size)) (List.range (min xa.size ya.size)))) s from ⟨(fun x => nomatch x), q⟩)⟩ hu
end
theorem cmp_alike {x y : PyData} (h : Cmp x y) (n : ∀ xs, x ≠ .tuple xs) : PySem.W.alike x y = true := by
  cases x with
  | int i => cases y <;> first | exact rfl | (simp only [Cmp] at h)
  | str z => cases y <;> first | exact rfl | (simp only [Cmp] at h)
  | tuple xs => exact absurd rfl (n xs)
  | none => cases y <;> simp only [Cmp] at h
  | bool b => cases y <;> simp only [Cmp] at h
  | list xs => cases y <;> simp only [Cmp] at h
  | dict ks => cases y <;> simp only [Cmp] at h
theorem cmp_tup {xs : List PyData} {y : PyData} (h : Cmp (.tuple xs) y) : ∃ ys, y = .tuple ys ∧ CmpL xs ys := by
  cases y with
  | tuple ys => exact ⟨ys, rfl, by simpa only [Cmp] using h⟩
  | int i => simp only [Cmp] at h
  | str z => simp only [Cmp] at h
  | none => simp only [Cmp] at h
  | bool b => simp only [Cmp] at h
  | list xs => simp only [Cmp] at h
  | dict ks => simp only [Cmp] at h
theorem cmpL_cons {x y : PyData} {xs ys : List PyData} (h : CmpL (x :: xs) (y :: ys)) : Cmp x y ∧ (PyData.eqv x y = true → CmpL xs ys) := by simpa only [CmpL] using h
theorem lexA {p q : Int ⊕ List Nat} (hne : p ≠ q) (l m l' m' : List (Int ⊕ List Nat)) : lexLt itemOrd (p :: l) (q :: m) = lexLt itemOrd (p :: l') (q :: m') := (lex_diff (O := itemOrd) hne).trans (lex_diff (O := itemOrd) hne).symm
theorem lexS (p : Int ⊕ List Nat) (l m : List (Int ⊕ List Nat)) : lexLt itemOrd (p :: l) (p :: m) = lexLt itemOrd l m := lex_self (O := itemOrd) p l m
mutual
theorem cmp_toks : ∀ (x y : PyData), Cmp x y → (PyData.eqv x y = true → PySem.W.keyToks x = PySem.W.keyToks y) ∧ (PyData.eqv x y = false → ∀ l m, lexLt itemOrd (PySem.W.keyToks x ++ l) (PySem.W.keyToks y ++ m) = PySem.W.dataLt x y)
  | .int i, y, h => PySem.W.toks_eqv _ _ (cmp_alike h fun _ e => nomatch e)
  | .str z, y, h => PySem.W.toks_eqv _ _ (cmp_alike h fun _ e => nomatch e)
  | .none, y, h => PySem.W.toks_eqv _ _ (cmp_alike h fun _ e => nomatch e)
  | .bool b, y, h => PySem.W.toks_eqv _ _ (cmp_alike h fun _ e => nomatch e)
  | .list xs, y, h => PySem.W.toks_eqv _ _ (cmp_alike h fun _ e => nomatch e)
  | .dict ks, y, h => PySem.W.toks_eqv _ _ (cmp_alike h fun _ e => nomatch e)
  | .tuple xs, y, h => by
    obtain ⟨ys, rfl, hL⟩ := cmp_tup h
    have t := cmpL_toks xs ys hL
    rw [PySem.W.dataLt_tuple]
    simp only [PySem.W.keyToks, PyData.eqv]
    exact t
theorem cmpL_toks : ∀ (xs ys : List PyData), CmpL xs ys → (PyData.eqvAll xs ys = true → PySem.W.keyToksAll xs = PySem.W.keyToksAll ys) ∧ (PyData.eqvAll xs ys = false → ∀ l m, lexLt itemOrd (PySem.W.keyToksAll xs ++ l) (PySem.W.keyToksAll ys ++ m) = lexLt itemOrd (PySem.W.keyToksAll xs) (PySem.W.keyToksAll ys))
  | [], [], _ => ⟨fun _ => rfl, fun e => by simp [PyData.eqvAll] at e⟩
  | [], y :: ys, _ => ⟨fun e => by simp [PyData.eqvAll] at e, fun _ l m => by
      simp only [PySem.W.keyToksAll, List.cons_append, List.nil_append]
      exact lexA (by simp) _ _ _ _⟩
  | x :: xs, [], _ => ⟨fun e => by simp [PyData.eqvAll] at e, fun _ l m => by
      simp only [PySem.W.keyToksAll, List.cons_append, List.nil_append]
      exact lexA (by simp) _ _ _ _⟩
  | x :: xs, y :: ys, h => by
    obtain ⟨h1, h2⟩ := cmpL_cons h
    obtain ⟨a1, a2⟩ := cmp_toks x y h1
    rw [PySem.W.eqv_all_cons, PySem.W.toks_all_cons, PySem.W.toks_all_cons]
    cases hx : PyData.eqv x y with
    | true =>
      obtain ⟨b1, b2⟩ := cmpL_toks xs ys (h2 hx)
      rw [a1 hx, Bool.true_and]
      refine ⟨fun e => by rw [b1 e], fun e l m => ?_⟩
      simp only [List.cons_append, List.append_assoc]
      rw [lexS, lexS, PySem.W.lex_pre, PySem.W.lex_pre, b2 e]
    | false =>
      rw [Bool.false_and]
      refine ⟨fun e => absurd e Bool.false_ne_true, fun _ l m => ?_⟩
      simp only [List.cons_append, List.append_assoc]
      rw [lexS, lexS, a2 hx, a2 hx]
end
theorem cmp_yes {x y : PyData} {xs ys : List PyData} (h : Cmp x y) (e : PyData.eqv x y = true) : lexLt itemOrd (PySem.W.keyToksAll (x :: xs)) (PySem.W.keyToksAll (y :: ys)) = lexLt itemOrd (PySem.W.keyToksAll xs) (PySem.W.keyToksAll ys) := by
  rw [PySem.W.toks_all_cons, PySem.W.toks_all_cons, (cmp_toks x y h).1 e, lexS, PySem.W.lex_pre]
theorem cmp_no {x y : PyData} {xs ys : List PyData} (h : Cmp x y) (e : PyData.eqv x y = false) : lexLt itemOrd (PySem.W.keyToksAll (x :: xs)) (PySem.W.keyToksAll (y :: ys)) = PySem.W.dataLt x y := by
  rw [PySem.W.toks_all_cons, PySem.W.toks_all_cons, lexS, (cmp_toks x y h).2 e]
/-- the first place that differs -/
theorem firstLt_cmp : ∀ (xs ys : List PyData), CmpL xs ys →
    firstLt (pairEq xs ys) (fun j => PySem.W.dataLt (xs.getD j .none) (ys.getD j .none)) (decide (xs.length < ys.length)) (List.range (min xs.length ys.length)) = lexLt itemOrd (PySem.W.keyToksAll xs) (PySem.W.keyToksAll ys)
  | [], [], _ => PySem.W.firstLt_toks [] [] rfl
  | [], y :: ys, _ => PySem.W.firstLt_toks [] (y :: ys) rfl
  | x :: xs, [], _ => PySem.W.firstLt_toks (x :: xs) [] rfl
  | x :: xs, y :: ys, h => by
    obtain ⟨h1, h2⟩ := cmpL_cons h
    have lm : min (x :: xs).length (y :: ys).length = min xs.length ys.length + 1 := by
      rw [List.length_cons, List.length_cons]
      omega
    have ld : decide ((x :: xs).length < (y :: ys).length) = decide (xs.length < ys.length) := by
      rw [List.length_cons, List.length_cons]
      exact decide_eq_decide.mpr (by omega)
    rw [lm, ld, List.range_succ_eq_map]
    cases hx : PyData.eqv x y with
    | true =>
      rw [firstLt_yes (show pairEq (x :: xs) (y :: ys) 0 = true from hx), PySem.W.firstLt_map, cmp_yes h1 hx, ← firstLt_cmp xs ys (h2 hx)]
      rfl
    | false =>
      rw [firstLt_no (show pairEq (x :: xs) (y :: ys) 0 = false from hx), cmp_no h1 hx]
      rfl
mutual
theorem rcLt_cmp : ∀ (x y : PyData) (A : Around) (s : Shared) (u v : Value) (as bs : List Addr), Reads s.heap u x as → Reads s.heap v y bs → Cmp x y → x.canLay0 = true → y.canLay0 = true → A.units + min x.depth y.depth < cLine → RcLt A s u v (PySem.W.dataLt x y)
  | .int i, y, A, s, u, v, as, bs, ru, rv, h, _, _, hu => PySem.W.rcLt_alike _ _ A s u v as bs ru rv (cmp_alike h fun _ e => nomatch e) (fun e => nomatch e) hu
  | .str z, y, A, s, u, v, as, bs, ru, rv, h, _, _, hu => PySem.W.rcLt_alike _ _ A s u v as bs ru rv (cmp_alike h fun _ e => nomatch e) (fun e => nomatch e) hu
  | .none, y, A, s, u, v, as, bs, ru, rv, h, _, _, hu => by cases y <;> simp only [Cmp] at h
  | .bool b, y, A, s, u, v, as, bs, ru, rv, h, _, _, hu => by cases y <;> simp only [Cmp] at h
  | .list xs, y, A, s, u, v, as, bs, ru, rv, h, _, _, hu => by cases y <;> simp only [Cmp] at h
  | .dict ks, y, A, s, u, v, as, bs, ru, rv, h, _, _, hu => by cases y <;> simp only [Cmp] at h
  | .tuple xs, y, A, s, u, v, as, bs, ru, rv, h, k, k', hu => by
    obtain ⟨ys, rfl, hL⟩ := cmp_tup h
    have k : PyData.canLayAll0 xs = true := k
    have k' : PyData.canLayAll0 ys = true := k'
    cases ru with
    | @tuple l o ws n _ as₁ a1 a2 a3 a4 =>
      cases rv with
      | @tuple l' o' ws' n' _ bs₁ b1 b2 b3 b4 =>
        have z1 : ws.size = xs.length := by simpa using ReadsAll.length _ _ _ a4
        have z2 : ws'.size = ys.length := by simpa using ReadsAll.length _ _ _ b4
        rw [PySem.W.dataLt_tuple, ← firstLt_cmp xs ys hL, ← z1, ← z2]
        refine rcLt_tupF ⟨_, a1, a2, _, a3⟩ ⟨_, b1, b2, _, b3⟩ (room_here hu) (fun j j1 j2 => ?_) fun j j1 j2 hb hj => ?_
        · have := eqAt_readsAll xs ys A.in1 s ws.toList ws'.toList _ _ a4 b4 k k' (room_in hu) j (by simpa using j1) (by simpa using j2)
          simpa using this
        · have := rcLt_cmpL xs ys A.in1 s ws.toList ws'.toList _ _ a4 b4 hL k k' (room_in hu) j (by simpa using j1) (by simpa using j2) hb
          simpa using this
theorem rcLt_cmpL : ∀ (xs ys : List PyData) (A : Around) (s : Shared) (us vs : List Value) (as bs : List Addr), ReadsAll s.heap us xs as → ReadsAll s.heap vs ys bs → CmpL xs ys → PyData.canLayAll0 xs = true → PyData.canLayAll0 ys = true →
    A.units + min (PyData.depthAll xs) (PyData.depthAll ys) < cLine → ∀ j (h1 : j < us.length) (h2 : j < vs.length), (∀ i, i < j → pairEq xs ys i = true) → RcLt A s us[j] vs[j] (PySem.W.dataLt (xs.getD j .none) (ys.getD j .none))
  | [], _, _, _, _, _, _, _, ra, _, _, _, _, _, j, h1, _, _ => by cases ra; exact absurd h1 (Nat.not_lt_zero _)
  | _ :: _, [], _, _, _, _, _, _, _, rb, _, _, _, _, j, _, h2, _ => by cases rb; exact absurd h2 (Nat.not_lt_zero _)
  | x :: xs, y :: ys, A, s, _, _, _, _, ra, rb, h, k, k', hu, j, h1, h2, hb => by
    obtain ⟨c1, c2⟩ := cmpL_cons h
    have k : (x.canLay0 && PyData.canLayAll0 xs) = true := k
    have k' : (y.canLay0 && PyData.canLayAll0 ys) = true := k'
    rw [Bool.and_eq_true] at k k'
    cases ra with
    | cons r rs =>
      cases rb with
      | cons r' rs' =>
        cases j with
        | zero => exact rcLt_cmp x y A s _ _ _ _ r r' c1 k.1 k'.1 (room_head hu)
        | succ j => exact rcLt_cmpL xs ys A s _ _ _ _ rs rs' (c2 (hb 0 (Nat.succ_pos j))) k.2 k'.2 (room_tail hu) j (Nat.lt_of_succ_lt_succ h1) (Nat.lt_of_succ_lt_succ h2) fun i hi => hb (i + 1) (Nat.succ_lt_succ hi)
end
theorem katLex_cmp {P : Program} {w : World} {A : Around} {s : Shared} {b fin : Bool} {Q : Bool → Shared → Prop} : ∀ (xs ys : List PyData) (i : Nat) (us vs : List Value) (as bs : List Addr), ReadsAll s.heap us xs as → ReadsAll s.heap vs ys bs → CmpL xs ys →
    PyData.canLayAll0 xs = true → PyData.canLayAll0 ys = true → A.units + min (PyData.depthAll xs) (PyData.depthAll ys) < cLine → 1 ≤ i → fin = decide (xs.length < ys.length) → Q (lexLt itemOrd (PySem.W.keyToksAll xs) (PySem.W.keyToksAll ys)) s → PySem.W.KatLex P w A b fin Q (us.zip vs) i s
  | [], ys, i, us, vs, as, bs, ra, rb, _, _, _, hu, _, hf, hq => PySem.W.katLex_alike [] ys i us vs as bs ra rb rfl hu (fun _ _ _ _ _ e => by cases e) hf hq
  | x :: xs, [], i, us, vs, as, bs, ra, rb, _, _, _, hu, hi, hf, hq => PySem.W.katLex_alike (x :: xs) [] i us vs as bs ra rb rfl hu (fun _ hi' => by omega) hf hq
  | x :: xs, y :: ys, i, _, _, _, _, ra, rb, h, k, k', hu, hi, hf, hq => by
    obtain ⟨h1, h2⟩ := cmpL_cons h
    have k : (x.canLay0 && PyData.canLayAll0 xs) = true := k
    have k' : (y.canLay0 && PyData.canLayAll0 ys) = true := k'
    rw [Bool.and_eq_true] at k k'
    have hf' : fin = decide (xs.length < ys.length) := by
      rw [hf]
      exact decide_eq_decide.mpr (by rw [List.length_cons, List.length_cons]; omega)
    cases ra with
    | cons r rs =>
      cases rb with
      | cons r' rs' =>
        rw [List.zip_cons_cons]
        refine PySem.W.kat_cons (eqAt_reads x y A s _ _ _ _ r r' k.1 k'.1 (room_head hu) P w _ _ ?_)
        cases hx : PyData.eqv x y with
        | true =>
          rw [cmp_yes h1 hx] at hq
          exact PySem.W.kat_yes (katLex_cmp xs ys (i + 1) _ _ _ _ rs rs' (h2 hx) k.2 k'.2 (room_tail hu) (by omega) hf' hq)
        | false =>
          rw [cmp_no h1 hx] at hq
          refine PySem.W.kat_no ?_
          have hb : (b && i == 0) = false := by
            cases b with
            | false => rfl
            | true =>
              show (i == 0) = false
              exact beq_false_of_ne (by omega)
          rw [hb, oneLt'_eq]
          simp only [Bool.false_eq_true, if_false]
          exact wpAny_bind (rcLt_cmp x y A s _ _ _ _ r r' h1 k.1 k'.1 (room_head hu) P w _ _ (wpAny_truthy_bool hq))
/-! ### such tuples, sorted -/
/-- each begins with a text, and any two can be compared -/
structure MixC (ds : List PyData) : Prop where
  ky : ∀ d ∈ ds, kyD d = true
  ly : ∀ d ∈ ds, d.canLay0 = true
  hd : ∀ d ∈ ds, ∃ z r, d = .tuple (.str z :: r)
  al : ∀ d ∈ ds, ∀ d' ∈ ds, Cmp d d'
theorem MixC.sub {ds ds' : List PyData} (m : MixC ds) (h : ∀ d ∈ ds', d ∈ ds) : MixC ds' := ⟨fun d hd => m.ky d (h d hd), fun d hd => m.ly d (h d hd), fun d hd => m.hd d (h d hd), fun d hd d' hd' => m.al d (h d hd) d' (h d' hd')⟩
section
variable {P : Program} {w : World} {A : Around} {s : Shared}
theorem sorts_cmp {vs : List Value} {ds : List PyData} (e : PySem.W.EachIs (fun v d => ∃ as, Reads s.heap v d as) vs ds) (hm : MixC ds) (hu : ∀ d ∈ ds, A.units + d.depth < cLine) : PySem.W.SortsAt P w A s (PySem.W.dataKind s.heap ds) vs := by
  refine ⟨fun v hv => ?_, tuples' true, ?_, fun h2 E Q hq => ?_⟩
  · obtain ⟨d, hd, as, r⟩ := e.left v hv
    exact ⟨_, key_at hm.ky hd r⟩
  · intro E x y a b Q ha hb hq
    obtain ⟨d, as, hd, ra, rfl⟩ := PySem.W.dataKind_inv ha
    obtain ⟨d', as', hd', rb, rfl⟩ := PySem.W.dataKind_inv hb
    have room := hu d hd
    have hc := hm.al d hd d' hd'
    have ly1 := hm.ly d hd
    have ly2 := hm.ly d' hd'
    obtain ⟨z, r, rfl⟩ := hm.hd d hd
    obtain ⟨z', r', rfl⟩ := hm.hd d' hd'
    have hc : CmpL (.str z :: r) (.str z' :: r') := by simpa only [Cmp] using hc
    obtain ⟨_, hc2⟩ := cmpL_cons hc
    have ly1 : ((PyData.str z).canLay0 && PyData.canLayAll0 r) = true := ly1
    have ly2 : ((PyData.str z').canLay0 && PyData.canLayAll0 r') = true := ly2
    rw [Bool.and_eq_true] at ly1 ly2
    have hq2 : Q (PySem.W.dataLt (.tuple (.str z :: r)) (.tuple (.str z' :: r'))) s := hq
    rw [PySem.W.dataLt_tuple] at hq2
    clear hq
    cases ra with
    | @tuple l o xs n _ _ h1 h2 h3 h4 =>
      cases rb with
      | @tuple l' o' xs' n' _ _ k1 k2 k3 k4 =>
        have n1 : xs.size = (PyData.str z :: r).length := by simpa using SeqAt.ReadsAll.length _ _ _ h4
        have n2 : xs'.size = (PyData.str z' :: r').length := by simpa using SeqAt.ReadsAll.length _ _ _ k4
        refine PySem.W.kat_lt h1 h3 k1 k3 ?_
        rw [n1, n2]
        generalize xs.toList = ls at h4
        generalize xs'.toList = ls' at k4
        cases h4 with
        | cons r1 r2 =>
          cases k4 with
          | cons q1 q2 =>
            rw [List.zip_cons_cons]
            have al : PySem.W.alike (.str z) (.str z') = true := by simp [PySem.W.alike]
            have d0 : PyData.depthAll r + 1 ≤ (PyData.tuple (.str z :: r)).depth := by
              show PyData.depthAll r + 1 ≤ max 0 (PyData.depthAll r) + 1
              omega
            refine PySem.W.kat_cons (PySem.W.eqAt_alike _ _ A s _ _ _ _ r1 q1 al (by show A.units + min 0 0 < cLine; omega) P w _ _ ?_)
            cases hx : PyData.eqv (.str z) (.str z') with
            | true =>
              have ez : z = z' := by simpa [PyData.eqv] using hx
              rw [PySem.W.dataLt_all_yes al hx] at hq2
              refine PySem.W.kat_yes (katLex_cmp r r' 1 _ _ _ _ r2 q2 (hc2 hx) ly1.2 ly2.2 (by omega) (Nat.le_refl _) ?_ hq2)
              rw [List.length_cons, List.length_cons]
              exact decide_eq_decide.mpr (by omega)
            | false =>
              rw [PySem.W.dataLt_all_no al hx] at hq2
              exact PySem.W.kat_no (PySem.W.oneLt_alike (fun _ xs ex => by cases ex) r1 q1 al (fun ex => by cases ex) (by show A.units + min 0 0 < cLine; omega) hq2)
  · obtain ⟨fs, t1, t2, t3⟩ := PySem.W.each_katTups e fun d hd => by
      obtain ⟨z, r, rfl⟩ := hm.hd d hd
      exact ⟨_, _, rfl⟩
    refine PySem.W.kat_kind (T := Value.type "str") t1 (by omega) (fun f hf => ?_) (beq_self_eq_true _) ?_
    · obtain ⟨x, r, as, m1, m2⟩ := t3 f hf
      obtain ⟨z, r', ez⟩ := hm.hd _ m1
      cases ez
      cases m2
      exact PySem.W.Looks.of_pure rfl
    · have e1 : (Value.type "str" != Value.type "tuple") = true := by first | rfl | decide
      rw [e1]
      exact hq
/-- sorted(xs) of such tuples -/
theorem sort_cmp {β : Type} {R : Value → β → Prop} {enc : β → PyData} {E : Value → Shared → Prop} {l : Addr} {vs : List Value} {bs : List β} {Q : Value → Shared → Prop} (hl : s.heap.IsList l vs.toArray) (e : PySem.W.EachIs R vs bs) (er : PySem.W.EachIs (fun v b => ∃ as, Reads s.heap v (enc b) as) vs bs) (hm : MixC (bs.map enc))
    (hu : ∀ b ∈ bs, A.units + 2 + (enc b).depth < cLine) (hL : vs.length ≤ sizeLine) (fin : ∀ out : List Value, PySem.W.EachIs R out (bs.mergeSort (PySem.W.dataLe false enc)) → Q (.ref (s.heap.objs.size + 1)) { s with heap := sortedAll s.heap vs out.toArray }) :
    wpAny (model P w) A (call (.builtin "sorted") [.ref l]) Q E s := by
  have er' : PySem.W.EachIs (fun v b => ∃ as, Reads (PySem.W.sortingHeap (PySem.W.copyHeap s.heap vs) (s.heap.objs.size + 1) vs) v (enc b) as) vs bs := er.mono fun _ _ ⟨as, r⟩ => ⟨as, PyProof.Rows.Reads.keeps (fun _ _ => PySem.W.sorting_copy_old) r⟩
  refine PySem.W.sorted_vals hl (sorts_cmp (s := { s with heap := PySem.W.sortingHeap (PySem.W.copyHeap s.heap vs) (s.heap.objs.size + 1) vs }) (each_map' (R := fun v d => ∃ as, Reads (PySem.W.sortingHeap (PySem.W.copyHeap s.heap vs) (s.heap.objs.size + 1) vs) v d as) enc er') hm (fun d hd => ?_)) hL (fin _ ?_)
  · obtain ⟨b, hb, rfl⟩ := List.mem_map.mp hd
    exact hu b hb
  · exact PySem.W.sortVals_each (κ := PySem.W.dataKind (PySem.W.sortingHeap (PySem.W.copyHeap s.heap vs) (s.heap.objs.size + 1) vs) (bs.map enc)) (rev := false) (fun b => PySem.W.keyToks (enc b)) e (keys_mix hm.ky (fun b hb => List.mem_map.mpr ⟨b, hb, rfl⟩) er')
end
/-- an ascending list of such is one -/
theorem cmp_anti {d d' : PyData} (c : Cmp d d') (k : kyD d = true) (k' : kyD d' = true) (l1 : PySem.W.dataLt d d' = false) (l2 : PySem.W.dataLt d' d = false) (inj : PyData.eqv d d' = true → d = d') : d = d' := by
  have e : PySem.W.keyToks d = PySem.W.keyToks d' := (listOrd itemOrd).total _ _ l1 l2
  cases hv : PyData.eqv d d' with
  | true => exact inj hv
  | false =>
    have z1 := (cmp_toks d d' c).2 hv [] [.inl 0]
    have z2 := (cmp_toks d d' c).2 hv [.inl 0] []
    rw [← e] at z1 z2
    rw [PySem.W.lex_pre] at z1 z2
    rw [← z2] at z1
    exact absurd z1 (by simp [PyProof.Rows.lexLt])
mutual
theorem eqv_ky2 : ∀ (d d' : PyData), kyD d = true → kyD d' = true → PyData.eqv d d' = true → d = d'
  | .int i, d', _, h, e => by
    cases d' with
    | int j => simpa [PyData.eqv] using e
    | str _ => simp [PyData.eqv] at e
    | tuple _ => simp [PyData.eqv] at e
    | _ => cases h
  | .str z, d', _, h, e => by
    cases d' with
    | str y => simpa [PyData.eqv] using e
    | int _ => simp [PyData.eqv] at e
    | tuple _ => simp [PyData.eqv] at e
    | _ => cases h
  | .tuple ds, d', k, h, e => by
    cases d' with
    | tuple ds' =>
      rw [kyD] at k h
      rw [eqvs_ky2 ds ds' k h (by simpa [PyData.eqv] using e)]
    | int _ => simp [PyData.eqv] at e
    | str _ => simp [PyData.eqv] at e
    | _ => cases h
  | .none, _, k, _, _ => by cases k
  | .bool _, _, k, _, _ => by cases k
  | .list _, _, k, _, _ => by cases k
  | .dict _, _, k, _, _ => by cases k
theorem eqvs_ky2 : ∀ (ds ds' : List PyData), kyDs ds = true → kyDs ds' = true → PyData.eqvAll ds ds' = true → ds = ds'
  | [], [], _, _, _ => rfl
  | [], _ :: _, _, _, e => by simp [PyData.eqvAll] at e
  | _ :: _, [], _, _, e => by simp [PyData.eqvAll] at e
  | d :: ds, d' :: ds', k, h, e => by
    rw [kyDs_cons, Bool.and_eq_true] at k h
    rw [PySem.W.eqv_all_cons, Bool.and_eq_true] at e
    rw [eqv_ky2 d d' k.1 h.1 e.1, eqvs_ky2 ds ds' k.2 h.2 e.2]
end
theorem mixC_anti {ds : List PyData} (m : MixC ds) {d d' : PyData} (h : d ∈ ds) (h' : d' ∈ ds) (l1 : PySem.W.dataLt d d' = false) (l2 : PySem.W.dataLt d' d = false) : d = d' :=
  cmp_anti (m.al d h d' h') (m.ky d h) (m.ky d' h') l1 l2 (eqv_ky2 d d' (m.ky d h) (m.ky d' h'))
/-- two ascending lists of the same things are one -/
theorem asc_perm {ds : List PyData} (m : MixC ds) : ∀ (xs ys : List PyData), (∀ d ∈ xs, d ∈ ds) → ascD xs → ascD ys → xs.Perm ys → xs = ys
  | [], ys, _, _, _, p => (List.Perm.nil_eq p)
  | x :: xs, [], _, _, _, p => absurd p.length_eq (by simp)
  | x :: xs, y :: ys, s, ax, ay, p => by
    obtain ⟨ax1, ax2⟩ := List.pairwise_cons.mp ax
    obtain ⟨ay1, ay2⟩ := List.pairwise_cons.mp ay
    have my : y ∈ x :: xs := p.mem_iff.mpr List.mem_cons_self
    have mx : x ∈ y :: ys := p.mem_iff.mp List.mem_cons_self
    have e : x = y := by
      rcases List.mem_cons.mp my with e | my'
      · exact e.symm
      · rcases List.mem_cons.mp mx with e | mx'
        · exact e
        · exact mixC_anti m (s x List.mem_cons_self) (s y my) (ay1 x mx') (ax1 y my')
    subst e
    rw [asc_perm m xs ys (fun d hd => s d (List.mem_cons_of_mem _ hd)) ax2 ay2 (List.perm_cons x |>.mp p)]
section
variable {X : Cx} {k : Nat}
/-- sorted(xs), xs a list of such -/
def rSortC (K : PySem.W.Frag) : List V → Hp → VK → Prop := fun vs H Q => ∃ (l : Addr) (zq : List (Addr × PyData)), vs = [.ref l] ∧ SqL K H l (zq.map fun q => V.ref q.1) ∧ (∀ q ∈ zq, Da H (.ref q.1) q.2 ∧ q.2.depth ≤ 150) ∧ MixC (zq.map Prod.snd) ∧ zq.length ≤ 40000 ∧
  ∀ (p : Addr) (L2 : List (Addr × PyData)), L2.Perm zq → ascD (L2.map Prod.snd) → H p = none → Q (.ref p) (upd H p (.lst (L2.map fun q => V.ref q.1)))
theorem cr_sortC (hr : Room k X.A) : CallR X (.builtin "sorted") (rSortC X.K) := by
  have hu : X.A.units + 160 < cLine := by have := hr.un; omega
  intro pk s τ H vs us Q I r h
  obtain ⟨l, zq, rfl, hl, hz, hm, low, q⟩ := h
  rw [Vals.ref1 r]
  obtain ⟨its, rv, pl, _⟩ := I.list hl
  have ei := vals_refs rv
  subst ei
  have each : ∀ l : List (Addr × PyData), (∀ q ∈ l, q ∈ zq) → PySem.W.EachIs (fun v (q : Addr × PyData) => v = Value.ref q.1 ∧ ∃ as, Reads s.heap v q.2 as) (l.map fun q => Value.ref q.1) l := by
    intro l
    induction l with
    | nil => intro _; exact .nil
    | cons q l ih =>
      intro hq
      have m := hq q List.mem_cons_self
      exact .cons ⟨rfl, (da_key I _ _ _ (hm.ky q.2 (List.mem_map.mpr ⟨q, m, rfl⟩)) (hz q m).1 rfl).2⟩ (ih fun y hy => hq y (List.mem_cons_of_mem _ hy))
  have e := each zq fun q hq => hq
  refine sort_cmp (R := fun v (q : Addr × PyData) => v = Value.ref q.1) (enc := Prod.snd) pl.isList (e.mono fun _ _ z => z.1) (e.mono fun _ _ z => z.2) hm (fun q m => by have := (hz q m).2; omega) (by rw [List.length_map, sizeLine_eq]; omega) fun out eo => ?_
  have out_eq : ∀ {us : List Value} {l : List (Addr × PyData)}, PySem.W.EachIs (fun v (q : Addr × PyData) => v = Value.ref q.1) us l → us = l.map fun q => Value.ref q.1 := by
    intro us l z
    induction z with
    | nil => rfl
    | cons h _ ih => rw [List.map_cons, h, ih]
  have eo := out_eq eo
  have pm := List.mergeSort_perm zq (PySem.W.dataLe false Prod.snd)
  obtain ⟨c, hc⟩ := sortedAll_at s.heap (zq.map fun q => Value.ref q.1) out.toArray
  have hlen : ((zq.mergeSort (PySem.W.dataLe false Prod.snd)).map fun q : Addr × PyData => V.ref q.1).length ≤ sizeLine := by rw [List.length_map, pm.length_eq, sizeLine_eq]; omega
  have rv2 : Vals ((zq.mergeSort (PySem.W.dataLe false Prod.snd)).map fun q : Addr × PyData => V.ref q.1) out := by rw [eo]; exact refs_vals _
  exact ⟨.ref _, _, I.laid (a := s.heap.objs.size + 1) (o := .lst ((zq.mergeSort (PySem.W.dataLe false Prod.snd)).map fun q => V.ref q.1)) (t' := s.toks) (fun b u g => sortedAll_old g) (Nat.le_succ _) ⟨hlen, out, c, rv2, hc⟩, rfl, q _ _ pm (ms_asc Prod.snd zq) (I.hok.fresh (Nat.le_succ _))⟩
end
end Own

namespace Own
open PySem PySem.Spec PyProof.Rows L2 Evl
/-! ### == of two dicts with the same keys, whatever data they hold -/
def EqK (K : PySem.W.Frag) (H : Hp) (m : List (Key × V)) : List (Key × V) → List (PyData × PyData) → Prop
  | [], [] => True
  | p :: l, q :: r => (∃ z, valV m p.1 = some z ∧ Dp K H p.2 q.1 ∧ Dp K H z q.2 ∧ SeqAt.shaped q.1 = true ∧ SeqAt.shaped q.2 = true) ∧ EqK K H m l r
  | _, _ => False
def eqPs (r : List (PyData × PyData)) : Bool := r.all fun p => PyData.eqv p.1 p.2
def rEqK (K : PySem.W.Frag) : R2 := fun x y H Q => ∃ (a b : Addr) (l m : List (Key × V)) (r : List (PyData × PyData)), x = .ref a ∧ y = .ref b ∧ H a = some (.dK l) ∧ H b = some (.dK m) ∧ l.length = m.length ∧ EqK K H m l r ∧ Q (.bl (eqPs r)) H
section
variable {X : Cx}
theorem op_eqK {k : Nat} (hr : Room k X.A) : OpR X (compareOp .Eq) (rEqK X.K) := by
  intro pins s σ H x y v u Q I rx ry h
  obtain ⟨a, b, l, m, r, rfl, rfl, ha, hb, hlm, hE, q⟩ := h
  cases rx
  cases ry
  obtain ⟨_, da, ka, ra, A1⟩ := dk_of I.hok ha
  obtain ⟨_, db, kb, rb, B1⟩ := dk_of I.hok hb
  have la := ra.length
  have lb := rb.length
  have hits : ∀ (l' : List (Key × V)) (ka' : List (Key × Value)) (r' : List (PyData × PyData)), KV l' ka' → EqK X.K H m l' r' → PySem.W.KeqHits X.A.in1 s kb ka' (eqPs r') := by
    intro l'
    induction l' with
    | nil =>
      intro ka' r' hk he
      cases hk
      match r', he with
      | [], _ => exact .nil
    | cons p l' ih =>
      intro ka' r' hk he
      match r', he with
      | q :: r', ⟨⟨z, hz, h1, h2, s1, s2⟩, he⟩ =>
        cases hk with
        | @cons _ x _ _ h t =>
          obtain ⟨k', v'⟩ := x
          obtain ⟨hk1, hv1⟩ := h
          have hk1 : p.1 = k' := hk1
          obtain ⟨w', hw, rw'⟩ := RelO.some_of (v := z) (o := valueAt kb p.1) (by rw [← hz]; exact rb.val p.1)
          obtain ⟨as, r1⟩ := Dp.reads I q.1 p.2 v' h1 hv1
          obtain ⟨bs, r2⟩ := Dp.reads I q.2 z w' h2 rw'
          exact .hit (by rw [← hk1]; exact hw) (PySem.W.keq_at r1 r2 s1 s2 (by have := hr.un; show X.A.units + 1 + 64 < cLine; omega)) (ih _ _ t he)
  refine PySem.W.keq_eq da db A1 B1 (by have := hr.units; omega) (fun _ => hits l ka r ra hE) ?_
  refine ⟨.bl (eqPs r), H, I, ?_, q⟩
  rw [← la, ← lb, hlm, beq_self_eq_true, Bool.true_and]
  rfl
/-- e.f inside a comprehension -/
theorem pe_fldB {s : Shared} {H : Hp} {sc : Scope} {ce : Env} {fp : List Addr} {e : Expr} {f : Str} {pos : Pos} {t : TE} (he : PE (X.blk s H sc ce fp) e t) (hb : attributeBase e f (X.blk s H sc ce fp).env (eval e (X.blk s H sc ce fp).env) = eval e (X.blk s H sc ce fp).env) :
    PE (X.blk s H sc ce fp) (.Attribute e f pos) (tFld X.K t f) := pe_fld he hb
theorem pe_fldBB {s s' : Shared} {H H' : Hp} {sc sc' : Scope} {ce ce' : Env} {fp fp' : List Addr} {e : Expr} {f : Str} {pos : Pos} {t : TE} (he : PE ((X.blk s H sc ce fp).blk s' H' sc' ce' fp') e t) (hb : attributeBase e f ((X.blk s H sc ce fp).blk s' H' sc' ce' fp').env (eval e ((X.blk s H sc ce fp).blk s' H' sc' ce' fp').env) = eval e ((X.blk s H sc ce fp).blk s' H' sc' ce' fp').env) :
    PE ((X.blk s H sc ce fp).blk s' H' sc' ce' fp') (.Attribute e f pos) (tFld X.K t f) := pe_fld he hb
/-- in, of flat things or of data -/
def rInZ (K : PySem.W.Frag) : R2 := fun x y H Z => rInA K x y H Z ∨ rInD K x y H Z
def rNotInZ (K : PySem.W.Frag) : R2 := fun x y H Z => rNotInA K x y H Z ∨ rNotInD K x y H Z
theorem opInZ {k : Nat} (hr : Room k X.A) : OpR X (compareOp .In) (rInZ X.K) := OpR.or opIn (op_inD (by have := hr.un; omega))
theorem opNotInZ {k : Nat} (hr : Room k X.A) : OpR X (compareOp .NotIn) (rNotInZ X.K) := OpR.or opNotIn (op_notInD (by have := hr.un; omega))
section
variable {s s' : Shared} {H H' : Hp} {sc sc' : Scope} {ce ce' : Env} {fp fp' : List Addr}
theorem opInZB {k : Nat} (hr : Room k X.A) : OpR (X.blk s H sc ce fp) (compareOp .In) (rInZ X.K) := OpR.or opInB (op_inD (X := X.blk s H sc ce fp) (by have := hr.un; show X.A.units + 65 < cLine; omega))
theorem opNotInZB {k : Nat} (hr : Room k X.A) : OpR (X.blk s H sc ce fp) (compareOp .NotIn) (rNotInZ X.K) := OpR.or (opNotIn (X := X.blk s H sc ce fp)) (op_notInD (X := X.blk s H sc ce fp) (by have := hr.un; show X.A.units + 65 < cLine; omega))
theorem opInZBB {k : Nat} (hr : Room k X.A) : OpR ((X.blk s H sc ce fp).blk s' H' sc' ce' fp') (compareOp .In) (rInZ X.K) := OpR.or opInBB (op_inD (X := (X.blk s H sc ce fp).blk s' H' sc' ce' fp') (by have := hr.un; show X.A.units + 65 < cLine; omega))
end
end
end Own

namespace Own
open PySem PySem.Spec PyProof.Rows L2 Evl
abbrev s_common_word : Stmt := top 24
theorem sc_common_word : FnScope ["one", "other"] ["one", "other"] (defScope s_common_word) := ⟨rfl, rfl, rfl, by decide +kernel, rfl, by decide +kernel, by decide +kernel⟩
abbrev s_without_doubles : Stmt := top 25
theorem sc_without_doubles : FnScope ["things"] ["things"] (defScope s_without_doubles) := ⟨rfl, rfl, rfl, by decide +kernel, rfl, by decide +kernel, by decide +kernel⟩
structure TxtZ (mg : Str → Option Value) : Prop where
  sorted : mg "sorted" = none
  set : mg "set" = none
/-! ### lists of tuples, sorted -/
theorem srt_same {zs l ys : List Str} (s : Srt l ys) (m : ∀ z, z ∈ l ↔ z ∈ zs) : Srt zs ys := ⟨s.so, s.nd, fun z => (s.me z).trans (m z)⟩
def pick5 (c m o p t : List PyData) (s : Str) : List PyData := if s = "call" then c else if s = "more" then m else if s = "out" then o else if s = "part" then p else t
theorem p5_call (c m o p t : List PyData) : pick5 c m o p t "call" = c := by unfold pick5; rw [if_pos rfl]
theorem p5_more (c m o p t : List PyData) : pick5 c m o p t "more" = m := by unfold pick5; rw [if_neg (by decide +kernel), if_pos rfl]
theorem p5_out (c m o p t : List PyData) : pick5 c m o p t "out" = o := by unfold pick5; rw [if_neg (by decide +kernel), if_neg (by decide +kernel), if_pos rfl]
theorem p5_part (c m o p t : List PyData) : pick5 c m o p t "part" = p := by unfold pick5; rw [if_neg (by decide +kernel), if_neg (by decide +kernel), if_neg (by decide +kernel), if_pos rfl]
theorem p5_turn (c m o p t : List PyData) : pick5 c m o p t "turn" = t := by unfold pick5; rw [if_neg (by decide +kernel), if_neg (by decide +kernel), if_neg (by decide +kernel), if_neg (by decide +kernel)]
def isHm (z : Str) : Prop := z = "goal" ∨ z = "book"
/-- tuples that can be sorted -/
structure TTu (ds : List PyData) : Prop where
  it : ∀ d ∈ ds, isT d
  mx : Mix ds
theorem TTu.sub {ds es : List PyData} (h : TTu ds) (k : ∀ d ∈ es, d ∈ ds) : TTu es := ⟨fun d hd => h.it d (k d hd), h.mx.sub k⟩
theorem pat_inv {d : PyData} (h : patD d = true) : ∃ a b c, d = .tuple [a, b, c] ∧ (blankD a || relD a) = true ∧ partD b = true ∧ partD c = true := by
  unfold patD at h
  split at h
  · simp only [Bool.and_eq_true] at h
    exact ⟨_, _, _, rfl, h.1, h.2.1, h.2.2⟩
  · cases h
theorem pat_str {d : PyData} (h : patD d = true) : ∃ a b c : Str, d = .tuple [.str a, .str b, .str c] := by
  obtain ⟨a, b, c, rfl, h1, h2, h3⟩ := pat_inv h
  have sb : ∀ {d : PyData}, blankD d = true → ∃ z, d = .str z := fun {d} h => by cases d <;> first | exact ⟨_, rfl⟩ | cases h
  have sr : ∀ {d : PyData}, relD d = true → ∃ z, d = .str z := fun {d} h => by cases d <;> first | exact ⟨_, rfl⟩ | cases h
  have sn : ∀ {d : PyData}, nmD d = true → ∃ z, d = .str z := fun {d} h => by cases d <;> first | exact ⟨_, rfl⟩ | cases h
  have sp : ∀ {d : PyData}, partD d = true → ∃ z, d = .str z := fun {d} h => by
    unfold partD at h
    rw [Bool.or_eq_true] at h
    exact h.elim sb sn
  rw [Bool.or_eq_true] at h1
  obtain ⟨x, rfl⟩ := h1.elim sb sr
  obtain ⟨y, rfl⟩ := sp h2
  obtain ⟨z, rfl⟩ := sp h3
  exact ⟨x, y, z, rfl⟩
theorem pat_isT {d : PyData} (h : patD d = true) : isT d := by
  obtain ⟨a, b, c, rfl⟩ := pat_str h
  exact ⟨rfl, by simp [PyData.depth, PyData.depthAll], _, rfl⟩
theorem pat_mix {ds : List PyData} (h : ∀ d ∈ ds, patD d = true) : Mix ds := by
  refine ⟨fun d hd => ?_, fun d hd => ?_, fun z r r' k k' => ?_⟩
  · exact (pat_isT (h d hd)).1
  · obtain ⟨a, b, c, rfl⟩ := pat_str (h d hd)
    exact ⟨_, _, rfl⟩
  · obtain ⟨a, b, c, e⟩ := pat_str (h _ k)
    obtain ⟨a', b', c', e'⟩ := pat_str (h _ k')
    injection e with e
    injection e' with e'
    injection e with _ e
    injection e' with _ e'
    rw [e, e']
    simp [PySem.W.alikeAll, PySem.W.alike]
theorem str_dec (a b : Str) : decide (V.str a = V.str b) = decide (a = b) := by
  by_cases h : a = b
  · rw [h]
    simp
  · rw [decide_eq_false h, decide_eq_false (fun e => h (V.str.inj e))]
theorem nor_inv {d : PyData} (h : norD d = true) : ∃ z i, d = .tuple [.str z, .int i] ∧ isHm z ∧ 0 ≤ i := by
  cases d with
  | tuple ds =>
    by_cases h2 : ds.length = 2
    · match ds, h2, h with
      | [a, b], _, h =>
        have h : (homeD a && natD b) = true := h
        rw [Bool.and_eq_true] at h
        cases a with
        | str z =>
          cases b with
          | int i =>
            have h1 : (decide (z = "goal") || decide (z = "book")) = true := h.1
            simp only [Bool.or_eq_true, decide_eq_true_eq] at h1
            exact ⟨z, i, rfl, h1, of_decide_eq_true h.2⟩
          | _ => cases h.2
        | _ => cases h.1
    · rw [norD_len h2] at h
      cases h
  | _ => cases h
theorem nor_mix {ds : List PyData} (h : ∀ d ∈ ds, norD d = true) : Mix ds := by
  refine ⟨fun d hd => (nor_isT (h d hd)).1, fun d hd => ?_, fun z r r' k k' => ?_⟩
  · obtain ⟨z, i, rfl, _⟩ := nor_inv (h d hd)
    exact ⟨_, _, rfl⟩
  · obtain ⟨a, i, e, _⟩ := nor_inv (h _ k)
    obtain ⟨b, j, e', _⟩ := nor_inv (h _ k')
    injection e with e
    injection e' with e'
    injection e with _ e
    injection e' with _ e'
    rw [e, e']
    simp [PySem.W.alikeAll, PySem.W.alike]
theorem nor_tt {ds : List PyData} (h : ∀ d ∈ ds, norD d = true) : TTu ds := ⟨fun d hd => nor_isT (h d hd), nor_mix h⟩
theorem pat_tt {ds : List PyData} (h : ∀ d ∈ ds, patD d = true) : TTu ds := ⟨fun d hd => pat_isT (h d hd), pat_mix h⟩
theorem okLd {ds : List PyData} (h : ∀ d ∈ ds, okD 2 2100 d) (hl : ds.length ≤ 60) : okD 39 150000 (.list ds) := (okD_list h hl).mono (by decide) (by decide)
theorem okLs {ns : List Str} (h : ∀ z ∈ ns, isNm z = true) (hl : ns.length ≤ 60) : okD 39 150000 (.list (ns.map PyData.str)) := by
  refine okLd (fun d hd => ?_) (by rw [List.length_map]; exact hl)
  obtain ⟨z, hz, rfl⟩ := List.mem_map.mp hd
  exact (okD_str (L := 8) (nm_ok (h z hz)) (nm_len (h z hz))).mono (by decide) (by decide)
theorem nod_dis {ds : List PyData} (h : ∀ d ∈ ds, norD d = true) (hn : ds.Nodup) : dis ds = true := by
  refine decide_eq_true (List.pairwise_map.mpr ?_)
  refine (List.Pairwise.and_mem.mp hn).imp fun {a b} hab e => ?_
  exact hab.2.2 (nk_inj _ _ (nor_isT (h a hab.1)).1 (nor_isT (h b hab.2.1)).1 e)
theorem wd_str {z : Str} (h : isWd z = true) : z = "none" ∨ z = "front" ∨ z = "back" ∨ z = "any" := by
  unfold isWd at h
  rw [show [V.str "none", V.str "front", V.str "back", V.str "any"] = (["none", "front", "back", "any"] : List Str).map V.str from rfl, in_strs] at h
  simpa using h
theorem wd_ok {z : Str} (h : isWd z = true) : okD 40 16000000 (.str z) := by
  refine (okD_str (L := 8) ?_ ?_).mono (by decide) (by decide) <;> rcases wd_str h with rfl | rfl | rfl | rfl <;> decide +kernel
/-- sorted, without repeats, of the things of ds -/
structure SrtT (ds es : List PyData) : Prop where
  so : ascD es
  nd : es.Nodup
  me : ∀ d, d ∈ es ↔ d ∈ ds
theorem SrtT.one {ds es fs : List PyData} (t : TTu ds) (h : SrtT ds es) (h' : SrtT ds fs) : es = fs :=
  asc_one t.mx es fs (fun d hd => (h.me d).mp hd) h.so h'.so h.nd h'.nd fun d => (h.me d).trans (h'.me d).symm
theorem da_zq {H : Hp} : ∀ {vs : List V} {ds : List PyData}, DaAll H vs ds → (∀ d ∈ ds, isT d) → ∃ zq : List (Addr × PyData), vs = (zq.map fun q => V.ref q.1) ∧ zq.map Prod.snd = ds ∧ ∀ q ∈ zq, Da H (.ref q.1) q.2 ∧ isT q.2
  | _, _, .nil, _ => ⟨[], rfl, rfl, fun q hq => by cases hq⟩
  | _, _, .cons (v := v) (d := d) h1 h2, ht => by
    obtain ⟨zq, e1, e2, e3⟩ := da_zq h2 fun d hd => ht d (List.mem_cons_of_mem _ hd)
    obtain ⟨k1, k2, r, rfl⟩ := ht d List.mem_cons_self
    obtain ⟨p, _, rfl, _, _⟩ := h1.tup_inv
    refine ⟨(p, .tuple r) :: zq, by rw [e1]; rfl, by rw [List.map_cons, e2], fun q hq => ?_⟩
    rcases List.mem_cons.mp hq with rfl | hq
    · exact ⟨h1, k1, k2, r, rfl⟩
    · exact e3 q hq
theorem zq_da {H : Hp} : ∀ {zq : List (Addr × PyData)}, (∀ q ∈ zq, Da H (.ref q.1) q.2) → DaAll H (zq.map fun q => V.ref q.1) (zq.map Prod.snd)
  | [], _ => .nil
  | q :: zq, h => .cons (h q List.mem_cons_self) (zq_da fun q hq => h q (List.mem_cons_of_mem _ hq))
/-- all that is no instance stands -/
def NEx (H H' : Hp) : Prop := ∀ a o, H a = some o → (∀ C d fs, o ≠ .ins C d fs) → H' a = some o
theorem NEx.of {H H' : Hp} (e : Ex H H') : NEx H H' := fun a o h _ => e a o h
theorem NEx.trans {H1 H2 H3 : Hp} (e : NEx H1 H2) (f : NEx H2 H3) : NEx H1 H3 := fun a o h n => f a o (e a o h n) n
theorem NEx.set {H : Hp} {y C d : Addr} {fs : List (Str × V)} {o : HO} (h : H y = some (.ins C d fs)) : NEx H (upd H y o) := fun a u k n => by
  rw [upd_ne (fun z => by rw [z, h] at k; cases k; exact n _ _ _ rfl)]
  exact k
mutual
theorem Da.nex {H H' : Hp} (e : NEx H H') : ∀ (d : PyData) {v : V}, Da H v d → Da H' v d
  | .none, _, h => by cases h; exact .non
  | .bool _, _, h => by cases h; exact .bl _
  | .int _, _, h => by cases h; exact .int _
  | .str _, _, h => by cases h; exact .str _
  | .list ds, _, h => by
    cases h with
    | lst h1 h2 => exact .lst (e _ _ h1 (fun _ _ _ => nofun)) (DaAll.nex e ds h2)
  | .tuple ds, _, h => by
    cases h with
    | tup h1 h2 => exact .tup (e _ _ h1 (fun _ _ _ => nofun)) (DaAll.nex e ds h2)
  | .dict _, _, h => by
    cases h with
    | dct h1 h2 => exact .dct (e _ _ h1 (fun _ _ _ => nofun)) h2
theorem DaAll.nex {H H' : Hp} (e : NEx H H') : ∀ (ds : List PyData) {vs : List V}, DaAll H vs ds → DaAll H' vs ds
  | [], _, h => by cases h; exact .nil
  | d :: ds, _, h => by
    cases h with
    | cons h1 h2 => exact .cons (Da.nex e d h1) (DaAll.nex e ds h2)
end
/-! ### what a licence is -/
structure Lic where
  w : Str → Str
  ns : List Str
  ps : List PyData
  r : Str → List PyData
def RowsL (H : Hp) (v : V) (ds : List PyData) : Prop := ∃ l xs, v = .ref l ∧ H l = some (.lst xs) ∧ DaAll H xs ds
theorem RowsL.ex {H H' : Hp} {v : V} {ds : List PyData} (e : Ex H H') (h : RowsL H v ds) : RowsL H' v ds := by
  obtain ⟨l, xs, h1, h2, h3⟩ := h
  exact ⟨l, xs, h1, e _ _ h2, DaAll.ex e _ h3⟩
def sorts5 : List Str := ["call", "more", "out", "part", "turn"]
/-- a part that may be compared -/
def okP (d : PyData) : Prop := okD 2 2100 d ∧ d.canLay0 = true
structure OkL (m : Lic) : Prop where
  w : ∀ h, isHm h → isWd (m.w h) = true
  ns : ∀ z ∈ m.ns, isNm z = true
  nl : m.ns.length ≤ 60
  ps : ∀ d ∈ m.ps, patD d = true ∧ okP d
  pl : m.ps.length ≤ 30
  r : ∀ s ∈ sorts5, ∀ d ∈ m.r s, norD d = true ∧ okP d
  rd : ∀ s ∈ sorts5, (m.r s).Nodup
  rl : ∀ s ∈ sorts5, (m.r s).length ≤ 60
/-- all in order -/
structure SoL (m : Lic) : Prop extends OkL m where
  sn : Srt m.ns m.ns
  sp : SrtT m.ps m.ps
  sr : ∀ s ∈ sorts5, SrtT (m.r s) (m.r s)
def LicAt (C : Addr) (H : Hp) (y : Addr) (m : Lic) : Prop := ∃ (d pw pn pp pr : Addr) (us : List V) (vc vm vo vp vt : V),
  H y = some (.ins C d [("words_told", .ref pw), ("barred_names", .ref pn), ("barred_patterns", .ref pp), ("rows_told", .ref pr)]) ∧
  H pw = some (.dK [(Sum.inr "goal", .str (m.w "goal")), (Sum.inr "book", .str (m.w "book"))]) ∧ H pn = some (.lst (m.ns.map V.str)) ∧ H pp = some (.lst us) ∧ DaAll H us m.ps ∧
  H pr = some (.dK [(Sum.inr "call", vc), (Sum.inr "more", vm), (Sum.inr "out", vo), (Sum.inr "part", vp), (Sum.inr "turn", vt)]) ∧
  RowsL H vc (m.r "call") ∧ RowsL H vm (m.r "more") ∧ RowsL H vo (m.r "out") ∧ RowsL H vp (m.r "part") ∧ RowsL H vt (m.r "turn")
theorem LicAt.ex {C : Addr} {H H' : Hp} {y : Addr} {m : Lic} (e : Ex H H') (h : LicAt C H y m) : LicAt C H' y m := by
  obtain ⟨d, pw, pn, pp, pr, us, vc, vm, vo, vp, vt, h1, h2, h3, h4, h5, h6, k1, k2, k3, k4, k5⟩ := h
  exact ⟨d, pw, pn, pp, pr, us, vc, vm, vo, vp, vt, e _ _ h1, e _ _ h2, e _ _ h3, e _ _ h4, DaAll.ex e _ h5, e _ _ h6, k1.ex e, k2.ex e, k3.ex e, k4.ex e, k5.ex e⟩
/-- told the same: whatever the order -/
structure Sm (m t : Lic) : Prop where
  w : ∀ h, isHm h → m.w h = t.w h
  ns : ∀ z, z ∈ m.ns ↔ z ∈ t.ns
  ps : ∀ d, d ∈ m.ps ↔ d ∈ t.ps
  r : ∀ s ∈ sorts5, ∀ d, d ∈ m.r s ↔ d ∈ t.r s
structure ClsL (K : PySem.W.Frag) (C : Addr) : Prop where
  cl : Cls K C
  n1 : NoAttr K C "words_told"
  n2 : NoAttr K C "barred_names"
  n3 : NoAttr K C "barred_patterns"
  n4 : NoAttr K C "rows_told"
section
variable {P : Program} {w : World} {K : PySem.W.Frag} {mg : Str → Option Value} {base : Heap} {rel hom wrd srt : Addr}
/-- the word of both -/
def cmW (a b : Str) : Str := if a = b ∨ b = "any" then a else if a = "any" then b else "none"
def spCw : Sp := fun vs H Q _ => ∃ (a b : Str), vs = [.str a, .str b] ∧ Q (.str (cmW a b)) H
theorem ok_common (T : Txt0 mg) (D : Df K mg "common_word" s_common_word) : CalG P w K mg base 1 "common_word" spCw := by
  refine cal_mk D sc_common_word (fun _ _ _ _ _ _ us hl => match us, hl with | [_, _], _ => rfl) (fun vs H Q E h => ?_) (fun f cdv A outer s H vs Q E hr hG h => ?_)
  · obtain ⟨a, b, rfl, _⟩ := h
    rfl
  · obtain ⟨a, b, rfl, q⟩ := h
    refine ⟨_, (pss_cons (ps_if (PW.pt (pw_or (pt_cmpR (opEq hr) (pv 0) (pv 1) (nomark _)) (pw_or1 (pt_cmpR (opEq hr) (pv 1) pe_str (nomark _))))) (pss_one (ps_ret (pv 0))) pss_nil)
      (pss_one (ps_ret (pe_ifExp (pt_cmpR (opEq hr) (pv 0) pe_str (nomark _)) (pv 1) pe_str)))), ?_⟩
    unfold cmW at q
    refine ⟨_, rfl, _, rfl, .inl ⟨rfl, _, rfl, ?_⟩⟩
    rw [str_dec]
    by_cases h1 : a = b
    · rw [if_pos (.inl h1)] at q
      rw [decide_eq_true h1]
      exact iteT (iteT ⟨_, rfl, q⟩)
    · rw [decide_eq_false h1]
      refine iteF ⟨_, rfl, .inl ⟨rfl, _, rfl, ?_⟩⟩
      rw [str_dec]
      by_cases h2 : b = "any"
      · rw [if_pos (.inr h2)] at q
        rw [decide_eq_true h2]
        exact iteT ⟨_, rfl, q⟩
      · rw [if_neg (fun h => h.elim h1 h2)] at q
        rw [decide_eq_false h2]
        refine iteF ⟨_, rfl, .inl ⟨rfl, _, rfl, ?_⟩⟩
        rw [str_dec]
        by_cases h3 : a = "any"
        · rw [if_pos h3] at q
          rw [decide_eq_true h3]
          exact iteT ⟨_, rfl, q⟩
        · rw [if_neg h3] at q
          rw [decide_eq_false h3]
          exact iteF q
def spWdS : Sp := fun vs H Q _ => ∃ (p : Addr), vs = [.ref p] ∧
  ((∃ zs : List Str, H p = some (.lst (zs.map V.str)) ∧ zs.length ≤ 4000 ∧ ∀ H' l ys, Ex H H' → H l = none → H' l = some (.lst (ys.map V.str)) → Srt zs ys → ys.length ≤ zs.length → Q (.ref l) H') ∨
   ∃ (us : List V) (ds : List PyData), H p = some (.lst us) ∧ DaAll H us ds ∧ TTu ds ∧ ds.length < 64 ∧ ∀ H' l vs es, Ex H H' → H l = none → H' l = some (.lst vs) → DaAll H' vs es → SrtT ds es → es.length ≤ ds.length → Q (.ref l) H')
theorem ok_wd (T : Txt0 mg) (TZ : TxtZ mg) (D : Df K mg "without_doubles" s_without_doubles) : CalG P w K mg base 1 "without_doubles" spWdS := by
  refine cal_mk D sc_without_doubles (fun _ _ _ _ _ _ us hl => match us, hl with | [_], _ => rfl) (fun vs H Q E h => ?_) (fun f cdv A outer s H vs Q E hr hG h => ?_)
  · obtain ⟨p, rfl, _⟩ := h
    rfl
  · obtain ⟨p, rfl, h⟩ := h
    refine ⟨_, (pss_one (ps_ret (pe_callB (CallR.or (cr_sortX rfl) (cr_sortDr rfl hr)) (by rfl) TZ.sorted (by decide +kernel) (pa_cons (pe_callTy (CallR.or (cr_setX rfl) (cr_setDr rfl hr)) (by rfl) TZ.set (by decide +kernel) (pa_cons (pv 0) pa_nil)) pa_nil)))), ?_⟩
    rcases h with ⟨zs, hp, hl, q⟩ | ⟨us, ds, hp, hA, ht, hl, q⟩
    · refine ⟨_, rfl, .inl ⟨p, zs, rfl, sq_of hp, hl, fun a l hll hm ha => ?_⟩⟩
      refine .inl ⟨a, l, rfl, upd_same, by omega, fun p2 ys hs hyl h2 => ?_⟩
      have e1 := Ex.new (o := SetXO P w a l) ha
      exact q _ p2 ys (e1.trans (Ex.new h2)) (none_of e1 h2) upd_same (srt_same hs hm) (by omega)
    · obtain ⟨zq, rfl, rfl, hz⟩ := da_zq hA ht.it
      rw [List.length_map] at hl
      refine ⟨_, rfl, .inr ⟨p, zq, rfl, sq_of hp, hz, hl, fun a L hD ha => ?_⟩⟩
      have e1 := Ex.new (o := SetDO w a L) ha
      refine .inr ⟨a, L, rfl, upd_same, fun q hq => ⟨Da.ex e1 _ (hz q (hD.of q hq)).1, (hz q (hD.of q hq)).2⟩, ht.mx.sub fun d hd => ?_, fun p2 L2 pm as h2 => ?_⟩
      · obtain ⟨q, hq, rfl⟩ := List.mem_map.mp hd
        exact List.mem_map.mpr ⟨q, hD.of q hq, rfl⟩
      have e2 := Ex.new (o := .lst (L2.map fun q => V.ref q.1)) h2
      have pm2 := pm.map Prod.snd
      refine q _ p2 _ (L2.map Prod.snd) (e1.trans e2) (none_of e1 h2) upd_same (zq_da fun q hq => Da.ex (e1.trans e2) _ (hz q (hD.of q (pm.mem_iff.mp hq))).1) ⟨as, pm2.nodup_iff.mpr hD.nd, fun d => ?_⟩ ?_
      · rw [pm2.mem_iff]
        constructor
        · intro hd
          obtain ⟨q, hq, rfl⟩ := List.mem_map.mp hd
          exact List.mem_map.mpr ⟨q, hD.of q hq, rfl⟩
        · intro hd
          obtain ⟨q, hq, rfl⟩ := List.mem_map.mp hd
          exact hD.on q hq
      · have := pm2.length_eq
        have := hD.le
        rw [List.length_map, List.length_map] at *
        omega
def NmsL (H : Hp) (v : V) (ns : List Str) : Prop := ∃ l, v = .ref l ∧ H l = some (.lst (ns.map V.str))
theorem NmsL.ex {H H' : Hp} {v : V} {ns : List Str} (e : Ex H H') (h : NmsL H v ns) : NmsL H' v ns := by
  obtain ⟨l, h1, h2⟩ := h
  exact ⟨l, h1, e _ _ h2⟩
theorem da_strs {H : Hp} : ∀ ns : List Str, DaAll H (ns.map V.str) (ns.map PyData.str)
  | [] => .nil
  | n :: ns => .cons (.str n) (da_strs ns)
theorem RowsL.nex {H H' : Hp} {v : V} {ds : List PyData} (e : NEx H H') (h : RowsL H v ds) : RowsL H' v ds := by
  obtain ⟨l, xs, h1, h2, h3⟩ := h
  exact ⟨l, xs, h1, e _ _ h2 (fun _ _ _ => nofun), DaAll.nex e _ h3⟩
theorem nor_tex {H H' : Hp} (e : TEx H H') : ∀ {vs : List V} {es : List PyData}, DaAll H vs es → (∀ d ∈ es, norD d = true) → DaAll H' vs es
  | _, _, .nil, _ => .nil
  | _, _, .cons h t, hn => by
    refine .cons ?_ (nor_tex e t fun d hd => hn d (List.mem_cons_of_mem _ hd))
    obtain ⟨z, i, rfl, _⟩ := nor_inv (hn _ List.mem_cons_self)
    obtain ⟨p, xs, rfl, hp, hA⟩ := h.tup_inv
    refine .tup (e _ _ hp) ?_
    cases hA with | cons q1 hA => cases q1; cases hA with | cons q2 hA => cases q2; cases hA; exact .cons (.str _) (.cons (.int _) .nil)
theorem srtQ {K : PySem.W.Frag} {H : Hp} {v : V} {ds : List PyData} {Z : VK} (h : RowsL H v ds) (hn : ∀ d ∈ ds, norD d = true) (nd : ds.Nodup) (hl : ds.length ≤ 60)
    (k : ∀ H2 p vs es, Ex H H2 → H2 p = some (.lst vs) → DaAll H2 vs es → SrtT ds es → es.length = ds.length → Z (.ref p) H2) : rSortQ K [v] H Z := by
  obtain ⟨l, xs, rfl, hp, hA⟩ := h
  obtain ⟨zq, rfl, rfl, hz⟩ := da_zq hA fun d hd => nor_isT (hn d hd)
  rw [List.length_map] at hl
  refine ⟨l, zq, rfl, sq_of hp, hz, nor_mix hn, by omega, fun p L2 pm as hp2 => ?_⟩
  have e2 := Ex.new (o := .lst (L2.map fun q => V.ref q.1)) hp2
  have pm2 := pm.map Prod.snd
  exact k _ p _ (L2.map Prod.snd) e2 upd_same (zq_da fun q hq => Da.ex e2 _ (hz q (pm.mem_iff.mp hq)).1) ⟨as, pm2.nodup_iff.mpr nd, fun d => pm2.mem_iff⟩ pm2.length_eq
end
end Own

namespace Own
open PySem PySem.Spec PyProof.Rows L2 Evl
section
variable {X : Cx}
theorem set_dictR {k : Nat} (hr : Room k X.A) : PSet X L2.rSetD := set_dict (by have := hr.un; omega)
/-- len(d), d a dict of texts and ints -/
def rLenDK : List V → Hp → VK → Prop := fun vs H Q => ∃ (a : Addr) (kvs : List (Key × V)), vs = [.ref a] ∧ H a = some (.dK kvs) ∧ Q (.int (kvs.length : Int)) H
theorem cr_lenDK : CallR X (.builtin "len") rLenDK := by
  intro pk s τ H vs us Q I r h
  obtain ⟨a, kvs, rfl, ha, q⟩ := h
  rw [Vals.ref1 r]
  obtain ⟨z, hd, vs, rel, dd⟩ := dk_of I.hok ha
  have l := rel.length
  refine call_len_dict hd dd (by rw [sizeLine_eq] at z; omega) ?_
  exact ⟨.int (kvs.length : Int), H, I.tok _, ⟨_, by rw [l]⟩, q⟩
end
end Own

namespace Own
open PySem PySem.Spec PyProof.Rows L2 Evl
/-- as dcG, what is kept may speak of lists and tuples of the heap; nothing is asked of the parts -/
theorem dcH {J : It} {n : Nat} {G : Hp → Prop} {Y : Nat → Hp → V → Hp → Prop} (w : Walk J n G Y) {g : TG} {tt : TT} {tk tv : TE} {vs : List Nat} {σ : L2.St} {H1 : Hp} {Q : VK} (hn : n ≤ 40000) (hG0 : G H1) (hGm : ∀ H H', Ex H H' → G H → G H') (hY : ∀ i H x H', Y i H x H' → Ex H H')
    (Pa : Nat → List (Key × V) → Hp → Prop) (hm : ∀ i kvs H H', TEx H H' → (∀ a xs, H a = some (.lst xs) → H' a = some (.lst xs)) → Pa i kvs H → Pa i kvs H') (p0 : Pa 0 [] H1)
    (hs : ∀ i x H H' kvs, i < n → Ex H1 H → Y i H x H' → Pa i kvs H' → ∀ (N : V → V → Hp → Prop) (N0 : Hp → Prop), (∀ k z H4, Ex H' H4 → Pa (i + 1) (putK kvs k z) H4 → N (kV k) z H4) → (∀ H3, Ex H' H3 → Pa (i + 1) kvs H3 → N0 H3) →
      g x (wipe σ vs) H' fun σ2 H2 => wipe σ2 vs = wipe σ vs ∧ tt σ2 H2 fun b H3 => if b = true then tk σ2 H3 fun y H4 => tv σ2 H4 fun z H5 => N y z H5 else N0 H3)
    (k : ∀ D H2 kvs, H1 D = none → Ex H1 H2 → H2 D = some (.dK kvs) → kvs.length ≤ n → Pa n kvs H2 → Q (.ref D) H2) : DcRest g tt tk tv vs σ Q J H1 := by
  intro D hD
  have mv : ∀ {H : Hp} {l l' : List (Key × V)}, H D = some (.dK l) → TEx H (upd H D (.dK l')) ∧ ∀ a xs, H a = some (.lst xs) → (upd H D (.dK l')) a = some (.lst xs) := fun {H l l'} h =>
    ⟨fun a ys q => by rw [upd_ne (fun z => by rw [z, h] at q; cases q)]; exact q, fun a xs q => by rw [upd_ne (fun z => by rw [z, h] at q; cases q)]; exact q⟩
  refine ⟨fun i m H => m = n - i ∧ i ≤ n ∧ ∃ kvs, Ex H1 H ∧ H D = some (.dK kvs) ∧ kvs.length ≤ i ∧ Pa i kvs H, ⟨n, by omega, Nat.zero_le _, [], Ex.new hD, upd_same, Nat.zero_le _, hm _ _ _ _ (TEx.of (Ex.new hD)) (fun a xs q => Ex.new hD _ _ q) p0⟩, ?_⟩
  rintro i m H ⟨rfl, hi, kvs, e, hd, hl, hp⟩
  have hG := hGm _ _ e hG0
  by_cases hlt : i < n
  · refine .inr ⟨w.goes i H hlt hG, fun H' => i + 1 ≤ n ∧ ∃ kvs, Ex H1 H' ∧ H' D = some (.dK kvs) ∧ kvs.length ≤ i + 1 ∧ Pa (i + 1) kvs H', fun H' p' => ⟨n - (i + 1), by omega, rfl, p'.1, p'.2⟩, fun x H' y => ?_⟩
    have y' := w.yields i H x H' hlt hG y
    have e' := hY _ _ _ _ y'
    have hd' := e' _ _ hd
    refine hs i x H H' kvs hlt e y' (hm _ _ _ _ (TEx.of e') (fun a xs q => e' _ _ q) hp) _ _ (fun k z H4 e4 p4 => ?_) (fun H3 e3 p3 => ⟨hlt, kvs, (e.trans e').trans e3, e3 _ _ hd', by omega, p3⟩)
    have hd4 := e4 _ _ hd'
    exact ⟨kvs, k, rfl, hd4, by rw [sizeLine_eq]; omega, hlt, _, Ex.mut ((e.trans e').trans e4) hD, upd_same, Nat.le_trans (length_putK _ _ _) (by omega), hm _ _ _ _ (mv hd4).1 (mv hd4).2 p4⟩
  · have e2 : i = n := by omega
    subst e2
    exact .inl ⟨w.stops H hG, k D H kvs hD e hd hl hp⟩
end Own

namespace Own
open PySem PySem.Spec PyProof.Rows L2 Evl
theorem lcL {J : It} {n : Nat} {G : Hp → Prop} {Y : Nat → Hp → V → Hp → Prop} (w : Walk J n G Y) {g : TG} {tt : TT} {te : TE} {vs : List Nat} {σ : L2.St} {H1 : Hp} {Q : VK} (hG0 : G H1) (hGm : ∀ H H', Ex H H' → G H → G H') (hY : ∀ i H x H', Y i H x H' → Ex H H') (hn : n ≤ 40000)
    (Pa : Addr → Nat → List V → Hp → Prop) (hm : ∀ D i ys H H', TEx H H' → ExB D H H' → Pa D i ys H → Pa D i ys H') (p0 : ∀ D, Pa D 0 [] H1)
    (hs : ∀ D i x H H' ys, i < n → Ex H1 H → Y i H x H' → H1 D = none → H' D = some (.lst ys) → Pa D i ys H' → ∀ (N : V → Hp → Prop) (N0 : Hp → Prop), (∀ y H4, Ex H' H4 → Pa D (i + 1) (ys ++ [y]) H4 → N y H4) → (∀ H3, Ex H' H3 → Pa D (i + 1) ys H3 → N0 H3) →
      g x (wipe σ vs) H' fun σ2 H2 => wipe σ2 vs = wipe σ vs ∧ tt σ2 H2 fun b H3 => if b = true then te σ2 H3 N else N0 H3)
    (k : ∀ D H2 ys, H1 D = none → Ex H1 H2 → H2 D = some (.lst ys) → ys.length ≤ n → Pa D n ys H2 → Q (.ref D) H2) :
    LcRest g tt te vs σ Q J H1 := by
  intro D hD
  refine lc_it w (fun i H => ∃ ys, Ex H1 H ∧ H D = some (.lst ys) ∧ ys.length ≤ i ∧ Pa D i ys H) ⟨[], Ex.new hD, upd_same, Nat.zero_le _, hm _ _ _ _ _ (TEx.of (Ex.new hD)) (fun a o _ h => Ex.new hD a o h) (p0 D)⟩ (fun i H hi ⟨ys, e, _⟩ => hGm _ _ e hG0) ?_ ?_
  · rintro i x H H' hi ⟨ys, e, hd, hl, hp⟩ hy
    have e' := hY _ _ _ _ hy
    refine hs D i x H H' ys hi e hy hD (e' _ _ hd) (hm _ _ _ _ _ (TEx.of e') (fun a o _ h => e' a o h) hp) _ _ (fun y H4 e4 p4 => ?_) (fun H3 e3 p3 => ?_)
    · have d4 := e4 _ _ (e' _ _ hd)
      refine ⟨ys, d4, sz_lt (by omega), ys ++ [y], Ex.mut ((e.trans e').trans e4) hD, upd_same, ?_, hm _ _ _ _ _ (TEx.lst d4) (ExB.set (ExB.refl _ _)) p4⟩
      rw [List.length_append]
      show ys.length + 1 ≤ i + 1
      omega
    · exact ⟨ys, (e.trans e').trans e3, e3 _ _ (e' _ _ hd), by omega, p3⟩
  · rintro H ⟨ys, e, hd, hl, hp⟩
    exact k D H ys hD e hd hl hp
mutual
theorem Da.dp {K : PySem.W.Frag} {H : Hp} : ∀ (d : PyData) {v : V}, d.canLay0 = true → Da H v d → Dp K H v d
  | .none, _, _, h => by cases h; exact .non
  | .bool _, _, _, h => by cases h; exact .bl _
  | .int _, _, _, h => by cases h; exact .int _
  | .str _, _, _, h => by cases h; exact .str _
  | .list ds, _, q, h => by
    cases h with
    | lst h1 h2 => exact .lst (sq_of h1) (DaAll.dp ds q h2)
  | .tuple ds, _, q, h => by
    cases h with
    | tup h1 h2 => exact .tup (st_of h1) (DaAll.dp ds q h2)
  | .dict _, _, q, h => by cases q
theorem DaAll.dp {K : PySem.W.Frag} {H : Hp} : ∀ (ds : List PyData) {vs : List V}, PyData.canLayAll0 ds = true → DaAll H vs ds → DpAll K H vs ds
  | [], _, _, h => by cases h; exact .nil
  | d :: ds, _, q, h => by
    have q' : (d.canLay0 && PyData.canLayAll0 ds) = true := q
    rw [Bool.and_eq_true] at q'
    cases h with
    | cons h1 h2 => exact .cons (Da.dp d q'.1 h1) (DaAll.dp ds q'.2 h2)
end
abbrev s_l_pairs : Stmt := top 40
theorem sc_l_pairs : FnScope ["_law_start_here", "_law_k"] ["_law_start_here"] (defScope s_l_pairs) := ⟨rfl, rfl, rfl, by decide +kernel, rfl, by decide +kernel, by decide +kernel⟩
/-! ### what the law tells of a licence -/
structure OkT (n : Nat) (t : Lic) : Prop where
  ok : OkL t
  nl : t.ns.length ≤ n
  pl : t.ps.length ≤ n
  rl : ∀ s ∈ sorts5, (t.r s).length ≤ n
theorem OkT.mono {n k : Nat} {t : Lic} (h : OkT n t) (e : n ≤ k) : OkT k t := ⟨h.ok, Nat.le_trans h.nl e, Nat.le_trans h.pl e, fun s hs => Nat.le_trans (h.rl s hs) e⟩
structure Tl (H : Hp) (kvs : List (Key × V)) (t : Lic) : Prop where
  w : ∀ h, isHm h → valV kvs (Sum.inr h) = some (.str (t.w h))
  ns : ∃ v, valV kvs (Sum.inr "names") = some v ∧ NmsL H v t.ns
  ps : ∃ v, valV kvs (Sum.inr "patterns") = some v ∧ RowsL H v t.ps
  r : ∀ s ∈ sorts5, ∃ v, valV kvs (Sum.inr s) = some v ∧ RowsL H v (t.r s)
  l : kvs.length ≤ 9
def TellAt (H : Hp) (D : Addr) (t : Lic) : Prop := ∃ kvs, H D = some (.dK kvs) ∧ Tl H kvs t
theorem Tl.ex {H H' : Hp} {kvs : List (Key × V)} {t : Lic} (e : Ex H H') (h : Tl H kvs t) : Tl H' kvs t :=
  ⟨h.w, h.ns.imp fun _ k => ⟨k.1, k.2.ex e⟩, h.ps.imp fun _ k => ⟨k.1, k.2.ex e⟩, fun s hs => (h.r s hs).imp fun _ k => ⟨k.1, k.2.ex e⟩, h.l⟩
theorem TellAt.ex {H H' : Hp} {D : Addr} {t : Lic} (e : Ex H H') (h : TellAt H D t) : TellAt H' D t := by
  obtain ⟨kvs, h1, h2⟩ := h
  exact ⟨kvs, e _ _ h1, h2.ex e⟩
def nrD (h : Str) (k : Nat) : PyData := .tuple [.str h, .int (k : Int)]
def prD (g b : Nat) : List PyData := (List.range g).map (nrD "goal") ++ (List.range b).map (nrD "book")
theorem nrD_inj {h h' : Str} {k k' : Nat} (e : nrD h k = nrD h' k') : h = h' ∧ k = k' := by
  unfold nrD at e
  injection e with e
  injection e with e1 e2
  injection e2 with e2 _
  exact ⟨PyData.str.inj e1, by have := PyData.int.inj e2; omega⟩
theorem okD_int {r : Int} (h0 : 0 ≤ r) (h1 : r ≤ 1000) : okD 0 1921 (.int r) := by
  refine ⟨decide_eq_true ?_, Nat.le_refl _, Nat.le_refl _⟩
  exact Nat.lt_of_le_of_lt (Nat.log2_le_self _) (by omega)
theorem nrD_ok {h : Str} {k : Nat} (hh : isHm h) (hk : k ≤ 100) : norD (nrD h k) = true ∧ okP (nrD h k) := by
  have l : lay h = true ∧ h.length ≤ 8 := by rcases hh with rfl | rfl <;> decide +kernel
  refine ⟨?_, ?_, ?_⟩
  · show ((decide (h = "goal") || decide (h = "book")) && decide ((0 : Int) ≤ (k : Int))) = true
    rw [decide_eq_true (show (0 : Int) ≤ (k : Int) by omega), Bool.and_true, Bool.or_eq_true, decide_eq_true_eq, decide_eq_true_eq]
    exact hh
  · refine ⟨gDs_iff.mpr fun d hd => ?_, by show max 0 (max 0 0) + 1 ≤ 2; decide, by show (10 * h.length + 5) + 2 + (1921 + 2 + 0) + 3 ≤ 2100; omega⟩
    simp only [List.mem_cons, List.not_mem_nil, or_false] at hd
    rcases hd with rfl | rfl
    · exact (okD_str (L := 8) l.1 l.2).1
    · exact (okD_int (r := (k : Int)) (by omega) (by omega)).1
  · show ((PyData.str h).canLay0 && ((PyData.int (k : Int)).canLay0 && true)) = true
    rw [show (PyData.str h).canLay0 = true from l.1]
    simp [PyData.canLay0]
theorem prD_ok {g b : Nat} (hg : g ≤ 20) (hb : b ≤ 20) {d : PyData} (h : d ∈ prD g b) : norD d = true ∧ okP d := by
  rcases List.mem_append.mp h with h | h
  · obtain ⟨k, hk, rfl⟩ := List.mem_map.mp h
    rw [List.mem_range] at hk
    exact nrD_ok (.inl rfl) (by omega)
  · obtain ⟨k, hk, rfl⟩ := List.mem_map.mp h
    rw [List.mem_range] at hk
    exact nrD_ok (.inr rfl) (by omega)
theorem prD_nd (g b : Nat) : (prD g b).Nodup := by
  unfold prD
  rw [List.nodup_append]
  refine ⟨List.pairwise_map.mpr (List.nodup_range.imp fun {a b} hab e => hab (nrD_inj e).2), List.pairwise_map.mpr (List.nodup_range.imp fun {a b} hab e => hab (nrD_inj e).2), fun x hx y hy e => ?_⟩
  obtain ⟨k, _, rfl⟩ := List.mem_map.mp hx
  obtain ⟨j, _, rfl⟩ := List.mem_map.mp hy
  exact absurd (nrD_inj e).1 (by decide +kernel)
section
variable {P : Program} {w : World} {K : PySem.W.Frag} {mg : Str → Option Value} {base : Heap} {rel hom wrd srt : Addr}
def spPr : Sp := fun vs H Q _ => ∃ (p bd bk : Addr) (va : V) (us ub : List V), vs = [.ref p] ∧ H p = some (.tup [.ref bd, .ref bk, va]) ∧ H bd = some (.lst us) ∧ H bk = some (.lst ub) ∧ us.length ≤ 20 ∧ ub.length ≤ 20 ∧ ∀ H' v, Ex H H' → RowsL H' v (prD us.length ub.length) → Q v H'
theorem ok_pairs (T : Txt0 mg) (D : Df K mg "_law_pairs" s_l_pairs) : CalG P w K mg base 1 "_law_pairs" spPr := by
  refine cal_mk D sc_l_pairs (fun _ _ _ _ _ _ us hl => match us, hl with | [_], _ => rfl) (fun vs H Q E h => ?_) (fun f cdv A outer s H vs Q E hr hG h => ?_)
  · obtain ⟨p, bd, bk, va, us, ub, rfl, _⟩ := h
    rfl
  · obtain ⟨p, bd, bk, va, us, ub, rfl, hp, hd, hk, lu, lb, q⟩ := h
    refine ⟨_, (pss_one (ps_ret (pe_op opAdd (pe_lcO (pe_lc (own := [("_law_k", 1)]) rfl sc_l_pairs.nd (pi_range1 rfl T.range (pa_cons (pe_callB callLen (by rfl) T.len PySem.boot_len (pa_cons (pe_ix ixAny (pv 0) pe_int (fun _ _ => rfl)) pa_nil)) pa_nil)) (blkOk_by (own := [("_law_k", 1)]) (N := ["_law_start_here", "_law_k"]) (sc := defScope s_l_pairs) (by first | decide +kernel | kernel_rfl)) (fun _ _ _ _ _ => pg_name (i := 1) sc_l_pairs.nd rfl (Or.inl rfl)) (fun _ _ _ _ _ => pts_nil) (fun _ _ _ _ _ => pe_tup (pa_cons pe_str (pa_cons (pv 1) pa_nil))))) (pe_lcO (pe_lc (own := [("_law_k", 1)]) rfl sc_l_pairs.nd (pi_range1 rfl T.range (pa_cons (pe_callB callLen (by rfl) T.len PySem.boot_len (pa_cons (pe_ix ixAny (pv 0) pe_int (fun _ _ => rfl)) pa_nil)) pa_nil)) (blkOk_by (own := [("_law_k", 1)]) (N := ["_law_start_here", "_law_k"]) (sc := defScope s_l_pairs) (by first | decide +kernel | kernel_rfl)) (fun _ _ _ _ _ => pg_name (i := 1) sc_l_pairs.nd rfl (Or.inl rfl)) (fun _ _ _ _ _ => pts_nil) (fun _ _ _ _ _ => pe_tup (pa_cons pe_str (pa_cons (pv 1) pa_nil)))))))), ?_⟩
    refine ⟨_, rfl, .inr (.inl ⟨p, _, 0, _, rfl, rfl, st_of hp, atI_nat (j := 0) rfl, .inl ⟨bd, _, rfl, .inl (sq_of hd), ?_⟩⟩)⟩
    refine ⟨(us.length : Int), rfl, by omega, by omega, ?_⟩
    have rok : ∀ {h : Str} {i : Nat}, isHm h → i ≤ 100 → ∀ d ∈ (List.range i).map (nrD h), norD d = true := fun {h i} hh hi d hd => by
      obtain ⟨k, hk, rfl⟩ := List.mem_map.mp hd
      rw [List.mem_range] at hk
      exact (nrD_ok hh (by omega)).1
    have stp : ∀ {h : Str} {i : Nat} {ys : List V} {H : Hp} {t : Addr}, DaAll H ys ((List.range i).map (nrD h)) → H t = none → DaAll (upd H t (.tup [.str h, .int (0 + (i : Int))])) (ys ++ [.ref t]) ((List.range (i + 1)).map (nrD h)) := fun {h i ys H t} hY n => by
      rw [List.range_succ, List.map_append]
      refine (DaAll.ex (Ex.new n) _ hY).app (.cons (.tup upd_same ?_) .nil)
      rw [Int.zero_add]
      exact .cons (.str _) (.cons (.int _) .nil)
    refine lcG (walk_range (lo := 0) (n := ((us.length : Int)).toNat)) (by omega) trivial (fun _ _ _ _ => trivial) yFn_ex (fun i ys H' => i ≤ 100 ∧ DaAll H' ys ((List.range i).map (nrD "goal"))) (fun _ _ _ _ e h => ⟨h.1, nor_tex e h.2 (rok (.inl rfl) h.1)⟩) ⟨Nat.zero_le _, .nil⟩ ?_ ?_
    · rintro i x H1 H2 ys hi e ⟨rfl, rfl⟩ ⟨_, hY⟩ N N0 kN kN0
      refine ⟨rfl, _, rfl, by show 2 ≤ sizeLine; decide, fun t3 n3 => ?_⟩
      exact kN _ _ (Ex.new n3) ⟨by omega, stp hY n3⟩
    · rintro l1 H1 ys n1 e1 h1 _ ⟨_, hY⟩
      refine ⟨_, rfl, .inr (.inl ⟨p, _, 1, _, rfl, rfl, st_of (e1 _ _ hp), atI_nat (j := 1) rfl, .inl ⟨bk, _, rfl, .inl (sq_of (e1 _ _ hk)), ?_⟩⟩)⟩
      refine ⟨(ub.length : Int), rfl, by omega, by omega, ?_⟩
      refine lcG (walk_range (lo := 0) (n := ((ub.length : Int)).toNat)) (by omega) trivial (fun _ _ _ _ => trivial) yFn_ex (fun i ys H' => i ≤ 100 ∧ DaAll H' ys ((List.range i).map (nrD "book"))) (fun _ _ _ _ e h => ⟨h.1, nor_tex e h.2 (rok (.inr rfl) h.1)⟩) ⟨Nat.zero_le _, .nil⟩ ?_ ?_
      · rintro i x H2 H3 ys hi e ⟨rfl, rfl⟩ ⟨_, hY⟩ N N0 kN kN0
        refine ⟨rfl, _, rfl, by show 2 ≤ sizeLine; decide, fun t3 n3 => ?_⟩
        exact kN _ _ (Ex.new n3) ⟨by omega, stp hY n3⟩
      · rintro l2 H2 zs n2 e2 h2 _ ⟨_, hZ⟩
        have ly := hY.len
        have lz := hZ.len
        rw [List.length_map, List.length_range] at ly lz
        refine .inr (.inr (.inl ⟨l1, l2, _, _, rfl, rfl, e2 _ _ h1, h2, ?_, fun l3 n3 => ?_⟩))
        · show _ + _ ≤ sizeLine
          rw [sizeLine_eq]
          omega
        have e3 := Ex.new (o := .lst (ys ++ zs)) n3
        exact q _ _ ((e1.trans e2).trans e3) ⟨l3, _, rfl, upd_same, (DaAll.ex (e2.trans e3) _ hY).app (DaAll.ex e3 _ hZ)⟩
end
end Own

namespace Own
open PySem PySem.Spec PyProof.Rows L2 Evl
theorem kyds {ds : List PyData} : kyDs ds = true ↔ ∀ d ∈ ds, kyD d = true := by
  induction ds with
  | nil => exact ⟨fun _ d h => (by cases h), fun _ => rfl⟩
  | cons x xs ih =>
    rw [kyDs_cons, Bool.and_eq_true, ih]
    exact ⟨fun h d hd => (List.mem_cons.mp hd).elim (fun e => e ▸ h.1) (h.2 d), fun h => ⟨h x List.mem_cons_self, fun d hd => h d (List.mem_cons_of_mem _ hd)⟩⟩
theorem homes_at {i : Nat} {x : V} (h : [V.str "goal", V.str "book"][i]? = some x) : ∃ z, x = .str z ∧ isHm z ∧ (["goal", "book"] : List Str)[i]? = some z := by
  match i, h with
  | 0, h => cases h; exact ⟨_, rfl, .inl rfl, rfl⟩
  | 1, h => cases h; exact ⟨_, rfl, .inr rfl, rfl⟩
theorem all_take {α : Type} {l : List α} {i : Nat} {x : α} (h : l[i]? = some x) (p : α → Prop) : (∀ z ∈ l.take (i + 1), p z) ↔ (∀ z ∈ l.take i, p z) ∧ p x := by
  rw [List.take_add_one, h]
  simp only [List.mem_append]
  constructor
  · exact fun k => ⟨fun z hz => k z (.inl hz), k x (.inr (by simp))⟩
  · rintro ⟨a, b⟩ z (hz | hz)
    · exact a z hz
    · have : z = x := by simpa using hz
      exact this ▸ b
def so5 : List Str := ["out", "call", "turn", "part", "more"]
theorem so5_mem {s : Str} : s ∈ so5 ↔ s ∈ sorts5 := by
  unfold so5 sorts5
  simp only [List.mem_cons, List.not_mem_nil, or_false]
  constructor <;> (rintro (h | h | h | h | h) <;> simp [h])
/-- lists and tuples stand -/
structure LEx (H H' : Hp) : Prop where
  l : ∀ a xs, H a = some (.lst xs) → H' a = some (.lst xs)
  t : TEx H H'
theorem LEx.of {H H' : Hp} (e : Ex H H') : LEx H H' := ⟨fun a xs h => e a _ h, TEx.of e⟩
theorem LEx.trans {H1 H2 H3 : Hp} (e : LEx H1 H2) (f : LEx H2 H3) : LEx H1 H3 := ⟨fun a xs h => f.l a xs (e.l a xs h), e.t.trans f.t⟩
theorem LEx.dk {H : Hp} {D : Addr} {l : List (Key × V)} {o : HO} (h : H D = some (.dK l)) : LEx H (upd H D o) :=
  ⟨fun a xs q => by rw [upd_ne (fun z => by rw [z, h] at q; cases q)]; exact q, fun a ys q => by rw [upd_ne (fun z => by rw [z, h] at q; cases q)]; exact q⟩
mutual
theorem ky_tex {H H' : Hp} (e : TEx H H') : ∀ (d : PyData) {v : V}, kyD d = true → Da H v d → Da H' v d
  | .int _, _, _, h => by cases h; exact .int _
  | .str _, _, _, h => by cases h; exact .str _
  | .tuple ds, _, k, h => by
    cases h with
    | tup h1 h2 => exact .tup (e _ _ h1) (kys_tex e ds (by rw [kyD] at k; exact k) h2)
  | .none, _, k, _ => by cases k
  | .bool _, _, k, _ => by cases k
  | .list _, _, k, _ => by cases k
  | .dict _, _, k, _ => by cases k
theorem kys_tex {H H' : Hp} (e : TEx H H') : ∀ (ds : List PyData) {vs : List V}, kyDs ds = true → DaAll H vs ds → DaAll H' vs ds
  | [], _, _, h => by cases h; exact .nil
  | d :: ds, _, k, h => by
    rw [kyDs_cons, Bool.and_eq_true] at k
    cases h with
    | cons h1 h2 => exact .cons (ky_tex e d k.1 h1) (kys_tex e ds k.2 h2)
end
theorem RowsL.lex {H H' : Hp} {v : V} {ds : List PyData} (e : LEx H H') (k : ∀ d ∈ ds, kyD d = true) (h : RowsL H v ds) : RowsL H' v ds := by
  obtain ⟨l, xs, h1, h2, h3⟩ := h
  exact ⟨l, xs, h1, e.l _ _ h2, kys_tex e.t ds (kyds.mpr k) h3⟩
theorem NmsL.lex {H H' : Hp} {v : V} {ns : List Str} (e : LEx H H') (h : NmsL H v ns) : NmsL H' v ns := by
  obtain ⟨l, h1, h2⟩ := h
  exact ⟨l, h1, e.l _ _ h2⟩
theorem val_put {kvs : List (Key × V)} {z y : Str} {v : V} : valV (putK kvs (Sum.inr z) v) (Sum.inr y) = if y = z then some v else valV kvs (Sum.inr y) := by
  rw [valV_put]
  by_cases e : y = z
  · rw [if_pos e, if_pos (by rw [e])]
  · rw [if_neg e, if_neg (fun h => e (Sum.inr.inj h))]
theorem dput {H : Hp} {D : Addr} {kvs : List (Key × V)} {z : Str} {v : V} (h : H D = some (.dK kvs)) (l : kvs.length ≤ 1000) : DPut H D (.str z) v (upd H D (.dK (putK kvs (Sum.inr z) v))) :=
  .inl ⟨kvs, Sum.inr z, h, rfl, by rw [sizeLine_eq]; omega, rfl⟩
theorem len_put {kvs : List (Key × V)} {k : Key} {v : V} (h : (valV kvs k).isSome = true) : (putK kvs k v).length = kvs.length := by
  unfold putK
  rw [if_pos, List.length_map]
  unfold valV at h
  rw [Option.isSome_map, List.find?_isSome] at h
  obtain ⟨x, hx, e⟩ := h
  exact List.any_eq_true.mpr ⟨x, hx, e⟩
theorem iffIf {α : Type} {p q : Prop} [Decidable p] [Decidable q] {a b : α} (h : p ↔ q) : (if p then a else b) = if q then a else b := by
  by_cases k : p
  · rw [if_pos k, if_pos (h.mp k)]
  · rw [if_neg k, if_neg (fun z => k (h.mpr z))]
theorem hm_ne {h s : Str} (hh : isHm h) (hs : s ∈ sorts5) : h ≠ s := by
  unfold sorts5 at hs
  simp only [List.mem_cons, List.not_mem_nil, or_false] at hs
  rcases hh with rfl | rfl <;> rcases hs with rfl | rfl | rfl | rfl | rfl <;> decide +kernel
theorem so_nm {s : Str} (hs : s ∈ sorts5) : s ≠ "names" ∧ s ≠ "patterns" := by
  unfold sorts5 at hs
  simp only [List.mem_cons, List.not_mem_nil, or_false] at hs
  rcases hs with rfl | rfl | rfl | rfl | rfl <;> exact ⟨by decide +kernel, by decide +kernel⟩
/-- sorted(set(..)) of texts, of tuples -/
theorem ssS {K : PySem.W.Frag} {P : Program} {w : World} {H : Hp} {p : Addr} {zs : List Str} {Z : VK} (hp : H p = some (.lst (zs.map V.str))) (hl : zs.length ≤ 4000)
    (k : ∀ H' l ys, Ex H H' → H' l = some (.lst (ys.map V.str)) → Srt zs ys → ys.length ≤ zs.length → Z (.ref l) H') :
    rSetX K P w [.ref p] H (fun x H1 => rSortX P w [x] H1 Z ∨ rSortD w [x] H1 Z) ∨ rSetD K w [.ref p] H (fun x H1 => rSortX P w [x] H1 Z ∨ rSortD w [x] H1 Z) := by
  refine .inl ⟨p, zs, rfl, sq_of hp, hl, fun a l hll hm ha => ?_⟩
  refine .inl ⟨a, l, rfl, upd_same, by omega, fun p2 ys hs hyl h2 => ?_⟩
  have e1 := Ex.new (o := SetXO P w a l) ha
  exact k _ p2 ys (e1.trans (Ex.new h2)) upd_same (srt_same hs hm) (by omega)
theorem ssT {K : PySem.W.Frag} {P : Program} {w : World} {H : Hp} {p : Addr} {us : List V} {ds : List PyData} {Z : VK} (hp : H p = some (.lst us)) (hA : DaAll H us ds) (ht : TTu ds) (hl : ds.length < 64)
    (k : ∀ H' l vs es, Ex H H' → H' l = some (.lst vs) → DaAll H' vs es → SrtT ds es → es.length ≤ ds.length → Z (.ref l) H') :
    rSetX K P w [.ref p] H (fun x H1 => rSortX P w [x] H1 Z ∨ rSortD w [x] H1 Z) ∨ rSetD K w [.ref p] H (fun x H1 => rSortX P w [x] H1 Z ∨ rSortD w [x] H1 Z) := by
  obtain ⟨zq, rfl, rfl, hz⟩ := da_zq hA ht.it
  rw [List.length_map] at hl
  refine .inr ⟨p, zq, rfl, sq_of hp, hz, hl, fun a L hD ha => ?_⟩
  have e1 := Ex.new (o := SetDO w a L) ha
  refine .inr ⟨a, L, rfl, upd_same, fun q hq => ⟨Da.ex e1 _ (hz q (hD.of q hq)).1, (hz q (hD.of q hq)).2⟩, ht.mx.sub fun d hd => ?_, fun p2 L2 pm as h2 => ?_⟩
  · obtain ⟨q, hq, rfl⟩ := List.mem_map.mp hd
    exact List.mem_map.mpr ⟨q, hD.of q hq, rfl⟩
  have e2 := Ex.new (o := .lst (L2.map fun q => V.ref q.1)) h2
  have pm2 := pm.map Prod.snd
  refine k _ p2 _ (L2.map Prod.snd) (e1.trans e2) upd_same (zq_da fun q hq => Da.ex (e1.trans e2) _ (hz q (hD.of q (pm.mem_iff.mp hq))).1) ⟨as, pm2.nodup_iff.mpr hD.nd, fun d => ?_⟩ ?_
  · rw [pm2.mem_iff]
    constructor
    · intro hd
      obtain ⟨q, hq, rfl⟩ := List.mem_map.mp hd
      exact List.mem_map.mpr ⟨q, hD.of q hq, rfl⟩
    · intro hd
      obtain ⟨q, hq, rfl⟩ := List.mem_map.mp hd
      exact hD.on q hq
  · have := pm2.length_eq
    have := hD.le
    rw [List.length_map, List.length_map] at *
    omega
theorem RowsL.drop {H : Hp} {l : Addr} {xs : List V} {ds : List PyData} (h : H l = some (.lst (xs.drop 1))) (hA : DaAll H xs ds) : RowsL H (.ref l) (ds.drop 1) := by
  refine ⟨l, _, rfl, h, ?_⟩
  cases hA with
  | nil => exact .nil
  | cons _ t => exact t
theorem pat_of {ns ts : List Str} {a : A3} (hw : WOk ns ts) (hR : isR a.1 = true) (h1 : a.2.1 = "" ∨ a.2.1 ∈ ts) (h2 : a.2.2 = "" ∨ a.2.2 ∈ ts) : patD (atD a) = true ∧ okP (atD a) := by
  have g := gA_of hw.nt hR h1 h2
  refine ⟨?_, g.okD.mono (by decide) (by decide), (Bool.and_eq_true_iff.mp (shp_at g.1)).1⟩
  have p : ∀ {z : Str}, (z = "" ∨ z ∈ ts) → (decide (z = "") || isNm z) = true := fun {z} h => by
    rcases h with rfl | h
    · decide +kernel
    · rw [hw.nt z h, Bool.or_true]
  have r : (decide (a.1 = "") || isR3 a.1) = true := by
    rcases isR_cases hR with h | h | h | h <;> rw [h] <;> decide +kernel
  show ((decide (a.1 = "") || isR3 a.1) && ((decide (a.2.1 = "") || isNm a.2.1) && (decide (a.2.2 = "") || isNm a.2.2))) = true
  rw [r, p h1, p h2]
  rfl
theorem wd_at {r : Int} (h0 : 0 ≤ r) (h1 : r < 4) : ∃ z, atI [V.str "none", .str "front", .str "back", .str "any"] r = some (.str z) ∧ isWd z = true := by
  have q : r = 0 ∨ r = 1 ∨ r = 2 ∨ r = 3 := by omega
  rcases q with rfl | rfl | rfl | rfl
  · exact ⟨_, rfl, by decide +kernel⟩
  · exact ⟨_, rfl, by decide +kernel⟩
  · exact ⟨_, rfl, by decide +kernel⟩
  · exact ⟨_, rfl, by decide +kernel⟩
theorem Tl.lex {H H' : Hp} {kvs : List (Key × V)} {t : Lic} (e : LEx H H') (ok : OkL t) (h : Tl H kvs t) : Tl H' kvs t :=
  ⟨h.w, h.ns.imp fun _ k => ⟨k.1, k.2.lex e⟩, h.ps.imp fun _ k => ⟨k.1, k.2.lex e fun d hd => (pat_isT (ok.ps d hd).1).1⟩, fun s hs => (h.r s hs).imp fun _ k => ⟨k.1, k.2.lex e fun d hd => (nor_isT (ok.r s hs d hd).1).1⟩, h.l⟩
theorem hm_nm {h : Str} (hh : isHm h) : h ≠ "names" ∧ h ≠ "patterns" := by rcases hh with rfl | rfl <;> exact ⟨by decide +kernel, by decide +kernel⟩
end Own

namespace Own
open PySem PySem.Spec PyProof.Rows L2 Evl
abbrev s_l_licence : Stmt := top 41
theorem sc_l_licence : FnScope ["_law_bag_here", "_law_world_here", "_law_start_here", "_law_found", "_law_home", "_law_k", "_law_few", "_law_word", "_law_pair"] ["_law_bag_here", "_law_world_here", "_law_start_here"] (defScope s_l_licence) := ⟨rfl, rfl, rfl, by decide +kernel, rfl, by decide +kernel, by decide +kernel⟩
theorem wd_at5 {r : Int} (h0 : 0 ≤ r) (h1 : r < 5) : ∃ z, atI [V.str "none", .str "front", .str "back", .str "any", .str "any"] r = some (.str z) ∧ isWd z = true := by
  have q : r = 0 ∨ r = 1 ∨ r = 2 ∨ r = 3 ∨ r = 4 := by omega
  rcases q with rfl | rfl | rfl | rfl | rfl
  · exact ⟨_, rfl, by decide +kernel⟩
  · exact ⟨_, rfl, by decide +kernel⟩
  · exact ⟨_, rfl, by decide +kernel⟩
  · exact ⟨_, rfl, by decide +kernel⟩
  · exact ⟨_, rfl, by decide +kernel⟩
section
variable {P : Program} {w : World} {K : PySem.W.Frag} {mg : Str → Option Value} {base : Heap} {rel hom wrd srt : Addr}
def spLc : Sp := fun vs H Q _ => ∃ (b p bd bk : Addr) (v va : V) (ns ts : List Str) (us ub : List V), vs = [.ref b, v, .ref p] ∧ BagAt H b ∧ WorldAt H v ns ts ∧ WOk ns ts ∧ H p = some (.tup [.ref bd, .ref bk, va]) ∧ H bd = some (.lst us) ∧ H bk = some (.lst ub) ∧ us.length ≤ 4 ∧ ub.length ≤ 2 ∧
  ∀ (H' : Hp) (D' : Addr) (k : Lic), Ex H H' → H D' = none → TellAt H' D' k → OkT 6 k → Q (.ref D') H'
theorem ok_licence (T : Txt0 mg) (TZ : TxtZ mg) (c_l_take : CalG P w K mg base 1 "_law_take" spTake) (c_l_some : CalG P w K mg base 2 "_law_some" (spSome K)) (c_l_pattern : CalG P w K mg base 4 "_law_pattern" spPattern) (c_l_pairs : CalG P w K mg base 1 "_law_pairs" spPr) (D : Df K mg "_law_licence" s_l_licence) : CalG P w K mg base 5 "_law_licence" spLc := by
  refine cal_mk D sc_l_licence (fun _ _ _ _ _ _ us hl => match us, hl with | [_, _, _], _ => rfl) (fun vs H Q E h => ?_) (fun f cdv A outer s H vs Q E hr hG h => ?_)
  · obtain ⟨b, p, bd, bk, v, va, ns, ts, us, ub, rfl, _⟩ := h
    rfl
  · obtain ⟨b, p, bd, bk, v, va, ns, ts, us, ub, rfl, hb, hv, hw, hp, hd, hk, lu, lb, q⟩ := h
    refine ⟨_, (pss_cons (ps_set (i := 3) sc_l_licence.nd rfl (Or.inl rfl) pe_dnewK)
      (pss_cons (ps_forO (ps_for PassesOwn.never rfl (piAny (pe_tup (pa_cons pe_str (pa_cons pe_str pa_nil)))) (pg_name (i := 4) sc_l_licence.nd rfl (Or.inl rfl))
        (pss_one (ps_asg (pe_ix ixAny (pe_lst (pa_cons pe_str (pa_cons pe_str (pa_cons pe_str (pa_cons pe_str (pa_cons pe_str pa_nil)))))) (pe_cG c_l_take hr hG (by decide) rfl (pa_cons (pv 0) (pa_cons pe_int pa_nil))) (fun _ _ => rfl)) (pg_sub (pv 3) (pv 4) (set_dictR hr))))))
      (pss_cons (ps_asg (pe_callB (CallR.or (cr_sortX rfl) (cr_sortDr rfl hr)) (by rfl) TZ.sorted (by decide +kernel) (pa_cons (pe_callTy (CallR.or (cr_setX rfl) (cr_setDr rfl hr)) (by rfl) TZ.set (by decide +kernel) (pa_cons (pe_lcO (pe_lc (own := [("_law_k", 5)]) rfl sc_l_licence.nd (pi_range1 rfl T.range (pa_cons (pe_cG c_l_take hr hG (by decide) rfl (pa_cons (pv 0) (pa_cons pe_int pa_nil))) pa_nil)) (blkOk_by (own := [("_law_k", 5)]) (N := ["_law_bag_here", "_law_world_here", "_law_start_here", "_law_found", "_law_home", "_law_k", "_law_few", "_law_word", "_law_pair"]) (sc := defScope s_l_licence) (by first | decide +kernel | kernel_rfl)) (fun _ _ _ _ _ => pg_name (i := 5) sc_l_licence.nd rfl (Or.inl rfl)) (fun _ _ _ _ _ => pts_nil) (fun _ _ _ _ _ => pe_cG c_l_some hr hG (by decide) rfl (pa_cons (pv 0) (pa_cons (pe_dget (hu_of hr) (pv 1) pe_str (fun _ _ => rfl)) pa_nil))))) pa_nil)) pa_nil)) (pg_sub (pv 3) pe_str (set_dictR hr)))
      (pss_cons (ps_asg (pe_callB (CallR.or (cr_sortX rfl) (cr_sortDr rfl hr)) (by rfl) TZ.sorted (by decide +kernel) (pa_cons (pe_callTy (CallR.or (cr_setX rfl) (cr_setDr rfl hr)) (by rfl) TZ.set (by decide +kernel) (pa_cons (pe_lcO (pe_lc (own := [("_law_k", 5)]) rfl sc_l_licence.nd (pi_range1 rfl T.range (pa_cons (pe_op op_fdivW (pe_cG c_l_take hr hG (by decide) rfl (pa_cons (pv 0) (pa_cons pe_int pa_nil))) pe_int) pa_nil)) (blkOk_by (own := [("_law_k", 5)]) (N := ["_law_bag_here", "_law_world_here", "_law_start_here", "_law_found", "_law_home", "_law_k", "_law_few", "_law_word", "_law_pair"]) (sc := defScope s_l_licence) (by first | decide +kernel | kernel_rfl)) (fun _ _ _ _ _ => pg_name (i := 5) sc_l_licence.nd rfl (Or.inl rfl)) (fun _ _ _ _ _ => pts_nil) (fun _ _ _ _ _ => pe_cG c_l_pattern hr hG (by decide) rfl (pa_cons (pv 0) (pa_cons (pe_dget (hu_of hr) (pv 1) pe_str (fun _ _ => rfl)) pa_nil))))) pa_nil)) pa_nil)) (pg_sub (pv 3) pe_str (set_dictR hr)))
      (pss_cons (ps_set (i := 6) sc_l_licence.nd rfl (Or.inr rfl) (pe_cG c_l_take hr hG (by decide) rfl (pa_cons (pv 0) (pa_cons pe_int pa_nil))))
      (pss_cons (ps_forO (ps_for PassesOwn.never rfl (piAny (pe_tup (pa_cons pe_str (pa_cons pe_str (pa_cons pe_str (pa_cons pe_str (pa_cons pe_str pa_nil))))))) (pg_name (i := 7) sc_l_licence.nd rfl (Or.inl rfl))
        (pss_one (ps_asg (pe_lcO (pe_lc (own := [("_law_pair", 8)]) rfl sc_l_licence.nd (piAny (pe_cG c_l_pairs hr hG (by decide) rfl (pa_cons (pv 2) pa_nil))) (blkOk_by (own := [("_law_pair", 8)]) (N := ["_law_bag_here", "_law_world_here", "_law_start_here", "_law_found", "_law_home", "_law_k", "_law_few", "_law_word", "_law_pair"]) (sc := defScope s_l_licence) (by first | decide +kernel | kernel_rfl)) (fun _ _ _ _ _ => pg_name (i := 8) sc_l_licence.nd rfl (Or.inl rfl)) (fun _ _ _ _ _ => pts_one (pt_cmpR opLt (pe_cG c_l_take hr hG (by decide) rfl (pa_cons (pv 0) (pa_cons pe_int pa_nil))) (pv 6) (nomark _))) (fun _ _ _ _ _ => pv 8))) (pg_sub (pv 3) (pv 7) (set_dictR hr))))))
      (pss_one (ps_ret (pv 3))))))))), ?_⟩
    intro Dd nDd
    generalize hq1 : upd H Dd _ = H1
    obtain ⟨e1, h1⟩ := gen1 hq1 nDd
    refine .inr (.inl ⟨by show 2 ≤ sizeLine; decide, fun x2 nx2 => ⟨x2, rfl, ⟨_, st_of upd_same⟩, ?_⟩⟩)
    generalize hq2 : upd H1 x2 _ = H2
    obtain ⟨e2, h2⟩ := gen1 hq2 nx2
    have e02 := e1.trans e2
    have hn3 := hw.n
    have ht2 := hw.t2
    have ht4 := hw.t4
    obtain ⟨dw, pn, pt, kvw, rfl, hdw, hkn, hkt, hpn, hpt⟩ := id hv
    refine frG (walk_tup (xs := [V.str "goal", V.str "book"])) (fun i σ H' => ∃ (kv : List (Key × V)) (wf : Str → Str) (x4 : Option V), σ = [some (.ref b), some (.ref dw), some (.ref p), some (.ref Dd), x4, none, none, none, none] ∧ Ex H H' ∧ H' x2 = some (.tup [V.str "goal", V.str "book"]) ∧ H' Dd = some (.dK kv) ∧ kv.length ≤ i ∧ ∀ h ∈ (["goal", "book"] : List Str).take i, valV kv (Sum.inr h) = some (.str (wf h)) ∧ isWd (wf h) = true) ⟨[], fun _ => "", _, rfl, e02, h2, e2 _ _ h1, Nat.le_refl _, fun h hh => by cases hh⟩ (fun _ _ _ _ ⟨_, _, _, _, _, h, _⟩ => st_of h) ?_ ?_
    · rintro i x σ H3 H3' hi ⟨kv, wf, x4, rfl, e3, hx2, hD3, hkl, hP⟩ ⟨rfl, hx⟩
      obtain ⟨h, rfl, hh, hat⟩ := homes_at hx
      have hi2 : i < 2 := hi
      refine ⟨by show 5 ≤ sizeLine; decide, fun l4 n4 => ?_⟩
      generalize hq4 : upd H3' l4 _ = H4
      obtain ⟨e4, h4⟩ := gen1 hq4 n4
      refine ⟨_, rfl, b, 5, rfl, hb.ex (e3.trans e4), by decide, by decide, fun H5 r r0 r1 e5 => ?_⟩
      obtain ⟨wz, hat5, hwd⟩ := wd_at5 r0 r1
      have e45 := e4.trans e5
      refine .inl ⟨l4, _, r, .str wz, rfl, rfl, sq_of (e5 _ _ h4), hat5, ?_⟩
      refine ⟨_, rfl, _, rfl, Dd, _, rfl, dput (e45 _ _ hD3) (by omega), _, fun y => if y = h then wz else wf y, _, rfl, Ex.mut (e3.trans e45) nDd, (LEx.dk (e45 _ _ hD3)).t _ _ (e45 _ _ hx2), upd_same, Nat.le_trans (length_putK _ _ _) (by omega), (all_take hat _).mpr ⟨fun g hg => ?_, ?_⟩⟩
      · rw [val_put]
        dsimp only
        by_cases e : g = h
        · rw [if_pos e, if_pos e]
          exact ⟨rfl, hwd⟩
        · rw [if_neg e, if_neg e]
          exact hP g hg
      · rw [val_put, if_pos rfl]
        dsimp only
        rw [if_pos rfl]
        exact ⟨rfl, hwd⟩
    · rintro σ H3 ⟨kv, wf, x4, rfl, e3, hx2, hD3, hkl, hP⟩
      have hkl : kv.length ≤ 2 := hkl
      have hW : ∀ h, isHm h → valV kv (Sum.inr h) = some (.str (wf h)) ∧ isWd (wf h) = true := fun h hh => hP h (by rcases hh with rfl | rfl <;> decide +kernel)
      -- names
      refine ⟨_, rfl, b, 3, rfl, hb.ex e3, by decide, by decide, fun H4 r r0 r1 e4 => ?_⟩
      have e04 := e3.trans e4
      refine ⟨r, rfl, by omega, by omega, ?_⟩
      refine lcG (walk_range (lo := 0) (n := r.toNat)) (by omega) trivial (fun _ _ _ _ => trivial) yFn_ex (fun i ys _ => ∃ zs : List Str, ys = zs.map V.str ∧ zs.length = i ∧ ∀ z ∈ zs, z ∈ ns) (fun _ _ _ _ _ h => h) ⟨[], rfl, rfl, fun z hz => by cases hz⟩ ?_ ?_
      · rintro i x H5 H6 ys hi e5 ⟨rfl, rfl⟩ ⟨zs, rfl, hzl, hzs⟩ N N0 kN kN0
        have e06 := e04.trans e5
        refine ⟨rfl, _, rfl, _, rfl, dw, .ref pn, rfl, .inl ⟨kvw, Sum.inr "names", .inl (e06 _ _ hdw), rfl, hkn.symm⟩, ?_⟩
        refine ⟨b, pn, _, rfl, hb.ex e06, .inl (sq_of (e06 _ _ hpn)), (fun e => by have z := congrArg List.length e; rw [List.length_map] at z; rw [hn3] at z; cases z), by rw [List.length_map]; omega, fun H9 j9 x9 e9 hx9 => ?_⟩
        obtain ⟨nm, hnm, rfl⟩ := str_at hx9
        refine kN _ _ e9 ⟨zs ++ [nm], by rw [List.map_append]; rfl, by rw [List.length_append, hzl]; rfl, fun z hz => ?_⟩
        rcases List.mem_append.mp hz with hz | hz
        · exact hzs z hz
        · rw [List.mem_singleton.mp hz]
          exact List.mem_of_getElem? hnm
      · rintro l5 H5 ys n5 e5 h5 _ ⟨zs, rfl, hzl, hzs⟩
        dsimp only [tNil]
        refine ssS h5 (by omega) fun H6 l6 nz e6 h6 sy ly => ?_
        have e36 := (e4.trans e5).trans e6
        have e06 := e3.trans e36
        have hD6 := e36 _ _ hD3
        refine ⟨_, rfl, Dd, _, rfl, dput hD6 (by omega), ?_⟩
        generalize hq7 : upd H6 Dd _ = H7
        have e07 : Ex H H7 := by rw [← hq7]; exact Ex.mut e06 nDd
        have hD7 : H7 Dd = some (.dK (putK kv (Sum.inr "names") (.ref l6))) := by rw [← hq7, upd_same]
        have h7 : H7 l6 = some (.lst (nz.map V.str)) := by rw [← hq7]; exact (LEx.dk hD6).l _ _ h6
        have kl7 := length_putK kv (Sum.inr "names") (.ref l6)
        have nzm : ∀ z ∈ nz, isNm z = true := fun z hz => hw.nn _ (hzs z ((sy.me z).mp hz))
        -- patterns
        refine ⟨_, rfl, b, 4, rfl, hb.ex e07, by decide, by decide, fun H8 r2 r20 r21 e8 => ?_⟩
        refine ⟨_, _, rfl, rfl, wide_div (by decide) (b := 30) (by omega) (by decide) (by decide), ?_⟩
        have rd0 : 0 ≤ r2 / 2 := by omega
        have rd1 : r2 / 2 ≤ 1 := by omega
        refine ⟨r2 / 2, rfl, by omega, by omega, ?_⟩
        refine lcG (walk_range (lo := 0) (n := (r2 / 2).toNat)) (by omega) trivial (fun _ _ _ _ => trivial) yFn_ex (fun i ys H' => ∃ ds : List PyData, DaAll H' ys ds ∧ ds.length = i ∧ ∀ d ∈ ds, patD d = true ∧ okP d) (fun _ _ _ _ e ⟨ds, h1, h2, h3⟩ => ⟨ds, kys_tex e ds (kyds.mpr fun d hd => (pat_isT (h3 d hd).1).1) h1, h2, h3⟩) ⟨[], .nil, rfl, fun d hd => by cases hd⟩ ?_ ?_
        · rintro i x H9 H10 ys hi e9 ⟨rfl, rfl⟩ ⟨ds, hA, hl, hds⟩ N N0 kN kN0
          have e010 := (e07.trans e8).trans e9
          refine ⟨rfl, _, rfl, _, rfl, dw, .ref pt, rfl, .inl ⟨kvw, Sum.inr "things", .inl (e010 _ _ hdw), rfl, hkt.symm⟩, ?_⟩
          refine ⟨b, pt, ts, rfl, hb.ex e010, e010 _ _ hpt, (fun e => by rw [e] at ht2; exact absurd ht2 (by decide)), by omega, fun H11 vp a e11 ha hR ha1 ha2 => ?_⟩
          have dpat := pat_of hw hR ha1 ha2
          refine kN _ _ e11 ⟨ds ++ [atD a], (DaAll.ex e11 _ hA).app (.cons ha.da .nil), by rw [List.length_append, hl]; rfl, fun d hd => ?_⟩
          rcases List.mem_append.mp hd with hd | hd
          · exact hds d hd
          · rw [List.mem_singleton.mp hd]
            exact dpat
        · rintro l9 H9 ys n9 e9 h9 _ ⟨ds, hA, hdl, hds⟩
          dsimp only [tNil]
          refine ssT h9 hA (pat_tt fun d hd => (hds d hd).1) (by omega) fun H10 l10 vs es e10 h10 hA10 se le => ?_
          have e710 := (e8.trans e9).trans e10
          have hD10 := e710 _ _ hD7
          have esm : ∀ d ∈ es, patD d = true ∧ okP d := fun d hd => hds d ((se.me d).mp hd)
          refine ⟨_, rfl, Dd, _, rfl, dput hD10 (by omega), ?_⟩
          generalize hq11 : upd H10 Dd _ = H11
          have e011 : Ex H H11 := by rw [← hq11]; exact Ex.mut (e07.trans e710) nDd
          have hD11 : H11 Dd = some (.dK (putK (putK kv (Sum.inr "names") (.ref l6)) (Sum.inr "patterns") (.ref l10))) := by rw [← hq11, upd_same]
          have l1011 : LEx H10 H11 := by rw [← hq11]; exact LEx.dk hD10
          have h11 : NmsL H11 (.ref l6) nz := ⟨l6, rfl, l1011.l _ _ (e710 _ _ h7)⟩
          have p11 : RowsL H11 (.ref l10) es := RowsL.lex l1011 (fun d hd => (pat_isT (esm d hd).1).1) ⟨l10, vs, rfl, h10, hA10⟩
          have kl11 := length_putK (putK kv (Sum.inr "names") (.ref l6)) (Sum.inr "patterns") (.ref l10)
          generalize hkv2 : putK (putK kv (Sum.inr "names") (.ref l6)) (Sum.inr "patterns") (.ref l10) = kv2 at hD11 kl11
          have W2 : ∀ h, isHm h → valV kv2 (Sum.inr h) = some (.str (wf h)) ∧ isWd (wf h) = true := fun h hh => by
            rw [← hkv2, val_put, if_neg (hm_nm hh).2, val_put, if_neg (hm_nm hh).1]
            exact hW h hh
          have N2 : valV kv2 (Sum.inr "names") = some (.ref l6) := by rw [← hkv2, val_put, if_neg (by decide +kernel), val_put, if_pos rfl]
          have P2 : valV kv2 (Sum.inr "patterns") = some (.ref l10) := by rw [← hkv2, val_put, if_pos rfl]
          refine ⟨_, rfl, b, 3, rfl, hb.ex e011, by decide, by decide, fun H12 few f0 f1 e12 => ?_⟩
          refine .inr (.inl ⟨by show 5 ≤ sizeLine; decide, fun x13 n13 => ⟨x13, rfl, ⟨_, st_of upd_same⟩, ?_⟩⟩)
          generalize hq13 : upd H12 x13 _ = H13
          obtain ⟨e13, h13⟩ := gen1 hq13 n13
          have e1113 := e12.trans e13
          refine frG (walk_tup (xs := so5.map V.str)) (fun i σ H' => ∃ (kv : List (Key × V)) (rf : Str → List PyData) (x7 : Option V), σ = [some (.ref b), some (.ref dw), some (.ref p), some (.ref Dd), x4, none, some (.int few), x7, none] ∧ Ex H H' ∧ H' x13 = some (.tup (so5.map V.str)) ∧ H' Dd = some (.dK kv) ∧ kv.length ≤ i + 4 ∧ (∀ h, isHm h → valV kv (Sum.inr h) = some (.str (wf h)) ∧ isWd (wf h) = true) ∧ valV kv (Sum.inr "names") = some (.ref l6) ∧ NmsL H' (.ref l6) nz ∧ valV kv (Sum.inr "patterns") = some (.ref l10) ∧ RowsL H' (.ref l10) es ∧
            ∀ s ∈ so5.take i, ∃ v, valV kv (Sum.inr s) = some v ∧ RowsL H' v (rf s) ∧ (∀ d ∈ rf s, norD d = true ∧ okP d) ∧ (rf s).Nodup ∧ (rf s).length ≤ 6)
            ⟨kv2, fun _ => [], _, rfl, e011.trans e1113, h13, e1113 _ _ hD11, by omega, W2, N2, h11.ex e1113, P2, p11.ex e1113, fun s hs => by cases hs⟩ (fun _ _ _ _ ⟨_, _, _, _, _, h, _⟩ => st_of h) ?_ ?_
          · rintro i x σ H14 H14' hi ⟨kv3, rf, x7, rfl, e14, hx13, hD14, kl14, W3, N3, n3, P3, p3, R3⟩ ⟨rfl, hx⟩
            obtain ⟨so, hso, rfl⟩ := str_at hx
            have hso' : so ∈ sorts5 := so5_mem.mp (List.mem_of_getElem? hso)
            have hi5 : i < 5 := hi
            refine .inl ⟨_, rfl, p, bd, bk, va, us, ub, rfl, e14 _ _ hp, e14 _ _ hd, e14 _ _ hk, by omega, by omega, fun H15 vpr e15 hrow => ?_⟩
            obtain ⟨l, xs, rfl, hl, hA⟩ := hrow
            have hxl := hA.len
            have pl : (prD us.length ub.length).length ≤ 6 := by
              unfold prD
              rw [List.length_append, List.length_map, List.length_map, List.length_range, List.length_range]
              omega
            have pok : ∀ d ∈ prD us.length ub.length, norD d = true ∧ okP d := fun d hd => prD_ok (by omega) (by omega) hd
            refine ⟨l, rfl, ⟨_, sq_of hl⟩, ?_⟩
            refine lcG (walk_list (xs := xs)) (by omega) (sq_of hl) (fun _ _ e h => ex_l e h) yAt_ex (fun j ys H' => ∃ ds : List PyData, DaAll H' ys ds ∧ ds.Sublist ((prD us.length ub.length).take j)) (fun _ _ _ _ e ⟨ds, h1, h2⟩ => ⟨ds, nor_tex e h1 fun d hd => (pok d (List.mem_of_mem_take (h2.subset hd))).1, h2⟩) ⟨[], .nil, List.nil_sublist _⟩ ?_ ?_
            · rintro j u H16 H17 ys hj e16 ⟨rfl, hu⟩ ⟨ds, hD, hsub⟩ N N0 kN kN0
              obtain ⟨g, hg, hat⟩ := (DaAll.ex e16 _ hA).at hu
              refine ⟨rfl, _, rfl, b, 3, rfl, hb.ex ((e14.trans e15).trans e16), by decide, by decide, fun H18 r3 r30 r31 e18 => ⟨_, rfl, r3, few, rfl, rfl, _, rfl, ite2 (fun _ => ⟨u, rfl, kN _ _ e18 ⟨ds ++ [g], (DaAll.ex e18 _ hD).app (.cons (Da.ex e18 _ hat) .nil), ?_⟩⟩) (fun _ => kN0 _ e18 ⟨ds, DaAll.ex e18 _ hD, ?_⟩)⟩⟩
              · rw [tk hg]
                exact hsub.append (List.Sublist.refl _)
              · rw [tk hg]
                exact hsub.trans (List.sublist_append_left _ _)
            · rintro l16 H16 ys n16 e16 h16 _ ⟨ds, hDs, hsub⟩
              rw [hxl, List.take_length] at hsub
              have e1416 := e15.trans e16
              have hD16 := e1416 _ _ hD14
              have lx := (LEx.of e1416).trans (LEx.dk (o := .dK (putK kv3 (Sum.inr so) (.ref l16))) hD16)
              have lx2 := LEx.dk (o := .dK (putK kv3 (Sum.inr so) (.ref l16))) hD16
              have dok : ∀ d ∈ ds, norD d = true ∧ okP d := fun d hd => pok d (hsub.subset hd)
              have new : RowsL (upd H16 Dd (.dK (putK kv3 (Sum.inr so) (.ref l16)))) (.ref l16) ds := RowsL.lex lx2 (fun d hd => (nor_isT (dok d hd).1).1) ⟨l16, ys, rfl, h16, hDs⟩
              have lds : ds.length ≤ 6 := Nat.le_trans hsub.length_le pl
              refine ⟨_, rfl, _, rfl, Dd, _, rfl, dput hD16 (by omega), _, fun y => if y = so then ds else rf y, _, rfl, Ex.mut (e14.trans e1416) nDd, lx.t _ _ hx13, upd_same, Nat.le_trans (length_putK _ _ _) (by omega), fun h hh => ?_, ?_, n3.lex lx, ?_, p3.lex lx fun d hd => (pat_isT (esm d hd).1).1, (all_take hso _).mpr ⟨fun s hs => ?_, ?_⟩⟩
              · rw [val_put, if_neg (hm_ne hh hso')]
                exact W3 h hh
              · rw [val_put, if_neg (so_nm hso').1.symm]
                exact N3
              · rw [val_put, if_neg (so_nm hso').2.symm]
                exact P3
              · dsimp only
                by_cases e : s = so
                · rw [if_pos e]
                  exact ⟨_, by rw [val_put, if_pos e], new, dok, (prD_nd _ _).sublist hsub, lds⟩
                · rw [if_neg e]
                  obtain ⟨v, k1, k2, k3, k4⟩ := R3 s hs
                  exact ⟨v, by rw [val_put, if_neg e]; exact k1, k2.lex lx fun d hd => (nor_isT (k3 d hd).1).1, k3, k4⟩
              · dsimp only
                rw [if_pos rfl]
                exact ⟨_, by rw [val_put, if_pos rfl], new, dok, (prD_nd _ _).sublist hsub, lds⟩
          · rintro σ H14 ⟨kv3, rf, x7, rfl, e14, hx13, hD14, kl14, W3, N3, n3, P3, p3, R3⟩
            have R3 : ∀ s ∈ sorts5, _ := fun s hs => R3 s (by
              rw [show (so5.map V.str).length = so5.length from by rw [List.length_map], List.take_length]
              exact so5_mem.mpr hs)
            refine ⟨_, rfl, q H14 Dd ⟨wf, nz, es, rf⟩ e14 nDd ⟨kv3, hD14, fun h hh => (W3 h hh).1, ⟨_, N3, n3⟩, ⟨_, P3, p3⟩, fun s hs => ?_, kl14⟩ ⟨⟨fun h hh => (W3 h hh).2, nzm, by show nz.length ≤ 60; omega, esm, by show es.length ≤ 30; omega, fun s hs => ?_, fun s hs => ?_, fun s hs => ?_⟩, by show nz.length ≤ 6; omega, by show es.length ≤ 6; omega, fun s hs => ?_⟩⟩
            · obtain ⟨v, k1, k2, _⟩ := R3 s hs
              exact ⟨v, k1, k2⟩
            · obtain ⟨v, k1, k2, k3, _⟩ := R3 s hs
              exact k3
            · obtain ⟨v, k1, k2, k3, k4, _⟩ := R3 s hs
              exact k4
            · obtain ⟨v, k1, k2, k3, k4, k5⟩ := R3 s hs
              exact Nat.le_trans k5 (by decide)
            · obtain ⟨v, k1, k2, k3, k4, k5⟩ := R3 s hs
              exact k5
end
end Own

namespace Own
open PySem PySem.Spec PyProof.Rows L2 Evl
abbrev s_Wrong___init__ : Stmt := inClass (top 14) 0
theorem sc_Wrong___init__ : FnScope ["self", "place"] ["self", "place"] (defScope s_Wrong___init__) := ⟨rfl, rfl, rfl, by decide +kernel, rfl, by decide +kernel, by decide +kernel⟩
/-- an own error's __init__ that keeps its argument -/
def spFI (C : Addr) (fl : Str) : Sp := fun vs H Q _ => ∃ (a : Addr) (v : V), vs = [.ref a, v] ∧ H a = some (exo a C none) ∧ ∀ dx, H dx = none → dx ≠ a → Q .non (upd (upd H dx (exd dx [(fl, v)])) a (exo a C (some dx)))
structure ErrF (P : Program) (w : World) (K : PySem.W.Frag) (mg : Str → Option Value) (base : Heap) (nm fl : Str) (C : Addr) : Prop where
  at_ : mg nm = some (.ref C)
  T : OexC K C
  ex : ∃ (fi : Addr) (fd : FuncData), PySem.W.findIn K (.ref C) "__init__" = some (some (.ref fi)) ∧ PySem.W.typeIn K (.ref fi) = some (.type "function") ∧ FnOk P w K mg base CX0 1 fi fd ["self", fl] (spFI C fl) ∧ Binds K fd ["self", fl] []
section
variable {P : Program} {w : World} {K : PySem.W.Frag} {mg : Str → Option Value} {base : Heap} {C f : Addr} {fd : FuncData}
theorem ok_i_Wrong (T : OexC K C) (hno : PySem.W.findIn K (.ref C) "place" = some none) (F : Fun K "__init__" "Wrong.__init__" s_Wrong___init__ f fd) : FnOk P w K mg base CX0 1 f fd ["self", "place"] (spFI C "place") := by
  refine F.ok sc_Wrong___init__ (fun vs H Q E h => ?_) (fun cdv A outer s H vs Q E hr h => ⟨_, pss_one (ps_ost (pv 0) (pv 1)), ?_⟩)
  · obtain ⟨a, v, rfl, _⟩ := h
    rfl
  · obtain ⟨a, v, rfl, ha, q⟩ := h
    exact ⟨_, rfl, _, rfl, a, C, rfl, T, hno, .inl ⟨ha, fun dx n1 n2 => q dx n1 n2⟩⟩
end
def tRF (C : Addr) (fl : Str) (Wx : WX) (ta : TA) : TS := fun _ σ H => tMkO C (spFI C fl) [] ta σ H fun cls d H' => Wx cls d σ H'
theorem ps_raiseF {X : Cx} {nm fl : Str} {C : Addr} {Wx : WX} {j : Nat} {e : Expr} {ta : TA} {p pos pos2 : Pos} (hc : X.calm = true) (c : ErrF X.prog X.w X.K X.mg X.base nm fl C) (hr : Room j X.A) (hj : 2 ≤ j) (tk : L2N.Takes X Wx) (hg : Gl X nm) (ha : PA X [e] ta) (hdb : (nm == ("__debug__" : Str)) = false := by decide)
    (he : starEach (e :: []) X.env = (false, eval e X.env) :: starEach [] X.env := by rfl) (hpl : (backTo pos (starEach [] X.env)).any (·.1) = false := by rfl) :
    PS X (.Raise (some (.Call (.Name nm p) [e] [] pos)) none pos2) (tRF C fl Wx ta) := by
  obtain ⟨fi, fd, iC, tI, F1, b⟩ := c.ex
  exact L2N.ps_raise hc tk (pmk_oexN c.T iC tI F1 (hr.mono hj) b pass0 hg c.at_ ha hdb he hpl)
theorem mkF {C a : Addr} {fl : Str} {v : V} {H1 : Hp} {K2 : VK} (k : ∀ dx, H1 dx = none → dx ≠ a → K2 .non (upd (upd (upd H1 a (exo a C none)) dx (exd dx [(fl, v)])) a (exo a C (some dx)))) :
    spFI C fl (.ref a :: ([v] ++ [])) (upd H1 a (exo a C none)) K2 (fun _ _ _ => False) := ⟨a, v, rfl, upd_same, fun dx h ne => k dx (by rw [upd_ne ne] at h; exact h) ne⟩
theorem exF {a dx : Addr} {H1 : Hp} {o1 o2 o3 o4 : HO} (ha : H1 a = none) (hd : H1 dx = none) : Ex H1 (upd (del (upd (upd (upd H1 a o1) dx o2) a o3) a) dx o4) := fun b o h => by
  have n1 : b ≠ a := fun e => by rw [e, ha] at h; cases h
  have n2 : b ≠ dx := fun e => by rw [e, hd] at h; cases h
  rw [upd_ne n2, del_ne n1, upd_ne n1, upd_ne n2, upd_ne n1]
  exact h
end Own

namespace Own
open PySem PySem.Spec PyProof.Rows L2 Evl
abbrev s_Licence___init__ : Stmt := inClass (top 26) 0
theorem sc_Licence___init__ : FnScope ["self", "goal", "book", "names", "patterns", "out", "call", "turn", "part", "more", "place", "word", "numbers"] ["self", "goal", "book", "names", "patterns", "out", "call", "turn", "part", "more"] (defScope s_Licence___init__) := ⟨rfl, rfl, rfl, by decide +kernel, rfl, by decide +kernel, by decide +kernel⟩
/-! ### what is bad -/
def okPart (i : Nat) (d : PyData) : Bool := if i < 2 then wordD d else if i = 2 then partsD nmD d else if i = 3 then partsD patD d else nosD d
/-- such parts may be looked at -/
def okB (i : Nat) (d : PyData) : Prop := (i < 2 → okD 40 16000000 d) ∧ (2 ≤ i → okV d)
structure BadAt (ds : List PyData) (i : Nat) : Prop where
  at_ : ∃ d, ds[i]? = some d ∧ okPart i d = false
  lt : ∀ j d, j < i → ds[j]? = some d → okPart j d = true
/-- such parts make a licence -/
structure Mak (ds : List PyData) : Prop where
  good : ∀ j d, ds[j]? = some d → okPart j d = true
  n : ∃ zs : List Str, ds[2]? = some (.list (zs.map PyData.str)) ∧ zs.length ≤ 4000
  p : ∃ ps, ds[3]? = some (.list ps) ∧ ps.length ≤ 30
  r : ∀ j, 4 ≤ j → j < 9 → ∃ rs, ds[j]? = some (.list rs) ∧ rs.length ≤ 60
mutual
theorem Da.exY {H H' : Hp} {y C d0 : Addr} {fs : List (Str × V)} (hy : H y = some (.ins C d0 fs)) (e : ExB y H H') : ∀ (d : PyData) {v : V}, Da H v d → Da H' v d
  | .none, _, h => by cases h; exact .non
  | .bool _, _, h => by cases h; exact .bl _
  | .int _, _, h => by cases h; exact .int _
  | .str _, _, h => by cases h; exact .str _
  | .list ds, _, h => by
    cases h with
    | lst h1 h2 => exact .lst (e _ _ (fun z => by rw [z, hy] at h1; cases h1) h1) (DaAll.exY hy e ds h2)
  | .tuple ds, _, h => by
    cases h with
    | tup h1 h2 => exact .tup (e _ _ (fun z => by rw [z, hy] at h1; cases h1) h1) (DaAll.exY hy e ds h2)
  | .dict _, _, h => by
    cases h with
    | dct h1 h2 => exact .dct (e _ _ (fun z => by rw [z, hy] at h1; cases h1) h1) h2
theorem DaAll.exY {H H' : Hp} {y C d0 : Addr} {fs : List (Str × V)} (hy : H y = some (.ins C d0 fs)) (e : ExB y H H') : ∀ (ds : List PyData) {vs : List V}, DaAll H vs ds → DaAll H' vs ds
  | [], _, h => by cases h; exact .nil
  | d :: ds, _, h => by
    cases h with
    | cons h1 h2 => exact .cons (Da.exY hy e d h1) (DaAll.exY hy e ds h2)
end
theorem strs_inv {H : Hp} {v : V} {zs : List Str} (h : Da H v (.list (zs.map PyData.str))) : ∃ l, v = .ref l ∧ H l = some (.lst (zs.map V.str)) := by
  obtain ⟨p, xs, rfl, hp, hA⟩ := h.lst_inv
  refine ⟨p, rfl, ?_⟩
  have e : ∀ {zs : List Str} {xs : List V}, DaAll H xs (zs.map PyData.str) → xs = zs.map V.str := by
    intro zs
    induction zs with
    | nil => intro xs h; cases h; rfl
    | cons z zs ih =>
      intro xs h
      cases h with
      | cons h1 h2 => cases h1; rw [ih h2]; rfl
  rw [hp, e hA]
theorem dis_nd {ds : List PyData} (h : dis ds = true) : ds.Nodup := by
  have h := of_decide_eq_true h
  rw [List.Nodup, List.pairwise_map] at h
  exact h.imp fun k e => k (by rw [e])
section
variable {P : Program} {w : World} {K : PySem.W.Frag} {mg : Str → Option Value} {base : Heap} {rel hom wrd srt : Addr}
def spLX (C CW : Addr) : Sp := fun vs H Q E => ∃ (y d : Addr) (v0 v1 v2 v3 v4 v5 v6 v7 v8 : V) (ds : List PyData), vs = [.ref y, v0, v1, v2, v3, v4, v5, v6, v7, v8] ∧ H y = some (.ins C d []) ∧ DaAll H [v0, v1, v2, v3, v4, v5, v6, v7, v8] ds ∧ (∀ i d, ds[i]? = some d → okB i d) ∧
  ((∃ i : Nat, BadAt ds i ∧ ∀ H' dd, Ex H H' → H' dd = some (.xd [("place", .int (i : Int))]) → E (.ref CW) (some dd) H') ∨ (Mak ds ∧ ∀ H' d fs, ExB y H H' → H' y = some (.ins C d fs) → Q .non H'))
theorem ok_linx {C CW : Addr} (S : ClsL K C) {fi : Addr} {fdi : FuncData} (T : Txt0 mg) (TZ : TxtZ mg) (T_enumerate : mg "enumerate" = none) (c_Wrong : ErrF P w K mg base "Wrong" "place" CW) (c_is_word : CalG P w K mg base 1 "is_word" (spIs wordD)) (c_are_names : CalG P w K mg base 2 "are_names" (spIs5 (partsD nmD))) (c_are_patterns : CalG P w K mg base 3 "are_patterns" (spIs5 (partsD patD))) (c_are_numbers_of_rows : CalG P w K mg base 3 "are_numbers_of_rows" (spIs5 nosD)) (c_without_doubles : CalG P w K mg base 1 "without_doubles" spWdS)
    (F : Fun K "__init__" "Licence.__init__" s_Licence___init__ fi fdi) : FnN P w K mg base 4 fi fdi ["self", "goal", "book", "names", "patterns", "out", "call", "turn", "part", "more"] (spLX C CW) := by
  refine fn_mkN F sc_Licence___init__ (fun vs H Q E h => ?_) (fun cdv A outer s H vs Q E hr hG h => ?_)
  · obtain ⟨y, d, v0, v1, v2, v3, v4, v5, v6, v7, v8, ds, rfl, _⟩ := h
    rfl
  · obtain ⟨y, d, v0, v1, v2, v3, v4, v5, v6, v7, v8, ds, rfl, hy, hA, hok, h⟩ := h
    refine ⟨_, (pss_cons (ps_forO (ps_for (passes_of rfl) rfl (pi_enumA (by rfl) T_enumerate (pa_cons (pe_tup (pa_cons (pv 1) (pa_cons (pv 2) pa_nil))) pa_nil)) (pg_tup rfl (pgs_cons (pg_name (i := 10) sc_Licence___init__.nd rfl (Or.inl rfl)) (pgs_cons (pg_name (i := 11) sc_Licence___init__.nd rfl (Or.inl rfl)) pgs_nil)))
        (pss_one (ps_if (pt_not (pt_val (pe_cG c_is_word hr hG (by decide) rfl (pa_cons (pv 11) pa_nil)))) (pss_one (ps_raiseF rfl c_Wrong hr (by decide) (L2N.takes_of rfl rfl rfl rfl) rfl (pa_cons (pv 10) pa_nil))) pss_nil))))
      (pss_cons (ps_if (pt_not (pt_val (pe_cG c_are_names hr hG (by decide) rfl (pa_cons (pv 3) pa_nil)))) (pss_one (ps_raiseF rfl c_Wrong hr (by decide) (L2N.takes_of rfl rfl rfl rfl) rfl (pa_cons pe_int pa_nil))) pss_nil)
      (pss_cons (ps_if (pt_not (pt_val (pe_cG c_are_patterns hr hG (by decide) rfl (pa_cons (pv 4) pa_nil)))) (pss_one (ps_raiseF rfl c_Wrong hr (by decide) (L2N.takes_of rfl rfl rfl rfl) rfl (pa_cons pe_int pa_nil))) pss_nil)
      (pss_cons (ps_forO (ps_for (passes_of rfl) rfl (pi_enumA (by rfl) T_enumerate (pa_cons (pe_tup (pa_cons (pv 5) (pa_cons (pv 6) (pa_cons (pv 7) (pa_cons (pv 8) (pa_cons (pv 9) pa_nil)))))) pa_nil)) (pg_tup rfl (pgs_cons (pg_name (i := 10) sc_Licence___init__.nd rfl (Or.inl rfl)) (pgs_cons (pg_name (i := 12) sc_Licence___init__.nd rfl (Or.inl rfl)) pgs_nil)))
        (pss_one (ps_if (pt_not (pt_val (pe_cG c_are_numbers_of_rows hr hG (by decide) rfl (pa_cons (pv 12) pa_nil)))) (pss_one (ps_raiseF rfl c_Wrong hr (by decide) (L2N.takes_of rfl rfl rfl rfl) rfl (pa_cons (pe_op opAdd pe_int (pv 10)) pa_nil))) pss_nil))))
      (pss_cons (ps_fld (pv 0) (pe_disp (pps_cons pe_str (pv 1) (pps_cons pe_str (pv 2) pps_nil)) (by rfl) (by rfl) (fun z => by cases z) (by decide)) (by rfl))
      (pss_cons (ps_fld (pv 0) (pe_cG c_without_doubles hr hG (by decide) rfl (pa_cons (pv 3) pa_nil)) (by rfl))
      (pss_cons (ps_fld (pv 0) (pe_cG c_without_doubles hr hG (by decide) rfl (pa_cons (pv 4) pa_nil)) (by rfl))
      (pss_one (ps_fld (pv 0) (pe_disp (pps_cons pe_str (pe_callB (cr_sortQr hr) (by rfl) TZ.sorted (by decide +kernel) (pa_cons (pv 6) pa_nil)) (pps_cons pe_str (pe_callB (cr_sortQr hr) (by rfl) TZ.sorted (by decide +kernel) (pa_cons (pv 9) pa_nil)) (pps_cons pe_str (pe_callB (cr_sortQr hr) (by rfl) TZ.sorted (by decide +kernel) (pa_cons (pv 5) pa_nil)) (pps_cons pe_str (pe_callB (cr_sortQr hr) (by rfl) TZ.sorted (by decide +kernel) (pa_cons (pv 8) pa_nil)) (pps_cons pe_str (pe_callB (cr_sortQr hr) (by rfl) TZ.sorted (by decide +kernel) (pa_cons (pv 7) pa_nil)) pps_nil))))) (by rfl) (by rfl) (fun z => by cases z) (by decide)) (by rfl)))))))))), ?_⟩
    have at_ : ∀ {j : Nat} {v : V}, [v0, v1, v2, v3, v4, v5, v6, v7, v8][j]? = some v → ∃ d, ds[j]? = some d ∧ Da H v d ∧ okB j d := fun {j v} e => by
      obtain ⟨d, h1, h2⟩ := hA.at e
      exact ⟨d, h1, h2, hok j d h1⟩
    have qb : ∀ {i : Nat} {g : PyData}, ds[i]? = some g → okPart i g = false → (∀ j d, j < i → ds[j]? = some d → okPart j d = true) → ∀ H' dd, Ex H H' → H' dd = some (.xd [("place", .int (i : Int))]) → E (.ref CW) (some dd) H' := fun {i g} hg hb hlt => by
      rcases h with ⟨n, hn, qE⟩ | ⟨hm, _⟩
      · have en : n = i := by
          obtain ⟨d, h1, h2⟩ := hn.at_
          rcases Nat.lt_trichotomy n i with h | h | h
          · exact absurd (hlt n d h h1) (by rw [h2]; decide)
          · exact h
          · exact absurd (hn.lt i g h hg) (by rw [hb]; decide)
        subst en
        exact qE
      · exact absurd (hm.good i g hg) (by rw [hb]; decide)
    have next : ∀ {i : Nat} {g : PyData}, (∀ j d, j < i → ds[j]? = some d → okPart j d = true) → ds[i]? = some g → okPart i g = true → ∀ j d, j < i + 1 → ds[j]? = some d → okPart j d = true := fun {i g} hlt hg hb j d hj hd => by
      by_cases e : j = i
      · subst e
        rw [hg] at hd
        cases hd
        exact hb
      · exact hlt j d (by omega) hd
    refine ⟨_, rfl, _, rfl, by show 2 ≤ sizeLine; decide, fun t1 n1 => ?_⟩
    generalize hq1 : upd H t1 _ = H1
    obtain ⟨e1, h1⟩ := gen1 hq1 n1
    refine .inr ⟨t1, _, rfl, st_of h1, ?_⟩
    refine frG (walk_enumT (xs := [v0, v1])) (fun i σ H' => ∃ x10 x11 : Option V, σ = [some (.ref y), some v0, some v1, some v2, some v3, some v4, some v5, some v6, some v7, some v8, x10, x11, none] ∧ Ex H1 H' ∧ ∀ j d, j < i → ds[j]? = some d → okPart j d = true) ⟨_, _, rfl, Ex.refl _, fun j d hj => absurd hj (Nat.not_lt_zero _)⟩ (fun _ _ _ _ ⟨_, _, _, e, _⟩ => st_of (e _ _ h1)) ?_ ?_
    · rintro i x σ H2 H2' hi ⟨x1, x2, rfl, e2, hlt⟩ ⟨tp, u, w', rfl, htp, rfl, hu, hw⟩
      cases hu
      have hi : i < 2 := hi
      have e3 := e2.trans (Ex.new (o := .tup [V.int ((i : Nat) : Int), w']) htp)
      obtain ⟨g, hg1, hg2, hg3⟩ : ∃ g, ds[i]? = some g ∧ Da H w' g ∧ okB i g := at_ (by
        match i, hi, hw with
        | 0, _, hw => exact hw
        | 1, _, hw => exact hw)
      refine ⟨tp, _, rfl, st_of upd_same, rfl, _, _, rfl, _, _, rfl, rfl, ?_⟩
      refine ⟨_, rfl, w', g, rfl, Da.ex (e1.trans e3) _ hg2, hg3.1 hi, fun H3 e4 => ⟨_, rfl, ?_⟩⟩
      have hp : okPart i g = wordD g := by unfold okPart; rw [if_pos hi]
      cases hb : wordD g with
      | true => exact iteF ⟨_, _, rfl, e3.trans e4, next hlt hg1 (hp.trans hb)⟩
      | false =>
        refine iteT ⟨_, rfl, by show 1 ≤ 1000; decide, fun a0 ha0 => mkF fun dx n1 n2 => ⟨rfl, dx, _, upd_same, by rw [upd_ne n2, upd_same], n1, ?_⟩⟩
        exact qb hg1 (hp.trans hb) hlt _ dx (((e1.trans e3).trans e4).trans (exF ha0 n1)) upd_same
    · rintro σ H2 ⟨x1, x2, rfl, e2, hlt⟩
      have hlt : ∀ j d, j < 2 → ds[j]? = some d → okPart j d = true := hlt
      have e02 := e1.trans e2
      obtain ⟨g2, hg2, da2, ok2⟩ := at_ (j := 2) (v := v2) rfl
      obtain ⟨g3, hg3, da3, ok3⟩ := at_ (j := 3) (v := v3) rfl
      refine ⟨_, rfl, v2, g2, rfl, Da.ex e02 _ da2, ok2.2 (by decide), fun H3 e3 => ⟨_, rfl, ?_⟩⟩
      have e03 := e02.trans e3
      cases hb2 : partsD nmD g2 with
      | false =>
        refine iteT ⟨by show 1 ≤ 1000; decide, fun a0 ha0 => mkF fun dx n1 n2 => ⟨rfl, dx, _, upd_same, by rw [upd_ne n2, upd_same], n1, ?_⟩⟩
        exact qb hg2 hb2 hlt _ dx (e03.trans (exF ha0 n1)) upd_same
      | true =>
      have hlt := next hlt hg2 (show okPart 2 g2 = true from hb2)
      refine iteF ⟨_, rfl, v3, g3, rfl, Da.ex e03 _ da3, ok3.2 (by decide), fun H4 e4 => ⟨_, rfl, ?_⟩⟩
      have e04 := e03.trans e4
      cases hb3 : partsD patD g3 with
      | false =>
        refine iteT ⟨by show 1 ≤ 1000; decide, fun a0 ha0 => mkF fun dx n1 n2 => ⟨rfl, dx, _, upd_same, by rw [upd_ne n2, upd_same], n1, ?_⟩⟩
        exact qb hg3 hb3 hlt _ dx (e04.trans (exF ha0 n1)) upd_same
      | true =>
      have hlt := next hlt hg3 (show okPart 3 g3 = true from hb3)
      refine iteF ⟨_, rfl, _, rfl, _, rfl, _, rfl, _, rfl, by show 5 ≤ sizeLine; decide, fun t5 n5 => ?_⟩
      generalize hq5 : upd H4 t5 _ = H5
      obtain ⟨e5, h5⟩ := gen1 hq5 n5
      have e05 := e04.trans e5
      refine .inr ⟨t5, _, rfl, st_of h5, ?_⟩
      refine frG (walk_enumT (xs := [v4, v5, v6, v7, v8])) (fun i σ H' => ∃ x10 x11 x12 : Option V, σ = [some (.ref y), some v0, some v1, some v2, some v3, some v4, some v5, some v6, some v7, some v8, x10, x11, x12] ∧ Ex H5 H' ∧ ∀ j d, j < 4 + i → ds[j]? = some d → okPart j d = true) ⟨_, _, _, rfl, Ex.refl _, hlt⟩ (fun _ _ _ _ ⟨_, _, _, _, e, _⟩ => st_of (e _ _ h5)) ?_ ?_
      · rintro i x σ H6 H6' hi ⟨x1, x2, x3, rfl, e6, hlt⟩ ⟨tp, u, w', rfl, htp, rfl, hu, hw⟩
        cases hu
        have hi : i < 5 := hi
        have e7 := e6.trans (Ex.new (o := .tup [V.int ((i : Nat) : Int), w']) htp)
        obtain ⟨g, hg1, hg2, hg3⟩ : ∃ g, ds[4 + i]? = some g ∧ Da H w' g ∧ okB (4 + i) g := at_ (by
          match i, hi, hw with
          | 0, _, hw => exact hw
          | 1, _, hw => exact hw
          | 2, _, hw => exact hw
          | 3, _, hw => exact hw
          | 4, _, hw => exact hw)
        refine ⟨tp, _, rfl, st_of upd_same, rfl, _, _, rfl, _, _, rfl, rfl, ?_⟩
        refine ⟨_, rfl, w', g, rfl, Da.ex (e05.trans e7) _ hg2, hg3.2 (by omega), fun H8 e8 => ⟨_, rfl, ?_⟩⟩
        have e08 := (e05.trans e7).trans e8
        have hp : okPart (4 + i) g = nosD g := by unfold okPart; rw [if_neg (by omega), if_neg (by omega), if_neg (by omega)]
        cases hb : nosD g with
        | true => exact iteF ⟨_, _, _, rfl, e7.trans e8, next hlt hg1 (hp.trans hb)⟩
        | false =>
          refine iteT ⟨_, rfl, .inl ⟨4, (i : Int), rfl, rfl, ?_⟩⟩
          refine ⟨by show 1 ≤ 1000; decide, fun a0 ha0 => mkF fun dx n1 n2 => ⟨rfl, dx, _, upd_same, by rw [upd_ne n2, upd_same], n1, ?_⟩⟩
          refine qb hg1 (hp.trans hb) hlt _ dx (e08.trans (exF ha0 n1)) ?_
          rw [upd_same, show (((4 + i : Nat)) : Int) = 4 + (i : Int) by omega]
      · rintro σ H6 ⟨x1, x2, x3, rfl, e6, hlt⟩
        have hlt : ∀ j d, j < 9 → ds[j]? = some d → okPart j d = true := hlt
        have hl9 : ds.length = 9 := hA.len.symm
        obtain ⟨hm, q⟩ : Mak ds ∧ ∀ H' d fs, ExB y H H' → H' y = some (.ins C d fs) → Q .non H' := by
          rcases h with ⟨n, hn, _⟩ | h
          · obtain ⟨d, h1, h2⟩ := hn.at_
            obtain ⟨h3, _⟩ := List.getElem?_eq_some_iff.mp h1
            exact absurd (hlt n d (by omega) h1) (by rw [h2]; decide)
          · exact h
        obtain ⟨zs, hzs, lz⟩ := hm.n
        obtain ⟨ps, hps, lp⟩ := hm.p
        rw [hg2] at hzs
        rw [hg3] at hps
        cases hzs
        cases hps
        obtain ⟨ln, rfl, hln⟩ := strs_inv da2
        obtain ⟨lp', up, rfl, hlp, hAp⟩ := da3.lst_inv
        have rw_ : ∀ {j : Nat} {v : V}, 4 ≤ j → j < 9 → [V.ref y, v0, v1, .ref ln, .ref lp', v4, v5, v6, v7, v8][j + 1]? = some v → ∃ rs, ds[j]? = some (.list rs) ∧ rs.length ≤ 60 ∧ RowsL H v rs ∧ (∀ d ∈ rs, norD d = true) ∧ rs.Nodup := fun {j v} h4 h9 e => by
          obtain ⟨rs, k1, k2⟩ := hm.r j h4 h9
          obtain ⟨g, k3, k4, _⟩ := at_ (j := j) (v := v) e
          rw [k1] at k3
          cases k3
          obtain ⟨l, xs, rfl, k5, k6⟩ := k4.lst_inv
          have k7 := hm.good j _ k1
          unfold okPart at k7
          rw [if_neg (by omega), if_neg (by omega), if_neg (by omega)] at k7
          have k7 : (rs.all norD && dis rs) = true := k7
          rw [Bool.and_eq_true] at k7
          exact ⟨rs, k1, k2, ⟨l, xs, rfl, k5, k6⟩, List.all_eq_true.mp k7.1, dis_nd k7.2⟩
        obtain ⟨r4, _, l4, ro, n4, d4⟩ := rw_ (j := 4) (by decide) (by decide) rfl
        obtain ⟨r5, _, l5, rc, n5', d5⟩ := rw_ (j := 5) (by decide) (by decide) rfl
        obtain ⟨r6, _, l6, rt, n6, d6⟩ := rw_ (j := 6) (by decide) (by decide) rfl
        obtain ⟨r7, _, l7, ra, n7, d7⟩ := rw_ (j := 7) (by decide) (by decide) rfl
        obtain ⟨r8, _, l8, rm, n8, d8⟩ := rw_ (j := 8) (by decide) (by decide) rfl
        have e06 := e05.trans e6
        have hy6 := e06 _ _ hy
        intro pw nw
        generalize hq7 : upd H6 pw _ = H7
        obtain ⟨e7, h7⟩ := gen1 hq7 nw
        refine ⟨_, rfl, _, rfl, h7, [(Sum.inr "goal", v0), (Sum.inr "book", v1)], rfl, by show 2 ≤ 15; decide, ?_⟩
        have e8 : Ex H6 (upd H7 pw (.dK (mergeK [] [((Sum.inr "goal" : Key), v0), (Sum.inr "book", v1)]))) := Ex.mut e7 nw
        generalize upd H7 pw _ = H8 at e8 ⊢
        have e08 := e06.trans e8
        have hy8 := e08 _ _ hy
        refine ⟨_, rfl, y, C, d, _, rfl, hy8, S.cl, S.n1, by decide, ?_⟩
        generalize hq9 : upd H8 y _ = H9
        have hy9 : H9 y = some (.ins C d [("words_told", .ref pw)]) := by rw [← hq9, upd_same]; rfl
        have x9 : ExB y H H9 := by rw [← hq9]; exact ExB.set (fun a o _ h => e08 a o h)
        have ln_y : ln ≠ y := fun z => by rw [z, hy] at hln; cases hln
        have lp_y : lp' ≠ y := fun z => by rw [z, hy] at hlp; cases hlp
        refine ⟨_, rfl, ln, rfl, .inl ⟨zs, x9 _ _ ln_y hln, lz, fun H10 l10 ys e10 n10 h10 sy ly => ?_⟩⟩
        refine ⟨_, rfl, y, C, d, _, rfl, e10 _ _ hy9, S.cl, S.n2, by show 1 < 1000; decide, ?_⟩
        generalize hq11 : upd H10 y _ = H11
        have hy11 : H11 y = some (.ins C d [("words_told", .ref pw), ("barred_names", .ref l10)]) := by rw [← hq11, upd_same]; rfl
        have x11 : ExB y H H11 := by rw [← hq11]; exact ExB.set (fun a o n h => e10 a o (x9 a o n h))
        have pall : ∀ d ∈ ps, patD d = true := List.all_eq_true.mp hb3
        refine ⟨_, rfl, lp', rfl, .inr ⟨up, ps, x11 _ _ lp_y hlp, DaAll.exY hy x11 _ hAp, pat_tt pall, by omega, fun H12 l12 vs12 es e12 n12 h12 hA12 sp12 lp12 => ?_⟩⟩
        refine ⟨_, rfl, y, C, d, _, rfl, e12 _ _ hy11, S.cl, S.n3, by show 2 < 1000; decide, ?_⟩
        generalize hq13 : upd H12 y _ = H13
        have hy13 : H13 y = some (.ins C d [("words_told", .ref pw), ("barred_names", .ref l10), ("barred_patterns", .ref l12)]) := by rw [← hq13, upd_same]; rfl
        have x13 : ExB y H H13 := by rw [← hq13]; exact ExB.set (fun a o n h => e12 a o (x11 a o n h))
        have hs : ∀ {v : V} {rs : List PyData} {H' : Hp} {Z : VK}, RowsL H v rs → (∀ d ∈ rs, norD d = true) → rs.Nodup → rs.length ≤ 60 → Ex H13 H' → (∀ H2 p vs es, Ex H' H2 → H2 p = some (.lst vs) → DaAll H2 vs es → SrtT rs es → es.length = rs.length → Z (.ref p) H2) → rSortQ K [v] H' Z := fun {v rs H' Z} hr hn nd hl e k => by
          obtain ⟨l, xs, rfl, k1, k2⟩ := hr
          have ne : l ≠ y := fun z => by rw [z, hy] at k1; cases k1
          exact srtQ ⟨l, xs, rfl, e _ _ (x13 _ _ ne k1), DaAll.ex e _ (DaAll.exY hy x13 _ k2)⟩ hn nd hl k
        intro pr nr
        generalize hq14 : upd H13 pr _ = H14
        obtain ⟨e14, h14⟩ := gen1 hq14 nr
        refine ⟨_, rfl, ?_⟩
        dsimp only [tNil]
        refine hs rc n5' d5 l5 e14 (fun H15 l15 v15 r15 e15 k15 a15 s15 c15 => ?_)
        have E15 := e14.trans e15
        refine ⟨_, rfl, ?_⟩
        dsimp only [tNil]
        refine hs rm n8 d8 l8 E15 (fun H16 l16 v16 r16 e16 k16 a16 s16 c16 => ?_)
        have E16 := E15.trans e16
        refine ⟨_, rfl, ?_⟩
        dsimp only [tNil]
        refine hs ro n4 d4 l4 E16 (fun H17 l17 v17 r17 e17 k17 a17 s17 c17 => ?_)
        have E17 := E16.trans e17
        refine ⟨_, rfl, ?_⟩
        dsimp only [tNil]
        refine hs ra n7 d7 l7 E17 (fun H18 l18 v18 r18 e18 k18 a18 s18 c18 => ?_)
        have E18 := E17.trans e18
        refine ⟨_, rfl, ?_⟩
        dsimp only [tNil]
        refine hs rt n6 d6 l6 E18 (fun H19 l19 v19 r19 e19 k19 a19 s19 c19 => ?_)
        have E19 := E18.trans e19
        have e1419 := (((e15.trans e16).trans e17).trans e18).trans e19
        refine ⟨e1419 _ _ h14, [(Sum.inr "call", .ref l15), (Sum.inr "more", .ref l16), (Sum.inr "out", .ref l17), (Sum.inr "part", .ref l18), (Sum.inr "turn", .ref l19)], rfl, by show 5 ≤ 15; decide, ?_⟩
        have m20 : Ex H13 (upd H19 pr (.dK (mergeK [] [((Sum.inr "call" : Key), V.ref l15), (Sum.inr "more", .ref l16), (Sum.inr "out", .ref l17), (Sum.inr "part", .ref l18), (Sum.inr "turn", .ref l19)]))) := Ex.mut E19 nr
        generalize upd H19 pr _ = H20 at m20 ⊢
        have hy20 := m20 _ _ hy13
        refine ⟨_, rfl, y, C, d, _, rfl, hy20, S.cl, S.n4, by show 3 < 1000; decide, ?_⟩
        generalize hq21 : upd H20 y _ = H21
        have hy21 : H21 y = some (.ins C d [("words_told", .ref pw), ("barred_names", .ref l10), ("barred_patterns", .ref l12), ("rows_told", .ref pr)]) := by rw [← hq21, upd_same]; rfl
        have x21 : ExB y H H21 := by rw [← hq21]; exact ExB.set (fun a o n h => m20 a o (x13 a o n h))
        exact q H21 d _ x21 hy21
end
end Own

namespace Own
open PySem PySem.Spec PyProof.Rows L2 Evl
abbrev s_l_made_licence : Stmt := top 42
theorem sc_l_made_licence : FnScope ["_law_tells", "_law_one", "_law_two", "_law_three", "_law_four", "_law_five", "_law_six"] ["_law_tells"] (defScope s_l_made_licence) := ⟨rfl, rfl, rfl, by decide +kernel, rfl, by decide +kernel, by decide +kernel⟩
abbrev s_l_made : Stmt := top 43
theorem sc_l_made : FnScope ["_law_few", "_law_words"] ["_law_few"] (defScope s_l_made) := ⟨rfl, rfl, rfl, by decide +kernel, rfl, by decide +kernel, by decide +kernel⟩
open L2H
abbrev s_l_heard : Stmt := top 44
theorem sc_l_heard : FnScope ["_law_few", "e"] ["_law_few"] (defScope s_l_heard) := ⟨rfl, rfl, rfl, by decide +kernel, rfl, by decide +kernel, by decide +kernel⟩
abbrev s_l_deep : Stmt := top 45
theorem sc_l_deep : FnScope ["_law_many", "_law_found", "_law_k"] ["_law_many"] (defScope s_l_deep) := ⟨rfl, rfl, rfl, by decide +kernel, rfl, by decide +kernel, by decide +kernel⟩
theorem BadAt.one {ds : List PyData} {i j : Nat} (h : BadAt ds i) (k : BadAt ds j) : i = j := by
  obtain ⟨d, h1, h2⟩ := h.at_
  obtain ⟨e, k1, k2⟩ := k.at_
  rcases Nat.lt_trichotomy i j with q | q | q
  · exact absurd (k.lt i d q h1) (by rw [h2]; decide)
  · exact q
  · exact absurd (h.lt j e q k1) (by rw [k2]; decide)
structure ClsI (K : PySem.W.Frag) (C : Addr) : Prop where
  ha : PySem.W.findIn K (.ref C) "__class__" = some (some (.builtin "object.__class__"))
  hn : PySem.W.specialIn K (.builtin "object.__class__") "__get__" = some (some (.builtin "getset_descriptor.__get__"))
  htk : PySem.W.takesIn K (.builtin "object.__class__") = some true
  hm : PySem.W.mroIn K C (.type "object") = some true
structure Er55 (K : PySem.W.Frag) (mg : Str → Option Value) (CW CB PE_ : Addr) : Prop where
  gW : mg "Wrong" = some (.ref CW)
  gB : mg "BadEdit" = some (.ref CB)
  gP : mg "PickError" = some (.ref PE_)
  xc : ExcC K CW
  no : PySem.W.findIn K (.ref CW) "place" = some none
  kW : PySem.W.kitOne K (.ref CW) (.ref CW) = some true
  kB : PySem.W.kitOne K (.ref CW) (.ref CB) = some false
  em : PySem.W.exmOne K (.ref CW) (.ref PE_) = some true
theorem pss_late {X : Cx} {body : List Stmt} {t : TS} (h : ∀ D σ H, t D σ H → ∃ t', PSs X body t' ∧ t' D σ H) : PSs X body t := by
  refine ⟨fun pk s σ H D I q => ?_⟩
  obtain ⟨t', ht, q'⟩ := h D σ H q
  exact ht.run pk s σ H D I q'
theorem takes0N {X : Cx} : L2N.Takes X (fun _ _ _ _ => False) := fun _ _ ⟨_, _, _, _, _, _, _, _, _, _, _, _, _, _, _, _, w⟩ => w.elim
def wds9 : List Str := ["goal", "book", "names", "patterns", "out", "call", "turn", "part", "more"]
/-- nine parts, and what comes of them -/
def Made (C CW : Addr) (H : Hp) (xs : List V) (ds : List PyData) (Q : VK) (E : XK) : Prop := xs.length = 9 ∧ DaAll H xs ds ∧ (∀ i d, ds[i]? = some d → okB i d) ∧
  ((∃ i : Nat, BadAt ds i ∧ ∀ H' dd, Ex H H' → H' dd = some (.xd [("place", .int (i : Int))]) → E (.ref CW) (some dd) H') ∨ (Mak ds ∧ ∀ H' r d fs, Ex H H' → H' r = some (.ins C d fs) → Q (.ref r) H'))
section
variable {P : Program} {w : World} {K : PySem.W.Frag} {mg : Str → Option Value} {base : Heap} {rel hom wrd srt : Addr}
def spMlx (C CW : Addr) : Sp := fun vs H Q E => ∃ (D : Addr) (xs : List V) (ds : List PyData), vs = [.ref D] ∧ H D = some (.dK (zkvV wds9 xs)) ∧ Made C CW H xs ds Q E
theorem ok_mlx {C CW : Addr} (T : Txt0 mg) (MKK : MakKN P w K mg base 4 "Licence" C ["goal", "book", "names", "patterns", "out", "call", "turn", "part", "more"] (spLX C CW)) (D : Df K mg "_law_made_licence" s_l_made_licence) : CalN P w K mg base 6 "_law_made_licence" (spMlx C CW) := by
  refine cal_mkN D sc_l_made_licence (fun _ _ _ _ _ _ us hl => match us, hl with | [_], _ => rfl) (fun vs H Q E h => ?_) (fun f cdv A outer s H vs Q E hr hG h => ?_)
  · obtain ⟨D, xs, ds, rfl, _⟩ := h
    rfl
  · obtain ⟨D, xs, ds, rfl, hD, hl, hA, hok, h⟩ := h
    refine ⟨_, (pss_cons (ps_par3 (i := 1) (j := 2) (l := 3) rfl sc_l_made_licence.nd rfl rfl rfl (by decide) (by decide) (by decide) rfl rfl rfl (pa_cons (pe_dget (hu_of hr) (pv 0) pe_str (fun _ _ => rfl)) (pa_cons (pe_dget (hu_of hr) (pv 0) pe_str (fun _ _ => rfl)) (pa_cons (pe_dget (hu_of hr) (pv 0) pe_str (fun _ _ => rfl)) pa_nil))) (by first | rfl | with_unfolding_all rfl | kernel_rfl))
      (pss_cons (ps_par3 (i := 4) (j := 5) (l := 6) rfl sc_l_made_licence.nd rfl rfl rfl (by decide) (by decide) (by decide) rfl rfl rfl (pa_cons (pe_dget (hu_of hr) (pv 0) pe_str (fun _ _ => rfl)) (pa_cons (pe_dget (hu_of hr) (pv 0) pe_str (fun _ _ => rfl)) (pa_cons (pe_dget (hu_of hr) (pv 0) pe_str (fun _ _ => rfl)) pa_nil))) (by first | rfl | with_unfolding_all rfl | kernel_rfl))
      (pss_one (ps_ret (pe_mkKN MKK hr hG (by decide) (fun σ => L2N.passAt (L2N.takes_of rfl rfl rfl rfl) σ) rfl (pk_cons (pv 1) (pk_cons (pv 2) (pk_cons (pv 3) (pk_cons (pv 4) (pk_cons (pv 5) (pk_cons (pv 6) (pk_cons (pe_dget (hu_of hr) (pv 0) pe_str (fun _ _ => rfl)) (pk_cons (pe_dget (hu_of hr) (pv 0) pe_str (fun _ _ => rfl)) (pk_cons (pe_dget (hu_of hr) (pv 0) pe_str (fun _ _ => rfl)) pk_nil)))))))))))))), ?_⟩
    match xs, hl, hD, hA with
    | [v0, v1, v2, v3, v4, v5, v6, v7, v8], _, hD, hA =>
    have gt : ∀ {z : Str} {v : V}, valV (zkvV wds9 [v0, v1, v2, v3, v4, v5, v6, v7, v8]) (Sum.inr z) = some v → DGet H D (.str z) (some v) := fun {z v} e => .inl ⟨_, Sum.inr z, .inl hD, rfl, e.symm⟩
    have g0 := gt (z := "goal") (v := v0) (by kernel_rfl)
    have g1 := gt (z := "book") (v := v1) (by kernel_rfl)
    have g2 := gt (z := "names") (v := v2) (by kernel_rfl)
    have g3 := gt (z := "patterns") (v := v3) (by kernel_rfl)
    have g4 := gt (z := "out") (v := v4) (by kernel_rfl)
    have g5 := gt (z := "call") (v := v5) (by kernel_rfl)
    have g6 := gt (z := "turn") (v := v6) (by kernel_rfl)
    have g7 := gt (z := "part") (v := v7) (by kernel_rfl)
    have g8 := gt (z := "more") (v := v8) (by kernel_rfl)
    refine ⟨_, rfl, D, _, rfl, g0, _, rfl, D, _, rfl, g1, _, rfl, D, _, rfl, g2, _, _, _, rfl, ?_⟩
    refine ⟨_, rfl, D, _, rfl, g3, _, rfl, D, _, rfl, g4, _, rfl, D, _, rfl, g5, _, _, _, rfl, ?_⟩
    refine ⟨_, rfl, _, rfl, _, rfl, _, rfl, _, rfl, _, rfl, _, rfl, D, _, rfl, g6, _, rfl, D, _, rfl, g7, _, rfl, D, _, rfl, g8, rfl, fun yy dd ny nd ne => ?_⟩
    have e67 : Ex H (upd (upd H dd (.own yy)) yy (.ins C dd [])) := (Ex.new nd).trans (Ex.new (by rw [upd_ne ne.symm]; exact ny))
    refine ⟨yy, dd, v0, v1, v2, v3, v4, v5, v6, v7, v8, ds, rfl, upd_same, DaAll.ex e67 _ hA, hok, ?_⟩
    rcases h with ⟨i, hi, qE⟩ | ⟨hm, q⟩
    · exact .inl ⟨i, hi, fun H' d' e hd => qE H' d' (e67.trans e) hd⟩
    · refine .inr ⟨hm, fun H' d' fs x hy => ⟨rfl, q H' _ d' fs (fun a o h => x a o (fun z => ?_) (e67 a o h)) hy⟩⟩
      rw [z] at h
      rw [h] at ny
      cases ny
def spMx (C CW : Addr) : Sp := fun vs H Q E => ∃ (L : Addr) (xs : List V) (ds : List PyData), vs = [.ref L] ∧ H L = some (.lst xs) ∧ Made C CW H xs ds Q E
theorem ok_mx {C CW : Addr} (T : Txt0 mg) (c_l_made_licence : CalN P w K mg base 6 "_law_made_licence" (spMlx C CW)) (D : Df K mg "_law_made" s_l_made) : CalN P w K mg base 7 "_law_made" (spMx C CW) := by
  refine cal_mkN D sc_l_made (fun _ _ _ _ _ _ us hl => match us, hl with | [_], _ => rfl) (fun vs H Q E h => ?_) (fun f cdv A outer s H vs Q E hr hG h => ?_)
  · obtain ⟨L, xs, ds, rfl, _⟩ := h
    rfl
  · obtain ⟨L, xs, ds, rfl, hL, hl, hA, hok, h⟩ := h
    refine ⟨_, (pss_cons (ps_set (i := 1) sc_l_made.nd rfl (Or.inl rfl) (pe_lst (pa_cons pe_str (pa_cons pe_str (pa_cons pe_str (pa_cons pe_str (pa_cons pe_str (pa_cons pe_str (pa_cons pe_str (pa_cons pe_str (pa_cons pe_str pa_nil)))))))))))
      (pss_one (ps_ret (pe_cN c_l_made_licence hr hG (by decide) (fun σ => L2N.passAt (L2N.takes_of rfl rfl rfl rfl) σ) rfl (pa_cons (pe_dictZipV (by rfl) T.dict (by rfl) T.zip (pa_cons (pv 1) (pa_cons (pv 0) pa_nil))) pa_nil))))), ?_⟩
    refine ⟨by show 9 ≤ sizeLine; decide, fun l1 n1 => ?_⟩
    generalize hq1 : upd H l1 _ = H1
    obtain ⟨e1, h1⟩ := gen1 hq1 n1
    refine ⟨_, rfl, _, rfl, l1, L, wds9, xs, rfl, sq_of h1, sq_of (e1 _ _ hL), by decide +kernel, by rw [hl]; rfl, by decide, fun D nD => ?_⟩
    have e2 := e1.trans (Ex.new (o := .dK (zkvV wds9 xs)) nD)
    refine ⟨D, xs, ds, rfl, upd_same, hl, DaAll.ex e2 _ hA, hok, ?_⟩
    rcases h with ⟨i, hi, qE⟩ | ⟨hm, q⟩
    · exact .inl ⟨i, hi, fun H' d' e hd => qE H' d' (e2.trans e) hd⟩
    · exact .inr ⟨hm, fun H' r d' fs e hr => q H' r d' fs (e2.trans e) hr⟩
def spHd (CW : Addr) : Sp := fun vs H Q _ => ∃ (L : Addr) (xs : List V) (ds : List PyData), vs = [.ref L] ∧ H L = some (.lst xs) ∧ xs.length = 9 ∧ DaAll H xs ds ∧ (∀ i d, ds[i]? = some d → okB i d) ∧
  ((∃ i : Nat, BadAt ds i ∧ ∀ H' t, Ex H H' → H' t = some (.tup [.str "wrong", .int (i : Int)]) → Q (.ref t) H') ∨ (Mak ds ∧ ∀ H', Ex H H' → Q (.bl true) H'))
theorem ok_heard {C CW CB PE_ : Addr} (T : Txt0 mg) (TI : TxtI K mg rel) (CL : Cls K C) (SI : ClsI K C) (hC : mg "Licence" = some (.ref C)) (ES : Er55 K mg CW CB PE_) (c_l_made : CalN P w K mg base 7 "_law_made" (spMx C CW)) (D : Df K mg "_law_heard" s_l_heard) : CalG P w K mg base 8 "_law_heard" (spHd CW) := by
  refine cal_mk D sc_l_heard (fun _ _ _ _ _ _ us hl => match us, hl with | [_], _ => rfl) (fun vs H Q E h => ?_) (fun f cdv A outer s H vs Q E hr hG h => ?_)
  · obtain ⟨L, xs, ds, rfl, _⟩ := h
    rfl
  · obtain ⟨L, xs, ds, rfl, hL, hl, hA, hok, h⟩ := h
    refine ⟨_, (pss_one (L2N.ps_try_as (i := 1) (tb := fun Wx => tRet (tCB (rIsi K) (tCons (tCallS (spMx C CW) (fun σ => WE Wx σ) (tCons (tVar 0) tNil)) (tCons (tC (.ref C)) tNil))))
      (ts := fun a cls d D σ H' => cls = .ref CW ∧ σ = [some (.ref L), some (.ref a)] ∧ D.rt = Q ∧ ∃ (i : Nat) (dd : Addr), d = some dd ∧ H' dd = some (.xd [("place", .int (i : Int))]) ∧ BadAt ds i ∧ Ex H H')
      (Wout := fun _ _ _ _ => False) rfl rfl sc_l_heard.nd rfl rfl ⟨rfl, by decide, Or.inl ES.gP⟩ takes0N
        (fun Wx pn xe tk _ => pss_one (ps_ret (pe_callB call_isi (by rfl) TI.isinstance (by decide +kernel) (pa_cons (pe_cN c_l_made hr hG (by decide) (fun σ => L2N.passAt tk σ) rfl (pa_cons (pv 0) pa_nil)) (pa_cons (pe_glob (v := .ref C) rfl hC rfl) pa_nil)))))
        (fun a oe cls d pn hz hf => pss_late fun D σ H' hR => ?hsuite))), ?hread⟩
    case hsuite =>
      obtain ⟨hcls, rfl, hD, i, dd, rfl, hdd, hb, e⟩ := hR
      have O : ErO (a, oe) CW (some dd) := ⟨hz.1.trans hcls, hz.2.1, hf⟩
      have hob : (a, oe) ∈ (a, oe) :: pn := List.mem_cons_self
      refine ⟨_, pss_one (ps_ret (pe_ifExp (PW.pt (pw_and (pt_val (pe_callB (call_isP ES.xc hob O) (by rfl) TI.isinstance (by decide +kernel) (pa_cons (pv 1) (pa_cons (pe_glob (v := .ref CW) rfl ES.gW rfl) pa_nil)))) (pw_and1 (pt_not (pt_val (pe_callB (call_isP ES.xc hob O) (by rfl) TI.isinstance (by decide +kernel) (pa_cons (pv 1) (pa_cons (pe_glob (v := .ref CB) rfl ES.gB rfl) pa_nil)))))))) (pe_tup (pa_cons pe_str (pa_cons (pe_xfP ES.xc ES.no hob O (pv 1)) pa_nil))) (pe_tup (pa_cons pe_str pa_nil)))), ?_⟩
      have erd : ErD H' (some dd) := .inr ⟨dd, _, rfl, hdd⟩
      refine ⟨_, rfl, erd, .ref CW, .ref CW, true, rfl, fun u r => r, ES.kW, _, rfl, iteT ⟨_, rfl, erd, .ref CB, .ref CB, false, rfl, fun u r => r, ES.kB, _, rfl, ?_⟩⟩
      refine iteT ⟨_, rfl, rfl, rfl, dd, _, _, rfl, hdd, rfl, by show 2 ≤ sizeLine; decide, fun t nt => ?_⟩
      rw [hD]
      rcases h with ⟨j, hj, q⟩ | ⟨hm, _⟩
      · rw [hj.one hb] at q
        exact q _ t (e.trans (Ex.new nt)) upd_same
      · obtain ⟨d, h1, h2⟩ := hb.at_
        exact absurd (hm.good i d h1) (by rw [h2]; decide)
    case hread =>
      refine ⟨_, rfl, L, xs, ds, rfl, hL, hl, hA, hok, ?_⟩
      rcases h with ⟨i, hi, q⟩ | ⟨hm, q⟩
      · refine .inl ⟨i, hi, fun H' dd e hdd => ?_⟩
        exact ⟨true, ES.em, fun _ a na => ⟨rfl, rfl, rfl, i, dd, rfl, hdd, hi, e⟩, fun z => by cases z⟩
      · refine .inr ⟨hm, fun H' r d fs e hr => ?_⟩
        exact ⟨_, .ref C, _, .ref C, true, rfl, .own C, .base (.ins hr CL SI.ha SI.hn SI.htk SI.hm), by unfold PySem.W.kitOne; rw [if_pos (beq_self_eq_true _)], q _ e⟩
def deepD : Nat → PyData | 0 => .list [] | n + 1 => .list [deepD n]
def spDeep : Sp := fun vs H Q _ => ∃ (m : Nat), vs = [.int (m : Int)] ∧ m ≤ 20 ∧ ∀ H' v, Ex H H' → DaA (fun a => H a = none) H' v (deepD m) → Q v H'
theorem ok_deep (T : Txt0 mg) (D : Df K mg "_law_deep" s_l_deep) : CalG P w K mg base 1 "_law_deep" spDeep := by
  refine cal_mk D sc_l_deep (fun _ _ _ _ _ _ us hl => match us, hl with | [_], _ => rfl) (fun vs H Q E h => ?_) (fun f cdv A outer s H vs Q E hr hG h => ?_)
  · obtain ⟨m, rfl, _⟩ := h
    rfl
  · obtain ⟨m, rfl, hm, q⟩ := h
    refine ⟨_, (pss_cons (ps_set (i := 1) sc_l_deep.nd rfl (Or.inl rfl) (pe_lst pa_nil))
      (pss_cons (ps_forO (ps_for PassesOwn.never rfl (pi_range1 rfl T.range (pa_cons (pv 0) pa_nil)) (pg_name (i := 2) sc_l_deep.nd rfl (Or.inl rfl))
        (pss_one (ps_set (i := 1) sc_l_deep.nd rfl (Or.inl rfl) (pe_lst (pa_cons (pv 1) pa_nil))))))
      (pss_one (ps_ret (pv 1))))), ?_⟩
    refine ⟨by show 0 ≤ sizeLine; decide, fun l1 n1 => ?_⟩
    generalize hq1 : upd H l1 _ = H1
    obtain ⟨e1, h1⟩ := gen1 hq1 n1
    refine ⟨_, rfl, (m : Int), rfl, by omega, by omega, ?_⟩
    refine frG (walk_range (lo := 0) (n := (m : Int).toNat)) (fun i σ H' => ∃ (v : V) (x : Option V), σ = [some (.int (m : Int)), some v, x] ∧ Ex H H' ∧ DaA (fun a => H a = none) H' v (deepD i)) ⟨_, _, rfl, e1, .lst n1 h1 .nil⟩ (fun _ _ _ _ _ => trivial) ?_ ?_
    · rintro i x σ H2 H3 hi ⟨v, x, rfl, e2, hv⟩ ⟨rfl, rfl⟩
      refine ⟨_, rfl, by show 1 ≤ sizeLine; decide, fun l2 n2 => ?_⟩
      have e3 := Ex.new (o := .lst [v]) n2
      exact ⟨_, _, rfl, e2.trans e3, .lst (none_of e2 n2) upd_same (.cons (DaA.move (fun a o _ q => e3 a o q) (fun _ z => z) _ hv) .nil)⟩
    · rintro σ H2 ⟨v, x, rfl, e2, hv⟩
      exact ⟨_, rfl, q _ _ e2 hv⟩
end
end Own

namespace Own
open PySem PySem.Spec PyProof.Rows L2 Evl
abbrev s_l_bad_part : Stmt := top 46
theorem sc_l_bad_part : FnScope ["_law_bag_here", "_law_place", "_law_piece", "_law_odd", "_law_few"] ["_law_bag_here", "_law_place", "_law_piece"] (defScope s_l_bad_part) := ⟨rfl, rfl, rfl, by decide +kernel, rfl, by decide +kernel, by decide +kernel⟩
section
variable {A : Addr → Prop} {H0 : Hp} {σ : L2.St} {te : TE} {K : PySem.W.Frag} {b : Addr}
theorem lit_some {P : PyData → Prop} (hb : BagAt H0 b) (h0 : σ[0]? = some (some (.ref b))) (h : Lit A H0 σ te (fun d => ∃ ds, d = .list ds ∧ (∃ x, x ∈ ds) ∧ ds.length ≤ 60000 ∧ ∀ x ∈ ds, P x)) : Lit A H0 σ (tCall (spSome K) [] E0 (tCons (tVar 0) (tCons te tNil))) P :=
  fun H Q e q => ⟨_, h0, h H _ e fun H1 v d e1 p h1 => by
    obtain ⟨ds, rfl, ⟨x0, hx0⟩, hl, hP⟩ := p
    cases h1 with
    | @lst a xs _ a1 a2 a3 =>
      have hxl := (DaAA.da _ a3).len
      refine ⟨b, a, xs, rfl, hb.ex (e.trans e1), .inl (sq_of a2), (fun z => ?_), by omega, fun H2 i x e2 hx => ?_⟩
      · rw [z] at hxl
        have := List.length_pos_of_mem hx0
        rw [← hxl] at this
        exact absurd this (Nat.lt_irrefl _)
      · obtain ⟨d, hd, hda⟩ := a3.at hx
        exact q _ _ d (e1.trans e2) (hP d (List.mem_of_getElem? hd)) (DaA.exA e2 hda)⟩
theorem lit_deep (hA : ∀ a, H0 a = none → A a) : Lit A H0 σ (tCall spDeep [] E0 (tCons (tC (.int 17)) tNil)) (· = deepD 17) := fun H Q e q =>
  ⟨17, rfl, by decide, fun H' v e' h => q H' v _ e' rfl (DaA.move (fun a o _ z => z) (fun a z => hA a (none_of e z)) _ h)⟩
theorem lit_rep {k : Int} {d : PyData} (hA : ∀ a, H0 a = none → A a) (h0 : 0 ≤ k) (h1 : k ≤ 60000) (h : Lit A H0 σ te (· = d)) : Lit A H0 σ (tOp rMul (tLst (tCons te tNil)) (tC (.int k))) (· = .list (List.replicate k.toNat d)) := fun H Q e q =>
  h H _ e fun H1 v d' e1 p1 hv => by
    subst p1
    refine ⟨by show 1 ≤ sizeLine; decide, fun l nl => ?_⟩
    refine .inr ⟨l, k, [v], rfl, rfl, upd_same, by omega, by omega, by show 1 * k.toNat ≤ sizeLine; rw [sizeLine_eq]; omega, fun p np => ?_⟩
    have e2 := Ex.new (o := .lst [v]) nl
    have e3 := e2.trans (Ex.new (o := .lst (List.replicate k.toNat [v]).flatten) np)
    refine q _ _ _ (e1.trans e3) rfl (.lst (hA _ (none_of ((e.trans e1).trans e2) np)) upd_same ?_)
    rw [flat_one]
    have all : ∀ n : Nat, DaAA A (upd (upd H1 l (.lst [v])) p (.lst (List.replicate k.toNat [v]).flatten)) (List.replicate n v) (List.replicate n d') := fun n => by
      induction n with
      | zero => exact .nil
      | succ n ih => exact .cons (DaA.exA e3 hv) ih
    rw [flat_one] at all
    exact all _
theorem lit_asg {P : PyData → Prop} {g : TG} {D : Ends} (h : Lit A H0 σ te P) (k : ∀ H' v d, Ex H0 H' → P d → DaA A H' v d → g v σ H' D.nx) : tAsg te g D σ H0 := h H0 _ (Ex.refl _) k
theorem lit_seq {P : PyData → Prop} {g : TG} {D : Ends} {rest : TS} (h : Lit A H0 σ te P) (k : ∀ H' v d, Ex H0 H' → P d → DaA A H' v d → g v σ H' fun σ2 H2 => rest D σ2 H2) : tSeq (tAsg te g) rest D σ H0 := h H0 _ (Ex.refl _) k
theorem lit_next {D : Ends} (h : D.nx σ H0) : tNext D σ H0 := h
theorem lit_ret {P : PyData → Prop} {D : Ends} (h : Lit A H0 σ te P) (k : ∀ H' v d, Ex H0 H' → P d → DaA A H' v d → D.rt v H') : tRet te D σ H0 := h H0 _ (Ex.refl _) k
end
/-! ### what is bad at which place -/
def bad01 : List PyData := [.none, .int 5, .bool true, .str "", .str "Any", .str "all", .str "nones", .list [.str "any"], .tuple [.str "any"], .dict [], .str "none ", .str "book"]
def odd1 : List PyData := [.none, .int 5, .str "a", .bool true, .dict [], .str "", .list [.list []], .dict [(.str "a", .int 1)], .list [.none], .tuple [.list []], .list [.tuple [.str "goal"]], .list [.tuple [.str "goal", .int 0, .int 0]], .list [.list [.str "goal", .int 0]], .list [.int 5]]
def odd2 : List PyData := [.list (List.replicate 4000 (.int 0)), deepD 17]
def bad2 : List PyData := [.list [.str "A"], .list [.str ""], .list [.str "ninesigns"], .list [.str "a", .tuple [.str "a"]], .list [.str "a b"], .tuple [.str "a", .int 1], .list [.tuple [.str "eq", .str "a", .str "b"]]]
def few3 : List PyData := [.tuple [.str "eq", .str "a"], .tuple [.str "le", .str "a", .str "b"], .tuple [.str "eq", .str "a", .str "B"], .list [.str "eq", .str "a", .str "b"], .tuple [.str "eq", .none, .str ""], .tuple [.str "", .str "", .str "", .str ""]]
def few4 : List PyData := [.tuple [.str "goals", .int 0], .tuple [.str "goal", .int (-1)], .tuple [.str "goal", .bool true], .tuple [.str "goal", .str "0"], .tuple [.int 0, .str "goal"], .tuple [.str "goal", .none], .tuple [.str "book", .list [.int 0]]]
def smallB (d : PyData) : Bool := gD d && (decide (d.depth ≤ 18) && decide (wd d ≤ 6000))
theorem small_ok {d : PyData} (h : smallB d = true) : okD 18 6000 d := by
  unfold smallB at h
  simp only [Bool.and_eq_true, decide_eq_true_eq] at h
  exact ⟨h.1, h.2.1, h.2.2⟩
theorem bad01_tab : (bad01.all fun d => !wordD d && smallB d) = true := by decide +kernel
theorem odd1_tab : (odd1.all fun d => !partsD nmD d && (!partsD patD d && (!nosD d && smallB d))) = true := by decide +kernel
theorem deep_tab : (!partsD nmD (deepD 17) && (!partsD patD (deepD 17) && (!nosD (deepD 17) && smallB (deepD 17)))) = true := by decide +kernel
theorem bad2_tab : (bad2.all fun d => !partsD nmD d && smallB d) = true := by decide +kernel
theorem few3_tab : (few3.all fun d => !patD d && smallB d) = true := by decide +kernel
theorem few4_tab : (few4.all fun d => !norD d && smallB d) = true := by decide +kernel
/-- a part that the law may put at place p -/
structure BadP (p : Nat) (d : PyData) : Prop where
  bad : okPart p d = false
  ok : okB p d
  q : okQ 38 140000 d
theorem BadP.small {p : Nat} {d : PyData} (h : okPart p d = false) (k : okD 38 140000 d) : BadP p d :=
  ⟨h, ⟨fun _ => k.mono (by decide) (by decide), fun _ => okV.of (k.mono (by decide) (by decide))⟩, k.q⟩
theorem part01 {p : Nat} (hp : p < 2) (d : PyData) : okPart p d = wordD d := by unfold okPart; rw [if_pos hp]
theorem part2 (d : PyData) : okPart 2 d = partsD nmD d := rfl
theorem part3 (d : PyData) : okPart 3 d = partsD patD d := rfl
theorem part4 {p : Nat} (hp : 4 ≤ p) (d : PyData) : okPart p d = nosD d := by unfold okPart; rw [if_neg (by omega), if_neg (by omega), if_neg (by omega)]
theorem odd_bad {p : Nat} (hp : 2 ≤ p) {d : PyData} (h : d ∈ odd1 ++ odd2) : BadP p d := by
  have of3 : ∀ {d : PyData}, partsD nmD d = false → partsD patD d = false → nosD d = false → okPart p d = false := fun {d} h1 h2 h3 => by
    by_cases e2 : p = 2
    · subst e2; exact h1
    by_cases e3 : p = 3
    · subst e3; exact h2
    rw [part4 (by omega)]; exact h3
  rcases List.mem_append.mp h with h | h
  · have z := List.all_eq_true.mp odd1_tab d h
    simp only [Bool.and_eq_true, Bool.not_eq_true'] at z
    exact .small (of3 z.1 z.2.1 z.2.2.1) ((small_ok z.2.2.2).mono (by decide) (by decide))
  · simp only [odd2, List.mem_cons, List.not_mem_nil, or_false] at h
    rcases h with rfl | rfl
    · have e : List.replicate 4000 (PyData.int 0) = .int 0 :: List.replicate 3999 (.int 0) := by rw [← List.replicate_succ]
      refine ⟨of3 (by rw [e]; rfl) (by rw [e]; rfl) (by rw [e]; rfl), ⟨fun h => absurd h (by omega), fun _ ds e => ?_⟩, ?_⟩
      · have : ds = List.replicate 4000 (.int 0) := by
          rcases e with e | e
          · injection e with e; exact e.symm
          · cases e
        subst this
        refine ⟨by rw [List.length_replicate]; decide, fun x hx => ?_⟩
        rw [List.eq_of_mem_replicate hx]
        exact ⟨rfl, by decide, by show 1921 ≤ 15000000; decide⟩
      · refine okQ.mono (okQ_list (n := 0) (W := 4) (m := 4000) (fun x hx => ?_) (by rw [List.length_replicate]; decide)) (by decide) (by decide)
        rw [List.eq_of_mem_replicate hx]
        exact ⟨rfl, Nat.le_refl _, Nat.le_refl _⟩
    · have z := deep_tab
      simp only [Bool.and_eq_true, Bool.not_eq_true'] at z
      exact .small (of3 z.1 z.2.1 z.2.2.1) ((small_ok z.2.2.2).mono (by decide) (by decide))
theorem lit_listof {A : Addr → Prop} {H0 : Hp} {σ : L2.St} {K : PySem.W.Frag} {i : Nat} {v : V} {gs : List PyData} (hA : ∀ a, H0 a = none → A a) (hi : σ[i]? = some (some v)) (h : DaA A H0 v (.list gs)) :
    Lit A H0 σ (tCB (fun xs H Q => ∃ p ys, xs = [V.ref p] ∧ (SqL K H p ys ∨ SqT K H p ys) ∧ ∀ l, H l = none → Q (.ref l) (upd H l (.lst ys))) (tCons (tVar i) tNil)) (· = .list gs) := fun H Q e q => by
  cases h with
  | @lst a xs _ a1 a2 a3 =>
    refine ⟨_, hi, a, xs, rfl, .inl (sq_of (e _ _ a2)), fun l nl => ?_⟩
    exact q _ _ _ (Ex.new nl) rfl (.lst (hA _ (none_of e nl)) upd_same (DaAA.exA (e.trans (Ex.new nl)) a3))
theorem Lit.lists {A : Addr → Prop} {H0 : Hp} {σ : L2.St} {te : TE} {ds : List PyData} (h : Lit A H0 σ te (· = .list ds)) : Lit A H0 σ te (fun d => ∃ es, d = .list es ∧ es = ds) := h.mono fun d e => ⟨ds, e, rfl⟩
theorem okD_gs {gs : List PyData} {x : PyData} (hl : gs.length ≤ 60) (hg : ∀ y ∈ gs, okD 2 2100 y) (hx : okD 2 2100 x) {es : List PyData} (he : ∀ y ∈ es, y ∈ gs ∨ y = x) (hle : es.length ≤ 62) : okD 38 140000 (.list es) := by
  refine (okD_list (n := 2) (W := 2100) (m := 62) (fun y hy => ?_) hle).mono (by decide) (by decide)
  rcases he y hy with h | rfl
  · exact hg y h
  · exact hx
theorem parts_app {p : PyData → Bool} {gs : List PyData} {x : PyData} (h : p x = false) : partsD p (.list (gs ++ [x])) = false := by
  show (gs ++ [x]).all p = false
  rw [List.all_append]
  simp [h]
theorem nos_app {gs : List PyData} {x : PyData} (h : norD x = false) : nosD (.list (gs ++ [x])) = false := by
  show ((gs ++ [x]).all norD && _) = false
  rw [List.all_append]
  simp [h]
theorem nos_two {gs : List PyData} {x : PyData} : nosD (.list (x :: (gs ++ [x]))) = false := by
  show (_ && dis (x :: (gs ++ [x]))) = false
  have : dis (x :: (gs ++ [x])) = false := by
    unfold dis
    rw [decide_eq_false]
    intro h
    rw [List.map_cons, List.nodup_cons] at h
    exact h.1 (List.mem_map.mpr ⟨x, by simp, rfl⟩)
  rw [this, Bool.and_false]
theorem few_ok {d : PyData} (l : List PyData) (tab : (l.all fun d => (decide (d.depth ≤ 2) && decide (wd d ≤ 2100) && gD d)) = true) (h : d ∈ l) : okD 2 2100 d := by
  have z := List.all_eq_true.mp tab d h
  simp only [Bool.and_eq_true, decide_eq_true_eq] at z
  exact ⟨z.2, z.1.1, z.1.2⟩
section
variable {P : Program} {w : World} {K : PySem.W.Frag} {mg : Str → Option Value} {base : Heap} {rel hom wrd srt : Addr}
theorem lit_odds {A : Addr → Prop} {H0 : Hp} {σ : L2.St} {te : TE} (hA1 : ∀ a, H0 a = none → A a) (h : Lit A H0 σ te (· = .list odd1)) :
    Lit A H0 σ (tOp (rAdd K) te (tLst (tCons (tOp rMul (tLst (tCons (tC (.int 0)) tNil)) (tC (.int 4000))) (tCons (tCall spDeep [] E0 (tCons (tC (.int 17)) tNil)) tNil)))) (· = .list (odd1 ++ odd2)) := by
  have h4 : (4000 : Int).toNat = 4000 := rfl
  have k1 := lit_rep (A := A) (H0 := H0) (σ := σ) (k := 4000) hA1 (by decide) (by decide) (lit_int (i := 0))
  rw [h4] at k1
  have k2 : Lit A H0 σ (tLst (tCons (tOp rMul (tLst (tCons (tC (.int 0)) tNil)) (tC (.int 4000))) (tCons (tCall spDeep [] E0 (tCons (tC (.int 17)) tNil)) tNil))) (· = .list odd2) := lit_lst hA1 (by show 2 ≤ 60000; decide) (lit_cons k1 (lit_cons (lit_deep hA1) lit_nil))
  refine Lit.mono (lit_add (R := (· = odd1)) (S := (· = odd2)) hA1 (Lit.lists h) (Lit.lists k2) fun ds es h k => by subst h; subst k; show 14 + 2 ≤ 60000; decide) fun d hd => ?_
  obtain ⟨ds, es, rfl, rfl, rfl⟩ := hd
  rfl
def spBad : Sp := fun vs H Q _ => ∃ (b : Addr) (p : Nat) (v : V) (g : PyData) (A : Addr → Prop), vs = [.ref b, .int (p : Int), v] ∧ BagAt H b ∧ p < 9 ∧ (∀ a, H a = none → A a) ∧ DaA A H v g ∧ (3 ≤ p → ∃ gs, g = .list gs ∧ gs.length ≤ 60 ∧ ∀ x ∈ gs, okD 2 2100 x) ∧
  ∀ H' v' d', Ex H H' → DaA A H' v' d' → BadP p d' → Q v' H'
theorem ok_bad (T : Txt0 mg) (D : Df K mg "_law_bad_part" s_l_bad_part) (c_l_some : CalG P w K mg base 2 "_law_some" (spSome K)) (c_l_deep : CalG P w K mg base 1 "_law_deep" spDeep) : CalG P w K mg base 3 "_law_bad_part" spBad := by
  refine cal_mk D sc_l_bad_part (fun _ _ _ _ _ _ us hl => match us, hl with | [_, _, _], _ => rfl) (fun vs H Q E h => ?_) (fun f cdv A outer s H vs Q E hr hG h => ?_)
  · obtain ⟨b, p, v, g, A', rfl, _⟩ := h
    rfl
  · obtain ⟨b, p, v, g, A', rfl, hb, hp, hA0, hv, hg, q⟩ := h
    refine ⟨_, (pss_cons (ps_if (pt_cmpR opLt (pv 1) pe_int (nomark _)) (pss_one (ps_ret (pe_cG c_l_some hr hG (by decide) rfl (pa_cons (pv 0) (pa_cons (pe_lst (pa_cons pe_non (pa_cons pe_int (pa_cons pe_bl (pa_cons pe_str (pa_cons pe_str (pa_cons pe_str (pa_cons pe_str (pa_cons (pe_lst (pa_cons pe_str pa_nil)) (pa_cons (pe_tup (pa_cons pe_str pa_nil)) (pa_cons pe_dnewK (pa_cons pe_str (pa_cons pe_str pa_nil))))))))))))) pa_nil))))) pss_nil)
      (pss_cons (ps_set (i := 3) sc_l_bad_part.nd rfl (Or.inl rfl) (pe_lst (pa_cons pe_non (pa_cons pe_int (pa_cons pe_str (pa_cons pe_bl (pa_cons pe_dnewK (pa_cons pe_str (pa_cons (pe_lst (pa_cons (pe_lst pa_nil) pa_nil)) (pa_cons (pe_disp (pps_cons pe_str pe_int pps_nil) (by rfl) (by rfl) (fun z => by cases z) (by decide)) (pa_cons (pe_lst (pa_cons pe_non pa_nil)) (pa_cons (pe_tup (pa_cons (pe_lst pa_nil) pa_nil)) (pa_cons (pe_lst (pa_cons (pe_tup (pa_cons pe_str pa_nil)) pa_nil)) (pa_cons (pe_lst (pa_cons (pe_tup (pa_cons pe_str (pa_cons pe_int (pa_cons pe_int pa_nil)))) pa_nil)) (pa_cons (pe_lst (pa_cons (pe_lst (pa_cons pe_str (pa_cons pe_int pa_nil))) pa_nil)) (pa_cons (pe_lst (pa_cons pe_int pa_nil)) pa_nil))))))))))))))))
      (pss_cons (ps_set (i := 3) sc_l_bad_part.nd rfl (Or.inl rfl) (pe_op opAdd (pv 3) (pe_lst (pa_cons (pe_op opMul (pe_lst (pa_cons pe_int pa_nil)) pe_int) (pa_cons (pe_cG c_l_deep hr hG (by decide) rfl (pa_cons pe_int pa_nil)) pa_nil)))))
      (pss_cons (ps_if (pt_cmpR (opEq hr) (pv 1) pe_int (nomark _)) (pss_one (ps_ret (pe_cG c_l_some hr hG (by decide) rfl (pa_cons (pv 0) (pa_cons (pe_op opAdd (pv 3) (pe_lst (pa_cons (pe_lst (pa_cons pe_str pa_nil)) (pa_cons (pe_lst (pa_cons pe_str pa_nil)) (pa_cons (pe_lst (pa_cons pe_str pa_nil)) (pa_cons (pe_lst (pa_cons pe_str (pa_cons (pe_tup (pa_cons pe_str pa_nil)) pa_nil))) (pa_cons (pe_lst (pa_cons pe_str pa_nil)) (pa_cons (pe_tup (pa_cons pe_str (pa_cons pe_int pa_nil))) (pa_cons (pe_lst (pa_cons (pe_tup (pa_cons pe_str (pa_cons pe_str (pa_cons pe_str pa_nil)))) pa_nil)) pa_nil))))))))) pa_nil))))) pss_nil)
      (pss_cons (ps_if (pt_cmpR (opEq hr) (pv 1) pe_int (nomark _)) (pss_cons (ps_set (i := 4) sc_l_bad_part.nd rfl (Or.inl rfl) (pe_lst (pa_cons (pe_tup (pa_cons pe_str (pa_cons pe_str pa_nil))) (pa_cons (pe_tup (pa_cons pe_str (pa_cons pe_str (pa_cons pe_str pa_nil)))) (pa_cons (pe_tup (pa_cons pe_str (pa_cons pe_str (pa_cons pe_str pa_nil)))) (pa_cons (pe_lst (pa_cons pe_str (pa_cons pe_str (pa_cons pe_str pa_nil)))) (pa_cons (pe_tup (pa_cons pe_str (pa_cons pe_non (pa_cons pe_str pa_nil)))) (pa_cons (pe_tup (pa_cons pe_str (pa_cons pe_str (pa_cons pe_str (pa_cons pe_str pa_nil))))) pa_nil))))))))
      (pss_one (ps_ret (pe_cG c_l_some hr hG (by decide) rfl (pa_cons (pv 0) (pa_cons (pe_op opAdd (pv 3) (pe_lst (pa_cons (pe_op opAdd (pe_callTy call_list_of (by rfl) T.list (by decide +kernel) (pa_cons (pv 2) pa_nil)) (pe_lst (pa_cons (pe_cG c_l_some hr hG (by decide) rfl (pa_cons (pv 0) (pa_cons (pv 4) pa_nil))) pa_nil))) (pa_cons (pe_lst (pa_cons pe_str (pa_cons pe_str (pa_cons pe_str pa_nil)))) pa_nil)))) pa_nil)))))) pss_nil)
      (pss_cons (ps_set (i := 4) sc_l_bad_part.nd rfl (Or.inl rfl) (pe_lst (pa_cons (pe_tup (pa_cons pe_str (pa_cons pe_int pa_nil))) (pa_cons (pe_tup (pa_cons pe_str (pa_cons (pe_un un_neg pe_int) pa_nil))) (pa_cons (pe_tup (pa_cons pe_str (pa_cons pe_bl pa_nil))) (pa_cons (pe_tup (pa_cons pe_str (pa_cons pe_str pa_nil))) (pa_cons (pe_tup (pa_cons pe_int (pa_cons pe_str pa_nil))) (pa_cons (pe_tup (pa_cons pe_str (pa_cons pe_non pa_nil))) (pa_cons (pe_tup (pa_cons pe_str (pa_cons (pe_lst (pa_cons pe_int pa_nil)) pa_nil))) pa_nil)))))))))
      (pss_one (ps_ret (pe_cG c_l_some hr hG (by decide) rfl (pa_cons (pv 0) (pa_cons (pe_op opAdd (pv 3) (pe_lst (pa_cons (pe_op opAdd (pe_callTy call_list_of (by rfl) T.list (by decide +kernel) (pa_cons (pv 2) pa_nil)) (pe_lst (pa_cons (pe_cG c_l_some hr hG (by decide) rfl (pa_cons (pv 0) (pa_cons (pv 4) pa_nil))) pa_nil))) (pa_cons (pe_op opAdd (pe_op opAdd (pe_lst (pa_cons (pe_tup (pa_cons pe_str (pa_cons pe_int pa_nil))) pa_nil)) (pe_callTy call_list_of (by rfl) T.list (by decide +kernel) (pa_cons (pv 2) pa_nil))) (pe_lst (pa_cons (pe_tup (pa_cons pe_str (pa_cons pe_int pa_nil))) pa_nil))) pa_nil)))) pa_nil))))))))))), ?_⟩
    refine ⟨_, rfl, (p : Int), 2, rfl, rfl, _, rfl, ?_⟩
    by_cases hp2 : p < 2
    · refine ifT (decide_eq_true (by omega)) ?_
      refine lit_ret (A := A') (P := fun d => d ∈ bad01) (lit_some hb rfl (Lit.mono (P := (· = .list bad01)) ?_ fun d e => ⟨_, e, ⟨_, List.mem_cons_self⟩, by decide, fun x hx => hx⟩)) fun H' v' d' e hd h => ?_
      · repeat' first | exact lit_non | exact lit_bl | exact lit_int | exact lit_neg | exact lit_str | exact lit_new hA0 | exact lit_dict1 hA0 | exact lit_nil | refine lit_cons ?_ ?_ | refine lit_lst hA0 (by decide) ?_ | refine lit_tup hA0 (by decide) ?_
      · have z := List.all_eq_true.mp bad01_tab d' hd
        simp only [Bool.and_eq_true, Bool.not_eq_true'] at z
        exact q _ _ _ e h (.small (by rw [part01 hp2]; exact z.1) ((small_ok z.2).mono (by decide) (by decide)))
    · refine ifF (decide_eq_false (by omega)) (lit_next ?_)
      dsimp only
      refine lit_seq (A := A') (P := (· = .list odd1)) ?_ fun H1 v1 d1 e1 p1 h1 => ?_
      · repeat' first | exact lit_non | exact lit_bl | exact lit_int | exact lit_neg | exact lit_str | exact lit_new hA0 | exact lit_dict1 hA0 | exact lit_nil | refine lit_cons ?_ ?_ | refine lit_lst hA0 (by decide) ?_ | refine lit_tup hA0 (by decide) ?_
      subst p1
      dsimp only [gName, List.set]
      have hA1 : ∀ a, H1 a = none → A' a := fun a n => hA0 a (none_of e1 n)
      refine lit_seq (A := A') (P := (· = .list (odd1 ++ odd2))) ?_ fun H2 v2 d2 e2 p2 h2 => ?_
      · exact lit_odds hA1 (lit_var rfl h1)
      subst p2
      dsimp only [gName, List.set]
      have hA2 : ∀ a, H2 a = none → A' a := fun a n => hA1 a (none_of e2 n)
      have e02 := e1.trans e2
      have hb2 := hb.ex e02
      refine ⟨_, rfl, .inl ⟨rfl, _, rfl, ?_⟩⟩
      have dcI : ∀ n : Nat, decide (V.int (p : Int) = V.int (n : Int)) = decide (p = n) := fun n => by
        by_cases e : p = n
        · rw [e]; simp
        · rw [decide_eq_false e, decide_eq_false (fun z => e (by have := V.int.inj z; omega))]
      have vodd : Lit A' H2 [some (.ref b), some (.int (p : Int)), some v, some v2, none] (tVar 3) (· = .list (odd1 ++ odd2)) := lit_var rfl h2
      by_cases e2' : p = 2
      · subst e2'
        refine ifT (decide_eq_true rfl) (lit_ret (A := A') (P := BadP 2) (lit_some hb2 rfl (Lit.mono (lit_add (R := (· = odd1 ++ odd2)) (S := (· = bad2)) hA2 (Lit.lists (lit_var rfl h2)) (Lit.lists (ds := bad2) ?_) fun ds es h k => by subst h; subst k; show 16 + 7 ≤ 60000; decide) fun d hd => ?_)) fun H' v' d' e hd h => q _ _ _ (e02.trans e) h hd)
        · repeat' first | exact lit_non | exact lit_bl | exact lit_int | exact lit_neg | exact lit_str | exact lit_new hA2 | exact lit_dict1 hA2 | exact lit_nil | refine lit_cons ?_ ?_ | refine lit_lst hA2 (by decide) ?_ | refine lit_tup hA2 (by decide) ?_
        · obtain ⟨ds, es, rfl, rfl, rfl⟩ := hd
          refine ⟨_, rfl, ⟨_, List.mem_cons_self⟩, by show 16 + 7 ≤ 60000; decide, fun x hx => ?_⟩
          rcases List.mem_append.mp hx with hx | hx
          · exact odd_bad (by decide) hx
          · have z := List.all_eq_true.mp bad2_tab x hx
            simp only [Bool.and_eq_true, Bool.not_eq_true'] at z
            exact .small z.1 ((small_ok z.2).mono (by decide) (by decide))
      · refine ifF (decide_eq_false fun z => e2' (by have := V.int.inj z; omega)) (lit_next ?_)
        dsimp only
        refine ⟨_, rfl, .inl ⟨rfl, _, rfl, ?_⟩⟩
        obtain ⟨gs, rfl, lgs, ogs⟩ := hg (by omega)
        have hv2 := DaA.exA e02 hv
        by_cases e3' : p = 3
        · subst e3'
          refine ifT (decide_eq_true rfl) (lit_seq (A := A') (P := (· = .list few3)) ?_ fun H3 v3 d3 e3 p3 h3 => ?_)
          · repeat' first | exact lit_non | exact lit_bl | exact lit_int | exact lit_neg | exact lit_str | exact lit_new hA2 | exact lit_dict1 hA2 | exact lit_nil | refine lit_cons ?_ ?_ | refine lit_lst hA2 (by decide) ?_ | refine lit_tup hA2 (by decide) ?_
          subst p3
          dsimp only [gName, List.set]
          have hA3 : ∀ a, H3 a = none → A' a := fun a n => hA2 a (none_of e3 n)
          have e03 := e02.trans e3
          have S1 : Lit A' H3 [some (.ref b), some (.int ((3 : Nat) : Int)), some v, some v2, some v3] (tCall (spSome K) [] E0 (tCons (tVar 0) (tCons (tVar 4) tNil))) (fun x => x ∈ few3) := lit_some (hb.ex e03) rfl (Lit.mono (lit_var rfl h3) fun d e => ⟨_, e, ⟨_, List.mem_cons_self⟩, by decide, fun x hx => hx⟩)
          refine lit_ret (A := A') (P := BadP 3) (lit_some (hb.ex e03) rfl (Lit.mono (lit_add (R := (· = odd1 ++ odd2)) (S := fun es => ∃ x ∈ few3, es = [.list (gs ++ [x]), .list [.str "eq", .str "a", .str "b"]]) hA3 (Lit.lists (lit_var rfl (DaA.exA e3 h2))) (Lit.mono (lit_lstP (R := fun es => ∃ x ∈ few3, es = [.list (gs ++ [x]), .list [.str "eq", .str "a", .str "b"]]) hA3 (fun ds hds => by obtain ⟨x, _, rfl⟩ := hds; show 2 ≤ 60000; decide) (LitA.mono (lit_consP (P := fun d => ∃ x ∈ few3, d = .list (gs ++ [x])) (Lit.mono (lit_add (R := (· = gs)) (S := fun es => ∃ x ∈ few3, es = [x]) hA3 (Lit.lists (lit_listof hA3 rfl (DaA.exA e3 hv2))) (lit_lstP hA3 (fun ds hds => by obtain ⟨x, _, rfl⟩ := hds; show 1 ≤ 60000; decide) (LitA.mono (lit_consP S1 lit_nil) fun ds hds => by obtain ⟨d, es, rfl, k1, rfl⟩ := hds; exact ⟨d, k1, rfl⟩)) fun ds es h k => by subst h; obtain ⟨x, _, rfl⟩ := k; show ds.length + 1 ≤ 60000; omega) fun d hd => ?_) (lit_cons (d := .list [.str "eq", .str "a", .str "b"]) (ds := []) ?_ lit_nil)) fun ds hds => ?_)) fun d hd => hd) fun ds es h k => by subst h; obtain ⟨x, _, rfl⟩ := k; show 16 + 2 ≤ 60000; decide) fun d hd => ?_)) fun H' v' d' e hd h => q _ _ _ (e03.trans e) h hd
          · obtain ⟨ds, es, rfl, rfl, x, hx, rfl⟩ := hd
            exact ⟨x, hx, rfl⟩
          · repeat' first | exact lit_non | exact lit_bl | exact lit_int | exact lit_neg | exact lit_str | exact lit_new hA3 | exact lit_dict1 hA3 | exact lit_nil | refine lit_cons ?_ ?_ | refine lit_lst hA3 (by decide) ?_ | refine lit_tup hA3 (by decide) ?_
          · obtain ⟨d, es, rfl, ⟨x, hx, rfl⟩, rfl⟩ := hds
            exact ⟨x, hx, rfl⟩
          · obtain ⟨ds, es, rfl, rfl, x, hx, rfl⟩ := hd
            refine ⟨_, rfl, ⟨_, List.mem_cons_self⟩, by show 16 + 2 ≤ 60000; decide, fun y hy => ?_⟩
            rcases List.mem_append.mp hy with hy | hy
            · exact odd_bad (by decide) hy
            · have z := List.all_eq_true.mp few3_tab x hx
              simp only [Bool.and_eq_true, Bool.not_eq_true'] at z
              simp only [List.mem_cons, List.not_mem_nil, or_false] at hy
              rcases hy with rfl | rfl
              · exact .small (parts_app z.1) (okD_gs lgs ogs (few_ok few3 (by decide +kernel) hx) (fun y hy => by simpa using hy) (by rw [List.length_append]; show gs.length + 1 ≤ 62; omega))
              · exact .small (by decide +kernel) ((small_ok (by decide +kernel)).mono (by decide) (by decide))
        · refine ifF (decide_eq_false fun z => e3' (by have := V.int.inj z; omega)) (lit_next ?_)
          dsimp only
          refine lit_seq (A := A') (P := (· = .list few4)) ?_ fun H3 v3 d3 e3 p3 h3 => ?_
          · repeat' first | exact lit_non | exact lit_bl | exact lit_int | exact lit_neg | exact lit_str | exact lit_new hA2 | exact lit_dict1 hA2 | exact lit_nil | refine lit_cons ?_ ?_ | refine lit_lst hA2 (by decide) ?_ | refine lit_tup hA2 (by decide) ?_
          subst p3
          dsimp only [gName, List.set]
          have hA3 : ∀ a, H3 a = none → A' a := fun a n => hA2 a (none_of e3 n)
          have e03 := e02.trans e3
          have bk : ∀ {y : PyData}, y = .tuple [.str "book", .int 99] → okD 2 2100 y := fun {y} e => by
            subst e
            exact few_ok [.tuple [.str "book", .int 99]] (by decide +kernel) List.mem_cons_self
          have S1 : Lit A' H3 [some (.ref b), some (.int (p : Int)), some v, some v2, some v3] (tCall (spSome K) [] E0 (tCons (tVar 0) (tCons (tVar 4) tNil))) (fun x => x ∈ few4) := lit_some (hb.ex e03) rfl (Lit.mono (lit_var rfl h3) fun d e => ⟨_, e, ⟨_, List.mem_cons_self⟩, by decide, fun x hx => hx⟩)
          have B1 : Lit A' H3 [some (.ref b), some (.int (p : Int)), some v, some v2, some v3] (tLst (tCons (tTup (tCons (tC (.str "book")) (tCons (tC (.int 99)) tNil))) tNil)) (· = .list [.tuple [.str "book", .int 99]]) := lit_lst hA3 (by decide) (lit_cons (lit_tup hA3 (by decide) (lit_cons lit_str (lit_cons lit_int lit_nil))) lit_nil)
          refine lit_ret (A := A') (P := BadP p) (lit_some (hb.ex e03) rfl (Lit.mono (lit_add (R := (· = odd1 ++ odd2)) (S := fun es => ∃ x ∈ few4, es = [.list (gs ++ [x]), .list (.tuple [.str "book", .int 99] :: (gs ++ [.tuple [.str "book", .int 99]]))]) hA3 (Lit.lists (lit_var rfl (DaA.exA e3 h2))) (Lit.mono (lit_lstP (R := fun es => ∃ x ∈ few4, es = [.list (gs ++ [x]), .list (.tuple [.str "book", .int 99] :: (gs ++ [.tuple [.str "book", .int 99]]))]) hA3 (fun ds hds => by obtain ⟨x, _, rfl⟩ := hds; show 2 ≤ 60000; decide) (LitA.mono (lit_consP (P := fun d => ∃ x ∈ few4, d = .list (gs ++ [x])) (Lit.mono (lit_add (R := (· = gs)) (S := fun es => ∃ x ∈ few4, es = [x]) hA3 (Lit.lists (lit_listof hA3 rfl (DaA.exA e3 hv2))) (lit_lstP hA3 (fun ds hds => by obtain ⟨x, _, rfl⟩ := hds; show 1 ≤ 60000; decide) (LitA.mono (lit_consP S1 lit_nil) fun ds hds => by obtain ⟨d, es, rfl, k1, rfl⟩ := hds; exact ⟨d, k1, rfl⟩)) fun ds es h k => by subst h; obtain ⟨x, _, rfl⟩ := k; show ds.length + 1 ≤ 60000; omega) fun d hd => ?_)
            (lit_consP (P := (· = .list (.tuple [.str "book", .int 99] :: (gs ++ [.tuple [.str "book", .int 99]])))) (Lit.mono (lit_add (R := (· = .tuple [.str "book", .int 99] :: gs)) (S := (· = [.tuple [.str "book", .int 99]])) hA3 (Lit.mono (lit_add (R := (· = [.tuple [.str "book", .int 99]])) (S := (· = gs)) hA3 (Lit.lists B1) (Lit.lists (lit_listof hA3 rfl (DaA.exA e3 hv2))) fun ds es h k => by subst h; subst k; show 1 + es.length ≤ 60000; omega) fun d hd => by obtain ⟨ds, es, rfl, rfl, rfl⟩ := hd; exact ⟨_, rfl, rfl⟩) (Lit.lists B1) fun ds es h k => by subst h; subst k; show gs.length + 1 + 1 ≤ 60000; omega) fun d hd => by obtain ⟨ds, es, rfl, rfl, rfl⟩ := hd; rfl) lit_nil)) fun ds hds => ?_)) fun d hd => hd) fun ds es h k => by subst h; obtain ⟨x, _, rfl⟩ := k; show 16 + 2 ≤ 60000; decide) fun d hd => ?_)) fun H' v' d' e hd h => q _ _ _ (e03.trans e) h hd
          · obtain ⟨ds, es, rfl, rfl, x, hx, rfl⟩ := hd
            exact ⟨x, hx, rfl⟩
          · obtain ⟨d, es, rfl, ⟨x, hx, rfl⟩, d2, es2, rfl, rfl, rfl⟩ := hds
            exact ⟨x, hx, rfl⟩
          · obtain ⟨ds, es, rfl, rfl, x, hx, rfl⟩ := hd
            refine ⟨_, rfl, ⟨_, List.mem_cons_self⟩, by show 16 + 2 ≤ 60000; decide, fun y hy => ?_⟩
            rcases List.mem_append.mp hy with hy | hy
            · exact odd_bad (by omega) hy
            · have z := List.all_eq_true.mp few4_tab x hx
              simp only [Bool.and_eq_true, Bool.not_eq_true'] at z
              simp only [List.mem_cons, List.not_mem_nil, or_false] at hy
              rcases hy with rfl | rfl
              · exact .small (by rw [part4 (by omega)]; exact nos_app z.1) (okD_gs lgs ogs (few_ok few4 (by decide +kernel) hx) (fun y hy => by simpa using hy) (by rw [List.length_append]; show gs.length + 1 ≤ 62; omega))
              · exact .small (by rw [part4 (by omega)]; exact nos_two) (okD_gs lgs ogs (bk rfl) (fun y hy => by
                  simp only [List.mem_cons, List.mem_append, List.not_mem_nil, or_false] at hy
                  rcases hy with h | h | h
                  · exact .inr h
                  · exact .inl h
                  · exact .inr h) (by rw [List.length_cons, List.length_append]; show gs.length + 1 + 1 ≤ 62; omega))
end
end Own

namespace Own
open PySem PySem.Spec PyProof.Rows L2 Evl
/-! ### sets of texts, counted -/
section
variable {X : Cx}
def rSetN (K : PySem.W.Frag) (P : Program) (w : World) : List V → Hp → VK → Prop := fun vs H Q => ∃ (p : Addr) (zs : List Str), vs = [.ref p] ∧ SqL K H p (zs.map V.str) ∧ zs.length ≤ 4000 ∧
  ∀ (a : Addr) (l : List Str), l.length ≤ zs.length → l.Nodup → (∀ z, z ∈ l ↔ z ∈ zs) → H a = none → Q (.ref a) (upd H a (SetXO P w a l))
theorem cr_setN (hc : X.calm = true) : CallR X (.type "set") (rSetN X.K X.prog X.w) := by
  intro pk s τ H vs us Q I r h
  obtain ⟨p, zs, rfl, hp, hl, q⟩ := h
  rw [Vals.ref1 r]
  obtain ⟨its, rv, pl, _⟩ := I.list hp
  refine setX_call zs (I.ok.hd hc) pl.isList (by simpa using rv.strs) (by have : scanBound = 4096 := rfl; omega) fun hp' tk l X2 c2 z2 kk => ?_
  have nd : l.Nodup := by
    obtain ⟨_, _, _, nd, _⟩ := X2
    exact nd
  exact ⟨.ref _, upd H s.heap.objs.size (SetXO X.prog X.w s.heap.objs.size l), I.laid (t' := tk) kk (Nat.le_refl _) (setXO_new X2), rfl, q _ l c2 nd z2 (I.hok.fresh (Nat.le_refl _))⟩
def rLenX (P : Program) (w : World) : List V → Hp → VK → Prop := fun vs H Q => ∃ (a : Addr) (l : List Str), vs = [.ref a] ∧ H a = some (SetXO P w a l) ∧ l.length ≤ 4000 ∧ Q (.int (l.length : Int)) H
theorem cr_lenX : CallR X (.builtin "len") (rLenX X.prog X.w) := by
  intro pk s τ H vs us Q I r h
  obtain ⟨a, l, rfl, ha, hl, q⟩ := h
  have R : SetX X.prog X.w s.heap a l := (I.hok a _ ha).1
  rw [Vals.ref1 r]
  obtain ⟨D, ho, F, _⟩ := R
  have sz := F.sz
  exact call_len_set (es := D.1) (ep := D.2.1) (t := D.2.2) ho ⟨rfl, rfl, rfl⟩ rfl F.fit (by omega) ⟨.int (l.length : Int), H, I.tok _, ⟨_, by rw [sz]⟩, q⟩
end
section
variable {X : Cx} {s : Shared} {H : Hp} {sc : Scope} {ce : Env} {fp : List Addr}
theorem callReprB {k : Nat} (hg : X.A.guards = some []) (hr : Room k X.A) : CallR (X.blk s H sc ce fp) (.builtin "repr") (rRepr X.K) := callRepr hg hr
end
/-! ### a list extended by a tuple -/
section
open PySem.SeqAt
open AutoSeq1 (wpAny_loadPart')
theorem ext_tup (l b : Addr) (xa ya : Array Value) (n k : Nat) (d2 : Option Addr) (s2 : Array (Option Value)) (h0 : ¬(!xa.isEmpty && Builtin.List.listTooLong (xa.size + ya.size)) = true) (h1 : xa.size ≤ sizeLine) (h2 : xa.size + ya.size ≤ sizeLine + 1) :
    Meets (Builtin.«list.extend» ⟨[.ref l, .ref b], []⟩) (fun _ R s => s.heap.get? l = some { cls := .type "list", dict := none, data := .seq xa n, slots := #[] } ∧ s.heap.get? b = some { cls := .type "tuple", dict := d2, data := .seq ya k, slots := s2 } ∧
      R (.ok (.ret Value.none)) { s with heap := s.heap.update l (Obj.mapSeq fun x => x ++ ya), toks := s.toks }) :=
  .of_wp fun pg wd A R s hyp => by
    have t1 := AutoSeq1.sub_tuple_list
    have t2 := AutoSeq1.sub_tuple_tuple
    have t3 := AutoSeq1.sub_list_tuple
    have t4 := AutoSeq1.sub_list_list
    have big : (xa ++ ya).size ≤ sizeLine + 1 := by rw [Array.size_append]; exact h2
    obtain ⟨hp, g, d, tk, os⟩ := s
    obtain ⟨gl, gb, hR⟩ := hyp
    wp_walk using (wpAny_updateSeq gl rfl (hz := h1) (_hz' := big)), wpAny_loadPart' gl, wpAny_loadPart' gb
    exact ⟨_, rfl, hR⟩
end
section
variable {X : Cx}
def rExtT (K : PySem.W.Frag) : V → List V → Hp → VK → Prop := fun x vs H Q => ∃ l b xs zs, x = .ref l ∧ vs = [.ref b] ∧ H l = some (.lst xs) ∧ SqT K H b zs ∧ xs.length + zs.length ≤ sizeLine ∧ Q .non (upd H l (.lst (xs ++ zs)))
theorem mt_extT : MtM X "list.extend" (rExtT X.K) := by
  intro pins s σ H x vs v us Q I rx rv h
  obtain ⟨l, b, xs, zs, rfl, rfl, hH, hB, hz, q⟩ := h
  cases rx
  obtain ⟨u, rfl, ru⟩ := rv.one
  cases ru
  obtain ⟨z, its, n, r, hl, e⟩ := I.lstM hH
  obtain ⟨its2, r2, pl, hz2⟩ := I.tuple hB
  obtain ⟨⟨c2, dd2, dt2, sl2⟩, ho2, hc2, n2, hd2⟩ := id pl
  simp only at hc2 hd2
  subst hc2 hd2
  have l2 : its2.length = zs.length := r2.length.symm
  have hsz : its.toArray.size + its2.toArray.size ≤ sizeLine := by rw [List.size_toArray, List.size_toArray]; omega
  have hlong : ¬ (!its.toArray.isEmpty && Builtin.List.listTooLong (its.toArray.size + its2.toArray.size)) = true := by
    rw [notLongL hsz, Bool.and_false]
    exact Bool.false_ne_true
  refine call_meets PySem.F.slot_list_extend ⟨_, e, rfl⟩ PySem.F.entry_list_extend (PySem.F.args_list_extend_2 _ _) (ext_tup l b its.toArray its2.toArray n n2 dd2 sl2 hlong (by rw [List.size_toArray]; omega) (by omega)) ⟨e, ho2, ?_⟩
  refine ⟨.non, _, I.lset (its' := its ++ its2) hH e (by simp) (r.append r2) ?_, rfl, q⟩
  rw [List.length_append]
  omega
end
/-- texts that differ are counted -/
theorem len_alike {α : Type} [DecidableEq α] {l zs : List α} (h1 : l.Nodup) (h2 : zs.Nodup) (h : ∀ z, z ∈ l ↔ z ∈ zs) : l.length = zs.length :=
  ((List.perm_ext_iff_of_nodup h1 h2).mpr h).length_eq
end Own

namespace Own
open PySem PySem.Spec PyProof.Rows L2 Evl
abbrev s_law : Stmt := top 47
theorem sc_law : FnScope ["_law_script", "_law_bag_here", "_law_world_here", "_law_spin", "_law_grant", "_law_words", "_law_good", "_law_word", "_law_k", "_law_few", "_law_bad", "_law_again", "_law_place", "_law_shown"] ["_law_script"] (defScope s_law) := ⟨rfl, rfl, rfl, by decide +kernel, rfl, by decide +kernel, by decide +kernel⟩
theorem lit_slto {A : Addr → Prop} {H0 : Hp} {σ : L2.St} {K : PySem.W.Frag} {i : Nat} {j : Nat} {v : V} {ds : List PyData} (hA : ∀ a, H0 a = none → A a) (hi : σ[i]? = some (some v)) (h : DaA A H0 v (.list ds)) : Lit A H0 σ (tSl (rSlAny K) (tVar i) tNoPart (tPart (tC (.int (j : Int))))) (· = .list (ds.take j)) := fun H Q e q => by
  cases h with
  | @lst a xs _ a1 a2 a3 =>
    refine ⟨_, hi, (j : Int), rfl, .inl ⟨a, xs, rfl, sq_of (e _ _ a2), fun l nl => ?_⟩⟩
    rw [cut_to]
    exact q _ _ _ (Ex.new nl) rfl (.lst (hA _ (none_of e nl)) upd_same (DaAA.exA (e.trans (Ex.new nl)) (DaAA.take j a3)))
theorem lit_slfrom {A : Addr → Prop} {H0 : Hp} {σ : L2.St} {K : PySem.W.Frag} {i : Nat} {j : Nat} {v : V} {ds : List PyData} (hA : ∀ a, H0 a = none → A a) (hi : σ[i]? = some (some v)) (h : DaA A H0 v (.list ds)) : Lit A H0 σ (tSl (rSlAny K) (tVar i) (tPart (tC (.int (j : Int)))) tNoPart) (· = .list (ds.drop j)) := fun H Q e q => by
  cases h with
  | @lst a xs _ a1 a2 a3 =>
    refine ⟨_, hi, (j : Int), rfl, .inl ⟨a, xs, rfl, sq_of (e _ _ a2), fun l nl => ?_⟩⟩
    rw [cut_from]
    exact q _ _ _ (Ex.new nl) rfl (.lst (hA _ (none_of e nl)) upd_same (DaAA.exA (e.trans (Ex.new nl)) (DaAA.drop j a3)))
theorem test_op {σ : L2.St} {H : Hp} {r : R2} {tc tb : TE} {Q : Bool → Hp → Prop} (h : tc σ H fun x H1 => tb σ H1 fun y H2 => r x y H2 fun x H' => ∃ k, x = .bl k ∧ Q k H') : tTest (tOp r tc tb) σ H Q := h
theorem lit_arg1 {A : Addr → Prop} {H0 : Hp} {σ : L2.St} {te : TE} {P : PyData → Prop} {sp : Sp} {E : XK} {Q : VK} (h : Lit A H0 σ te P) (k : ∀ H' v d, Ex H0 H' → P d → DaA A H' v d → sp [v] H' Q E) : tCall sp [] E (tCons te tNil) σ H0 Q := h H0 _ (Ex.refl _) k
/-- the parts at L, of which those at the places of B are bad -/
def Few (L B : Addr) (H' : Hp) (gd : List PyData) (i : Nat) (fs : List V) (ds : List PyData) (ks : List Nat) : Prop := H' L = some (.lst fs) ∧ H' B = some (.lst (ks.map fun z : Nat => V.int (z : Int))) ∧ DaAA (fun a => a ≠ L ∧ a ≠ B) H' fs ds ∧ ds.length = 9 ∧ ks.length = i ∧ (∀ k ∈ ks, k < 9 ∧ ∃ d, ds[k]? = some d ∧ BadP k d) ∧ ∀ j d, ds[j]? = some d → j ∉ ks → gd[j]? = some d
theorem min_ex : ∀ ks : List Nat, ks ≠ [] → ∃ m ∈ ks, ∀ y ∈ ks, m ≤ y
  | [], h => absurd rfl h
  | [x], _ => ⟨x, List.mem_cons_self, fun y hy => by rw [List.mem_singleton.mp hy]; exact Nat.le_refl _⟩
  | x :: z :: r, _ => by
    obtain ⟨m, hm, h⟩ := min_ex (z :: r) (by simp)
    by_cases e : x ≤ m
    · exact ⟨x, List.mem_cons_self, fun y hy => (List.mem_cons.mp hy).elim (fun q => by omega) fun q => Nat.le_trans e (h y q)⟩
    · exact ⟨m, List.mem_cons_of_mem _ hm, fun y hy => (List.mem_cons.mp hy).elim (fun q => by omega) fun q => h y q⟩
def goodD (k : Lic) : List PyData := [.str (k.w "goal"), .str (k.w "book"), .list (k.ns.map PyData.str), .list k.ps, .list (k.r "out"), .list (k.r "call"), .list (k.r "turn"), .list (k.r "part"), .list (k.r "more")]
theorem okD_gp {ds : List PyData} (h : ∀ d ∈ ds, okD 2 2100 d) (hl : ds.length ≤ 60) : okD 38 140000 (.list ds) := (okD_list h hl).mono (by decide) (by decide)
/-- good parts: they make a licence, may be looked at and shown -/
theorem good_mak {k : Lic} (o : OkT 6 k) : Mak (goodD k) ∧ (∀ i d, (goodD k)[i]? = some d → okB i d ∧ okQ 38 140000 d) ∧ ∀ i gs, 3 ≤ i → (goodD k)[i]? = some gs → ∃ ds, gs = .list ds ∧ ds.length ≤ 60 ∧ ∀ x ∈ ds, okD 2 2100 x := by
  have hw : ∀ h, isHm h → okD 38 140000 (.str (k.w h)) := fun h hh => by
    refine (okD_str (L := 8) ?_ ?_).mono (by decide) (by decide) <;> rcases wd_str (o.ok.w h hh) with e | e | e | e <;> rw [e] <;> decide +kernel
  have hn : okD 38 140000 (.list (k.ns.map PyData.str)) := okD_gp (fun d hd => by
    obtain ⟨z, hz, rfl⟩ := List.mem_map.mp hd
    exact (okD_str (L := 8) (nm_ok (o.ok.ns z hz)) (nm_len (o.ok.ns z hz))).mono (by decide) (by decide)) (by rw [List.length_map]; exact o.ok.nl)
  have hp : okD 38 140000 (.list k.ps) := okD_gp (fun d hd => (o.ok.ps d hd).2.1) (by have := o.pl; omega)
  have hr : ∀ s ∈ sorts5, okD 38 140000 (.list (k.r s)) := fun s hs => okD_gp (fun d hd => (o.ok.r s hs d hd).2.1) (o.ok.rl s hs)
  have B : ∀ {i : Nat} {d : PyData}, okD 38 140000 d → okB i d ∧ okQ 38 140000 d := fun {i d} h => ⟨⟨fun _ => h.mono (by decide) (by decide), fun _ => okV.of (h.mono (by decide) (by decide))⟩, h.q⟩
  have nos : ∀ s ∈ sorts5, nosD (.list (k.r s)) = true := fun s hs => by
    show ((k.r s).all norD && dis (k.r s)) = true
    rw [List.all_eq_true.mpr fun d hd => (o.ok.r s hs d hd).1, nod_dis (fun d hd => (o.ok.r s hs d hd).1) (o.ok.rd s hs)]
    rfl
  have hnm : partsD nmD (.list (k.ns.map PyData.str)) = true := List.all_eq_true.mpr fun d hd => by
    obtain ⟨z, hz, rfl⟩ := List.mem_map.mp hd
    exact o.ok.ns z hz
  have s1 : ("out" : Str) ∈ sorts5 := by decide +kernel
  have s2 : ("call" : Str) ∈ sorts5 := by decide +kernel
  have s3 : ("turn" : Str) ∈ sorts5 := by decide +kernel
  have s4 : ("part" : Str) ∈ sorts5 := by decide +kernel
  have s5 : ("more" : Str) ∈ sorts5 := by decide +kernel
  refine ⟨⟨fun j d h => ?_, ⟨k.ns, rfl, by have := o.nl; omega⟩, ⟨k.ps, rfl, by have := o.pl; omega⟩, fun j h4 h9 => ?_⟩, fun i d h => ?_, fun i gs h3 h => ?_⟩
  · match j, h with
    | 0, h => cases h; exact o.ok.w _ (.inl rfl)
    | 1, h => cases h; exact o.ok.w _ (.inr rfl)
    | 2, h => cases h; exact hnm
    | 3, h => cases h; exact List.all_eq_true.mpr fun d hd => (o.ok.ps d hd).1
    | 4, h => cases h; exact nos _ s1
    | 5, h => cases h; exact nos _ s2
    | 6, h => cases h; exact nos _ s3
    | 7, h => cases h; exact nos _ s4
    | 8, h => cases h; exact nos _ s5
  · have : j = 4 ∨ j = 5 ∨ j = 6 ∨ j = 7 ∨ j = 8 := by omega
    rcases this with rfl | rfl | rfl | rfl | rfl
    · exact ⟨_, rfl, o.ok.rl _ s1⟩
    · exact ⟨_, rfl, o.ok.rl _ s2⟩
    · exact ⟨_, rfl, o.ok.rl _ s3⟩
    · exact ⟨_, rfl, o.ok.rl _ s4⟩
    · exact ⟨_, rfl, o.ok.rl _ s5⟩
  · match i, h with
    | 0, h => cases h; exact B (hw _ (.inl rfl))
    | 1, h => cases h; exact B (hw _ (.inr rfl))
    | 2, h => cases h; exact B hn
    | 3, h => cases h; exact B hp
    | 4, h => cases h; exact B (hr _ s1)
    | 5, h => cases h; exact B (hr _ s2)
    | 6, h => cases h; exact B (hr _ s3)
    | 7, h => cases h; exact B (hr _ s4)
    | 8, h => cases h; exact B (hr _ s5)
  · match i, h with
    | 0, h => exact absurd h3 (by decide)
    | 1, h => exact absurd h3 (by decide)
    | 2, h => exact absurd h3 (by decide)
    | 3, h => cases h; exact ⟨_, rfl, by have := o.pl; omega, fun d hd => (o.ok.ps d hd).2.1⟩
    | 4, h => cases h; exact ⟨_, rfl, o.ok.rl _ s1, fun d hd => (o.ok.r _ s1 d hd).2.1⟩
    | 5, h => cases h; exact ⟨_, rfl, o.ok.rl _ s2, fun d hd => (o.ok.r _ s2 d hd).2.1⟩
    | 6, h => cases h; exact ⟨_, rfl, o.ok.rl _ s3, fun d hd => (o.ok.r _ s3 d hd).2.1⟩
    | 7, h => cases h; exact ⟨_, rfl, o.ok.rl _ s4, fun d hd => (o.ok.r _ s4 d hd).2.1⟩
    | 8, h => cases h; exact ⟨_, rfl, o.ok.rl _ s5, fun d hd => (o.ok.r _ s5 d hd).2.1⟩
/-- as many names -/
def goodA (k : Lic) : List PyData := (goodD k).take 2 ++ [.list (List.replicate 4000 (.str "a"))] ++ (goodD k).drop 3
theorem goodA_mak {k : Lic} (o : OkT 6 k) : Mak (goodA k) ∧ ∀ i d, (goodA k)[i]? = some d → okB i d := by
  obtain ⟨⟨g1, g2, g3, g4⟩, gb, _⟩ := good_mak o
  have e : ∀ j, j ≠ 2 → (goodA k)[j]? = (goodD k)[j]? := fun j hj => by
    match j, hj with
    | 0, _ => rfl
    | 1, _ => rfl
    | 2, h => exact absurd rfl h
    | j + 3, _ => rfl
  have e2 : (goodA k)[2]? = some (.list (List.replicate 4000 (.str "a"))) := rfl
  refine ⟨⟨fun j d h => ?_, ⟨List.replicate 4000 "a", by rw [e2, List.map_replicate], by rw [List.length_replicate]; decide⟩, ?_, fun j h4 h9 => ?_⟩, fun j d h => ?_⟩
  · by_cases hj : j = 2
    · subst hj
      rw [e2] at h
      cases h
      show (List.replicate 4000 (PyData.str "a")).all nmD = true
      exact List.all_eq_true.mpr fun d hd => by rw [List.eq_of_mem_replicate hd]; decide +kernel
    · rw [e j hj] at h
      exact g1 j d h
  · obtain ⟨ps, h1, h2⟩ := g3
    exact ⟨ps, by rw [e 3 (by decide)]; exact h1, h2⟩
  · obtain ⟨rs, h1, h2⟩ := g4 j h4 h9
    exact ⟨rs, by rw [e j (by omega)]; exact h1, h2⟩
  · by_cases hj : j = 2
    · subst hj
      rw [e2] at h
      cases h
      refine ⟨fun h => absurd h (by decide), fun _ ds h => ?_⟩
      have : ds = List.replicate 4000 (.str "a") := by
        rcases h with h | h
        · injection h with h; exact h.symm
        · cases h
      subst this
      refine ⟨by rw [List.length_replicate]; decide, fun x hx => ?_⟩
      rw [List.eq_of_mem_replicate hx]
      exact (okD_str (L := 8) (by decide +kernel) (by decide +kernel)).mono (by decide) (by decide)
    · rw [e j hj] at h
      exact (gb j d h).1
section
variable {P : Program} {w : World} {K : PySem.W.Frag} {mg : Str → Option Value} {base : Heap} {rel hom wrd srt : Addr}
def spLaw (K : PySem.W.Frag) : Sp := fun vs H Q _ => ∃ (a : Addr) (ns : List Int), vs = [.ref a] ∧ SqL K H a (ns.map V.int) ∧ ns.length ≤ 63 ∧ ∀ H', Q (.bl true) H'
theorem ok_law {CW : Addr} {fl : Addr} {fdl : FuncData} (T : Txt0 mg) (T_min : mg "min" = none) (hsys : SysAt base) (F : Fun K "law" "law" s_law fl fdl) (c_l_bag : CalG P w K mg base 1 "_law_bag" (spBag K)) (c_l_world : CalG P w K mg base 3 "_law_world" spWorld) (c_l_take : CalG P w K mg base 1 "_law_take" spTake) (c_l_start : CalG P w K mg base 7 "_law_start" spStart31) (c_l_alike : CalG P w K mg base 1 "_law_alike" (spAlike K))
    (c_l_licence : CalG P w K mg base 5 "_law_licence" spLc) (c_l_heard : CalG P w K mg base 8 "_law_heard" (spHd CW)) (c_l_bad_part : CalG P w K mg base 3 "_law_bad_part" spBad) : FnG P w K mg base 9 fl fdl ["_law_script"] (spLaw K) := by
  refine fn_mkQ F sc_law (fun vs H Q E h => ?_) (fun cdv A outer s H vs Q E hr hG h => ?_)
  · obtain ⟨a, ns, rfl, _⟩ := h
    rfl
  · obtain ⟨a, ms, rfl, ha, hl, q⟩ := h
    refine ⟨_, (pss_cons (ps_set (i := 1) sc_law.nd rfl (Or.inl rfl) (pe_cG c_l_bag hr hG (by decide) rfl (pa_cons (pv 0) pa_nil)))
      (pss_cons (ps_set (i := 2) sc_law.nd rfl (Or.inl rfl) (pe_cG c_l_world hr hG (by decide) rfl (pa_cons (pv 1) pa_nil)))
      (pss_cons (ps_forO (ps_for PassesOwn.never rfl (pi_range1 rfl T.range (pa_cons pe_int pa_nil)) (pg_name (i := 3) sc_law.nd rfl (Or.inl rfl))
        (pss_cons (ps_set (i := 4) sc_law.nd rfl (Or.inr rfl) (pe_cG c_l_licence hr hG (by decide) rfl (pa_cons (pv 1) (pa_cons (pv 2) (pa_cons (pe_cG c_l_start hr hG (by decide) rfl (pa_cons (pv 1) (pa_cons (pv 2) (pa_cons pe_int pa_nil)))) pa_nil)))))
      (pss_cons (ps_set (i := 5) sc_law.nd rfl (Or.inl rfl) (pe_lst (pa_cons pe_str (pa_cons pe_str (pa_cons pe_str (pa_cons pe_str (pa_cons pe_str (pa_cons pe_str (pa_cons pe_str (pa_cons pe_str (pa_cons pe_str pa_nil)))))))))))
      (pss_cons (ps_setLcO (ps_setLc (i := 6) (own := [("_law_word", 7)]) rfl sc_law.nd rfl rfl (sw_true rfl rfl rfl (by decide +kernel)) (piAny (pv 5)) (blkOk_by (own := [("_law_word", 7)]) (N := ["_law_script", "_law_bag_here", "_law_world_here", "_law_spin", "_law_grant", "_law_words", "_law_good", "_law_word", "_law_k", "_law_few", "_law_bad", "_law_again", "_law_place", "_law_shown"]) (sc := defScope s_law) (by first | decide +kernel | kernel_rfl)) (fun _ _ _ _ _ => pg_name (i := 7) sc_law.nd rfl (Or.inl rfl)) (fun _ _ _ _ _ => pts_nil) (fun _ _ _ _ _ => pe_dget (hu_of hr) (pv 4) (pv 7) (fun _ _ => rfl))))
      (pss_cons (ps_if (PW.pt (pw_or (pt_cmpR op_isnot_bl (pe_cG c_l_heard hr hG (by decide) rfl (pa_cons (pv 6) pa_nil)) pe_bl (nomark _)) (pw_or1 (pt_cmpR op_isnot_bl (pe_cG c_l_heard hr hG (by decide) rfl (pa_cons (pe_op opAdd (pe_op opAdd (pe_slice slAny (pv 6) po_none (po_some pe_int)) (pe_lst (pa_cons (pe_op opMul (pe_lst (pa_cons pe_str pa_nil)) pe_int) pa_nil))) (pe_slice slAny (pv 6) (po_some pe_int) po_none)) pa_nil)) pe_bl (nomark _))))) (pss_one (ps_ret pe_bl)) pss_nil)
      (pss_one (ps_forO (ps_for PassesOwn.never rfl (pi_range1 rfl T.range (pa_cons pe_int pa_nil)) (pg_name (i := 8) sc_law.nd rfl (Or.inl rfl))
        (pss_cons (ps_par (i := 9) (j := 10) rfl sc_law.nd rfl rfl (by decide) rfl rfl (pa_cons (pe_callTy call_list_of (by rfl) T.list (by decide +kernel) (pa_cons (pv 6) pa_nil)) (pa_cons (pe_lst pa_nil) pa_nil)) (by first | rfl | with_unfolding_all rfl | kernel_rfl))
      (pss_cons (ps_forO (ps_for PassesOwn.never rfl (pi_range1 rfl T.range (pa_cons (pe_op opAdd pe_int (pe_cG c_l_take hr hG (by decide) rfl (pa_cons (pv 1) (pa_cons pe_int pa_nil)))) pa_nil)) (pg_name (i := 11) sc_law.nd rfl (Or.inl rfl))
        (pss_cons (ps_set (i := 12) sc_law.nd rfl (Or.inl rfl) (pe_cG c_l_take hr hG (by decide) rfl (pa_cons (pv 1) (pa_cons pe_int pa_nil))))
      (pss_cons (ps_asg (pe_cG c_l_bad_part hr hG (by decide) rfl (pa_cons (pv 1) (pa_cons (pv 12) (pa_cons (pe_ix ixAny (pv 6) (pv 12) (fun _ _ => rfl)) pa_nil)))) (pg_sub (pv 9) (pv 12) set_list))
      (pss_one (ps_expr (pe_bm PySem.F.plainAttrs_list PySem.F.slot_list_append PySem.F.type_list_append mt_append (pv 10) (pa_cons (pv 12) pa_nil))))))))
      (pss_cons (ps_set (i := 13) sc_law.nd rfl (Or.inl rfl) (pe_callB (callReprQ hsys hG hr) (by rfl) T.repr (by decide +kernel) (pa_cons (pv 9) pa_nil)))
      (pss_one (ps_if (PW.pt (pw_or (pt_not (pt_val (pe_cG c_l_alike hr hG (by decide) rfl (pa_cons (pe_cG c_l_heard hr hG (by decide) rfl (pa_cons (pv 9) pa_nil)) (pa_cons (pe_tup (pa_cons pe_str (pa_cons (pe_callB (cr_min rfl) (by rfl) T_min (by decide +kernel) (pa_cons (pv 10) pa_nil)) pa_nil))) pa_nil))))) (pw_or1 (pt_cmpR (opNe hr) (pe_callB (callReprQ hsys hG hr) (by rfl) T.repr (by decide +kernel) (pa_cons (pv 9) pa_nil)) (pv 13) (nomark _))))) (pss_one (ps_ret pe_bl)) pss_nil))))))))))))))
      (pss_one (ps_ret pe_bl))))), ?_⟩
    refine ⟨_, rfl, a, ms, rfl, ha, hl, fun H1 b e1 hb => ?_⟩
    refine ⟨_, rfl, b, rfl, hb, fun H2 wv ns ts e2 hwv hw => ?_⟩
    refine ⟨4, rfl, by decide, by decide, ?_⟩
    refine frG (walk_range (lo := 0) (n := 4)) (fun i σ H' => ∃ x3 x4 x5 x6 x7 x8 x9 x10 x11 x12 x13 : Option V, σ = [some (.ref a), some (.ref b), some wv, x3, x4, x5, x6, x7, x8, x9, x10, x11, x12, x13] ∧ Ex H2 H') ⟨_, _, _, _, _, _, _, _, _, _, _, rfl, Ex.refl _⟩ (fun _ _ _ _ _ => trivial) ?_ ?_
    · rintro i x σ H3 H3' hi ⟨x3, x4, x5, x6, x7, x8, x9, x10, x11, x12, x13, rfl, e3⟩ ⟨rfl, rfl⟩
      have hb3 := hb.ex (e2.trans e3)
      have hwv3 := hwv.ex e3
      refine ⟨_, rfl, _, rfl, _, rfl, _, rfl, b, wv, ns, ts, 4, rfl, by decide, by decide, hb3, hwv3, hw, fun H4 p bd bk va us ub gs bs aa e4 hp nbd nbk nbb hbd hbk hug hub _ _ _ _ _ lg lb => ?_⟩
      have lu := hug.len
      have lub := hub.len
      refine ⟨b, p, bd, bk, wv, va, ns, ts, us, ub, rfl, hb3.ex e4, hwv3.ex e4, hw, hp, hbd, hbk, by omega, by omega, fun H5 D k e5 nD hT ot => ?_⟩
      obtain ⟨kvs, hD, tl⟩ := hT
      have e35 := e4.trans e5
      refine ⟨by show 9 ≤ sizeLine; decide, fun l5 n5 => ?_⟩
      generalize hq6 : upd H5 l5 _ = H6
      obtain ⟨e6, h6⟩ := gen1 hq6 n5
      obtain ⟨vn, xn, rn⟩ := tl.ns
      obtain ⟨vp, xp, rp⟩ := tl.ps
      obtain ⟨vo, xo, ro⟩ := tl.r "out" (by decide +kernel)
      obtain ⟨vc, xc, rc⟩ := tl.r "call" (by decide +kernel)
      obtain ⟨vt, xt, rt⟩ := tl.r "turn" (by decide +kernel)
      obtain ⟨vq, xq, rq⟩ := tl.r "part" (by decide +kernel)
      obtain ⟨vm, xm, rm⟩ := tl.r "more" (by decide +kernel)
      have RD : ∀ {v : V} {ds : List PyData}, RowsL H5 v ds → Da H5 v (.list ds) := fun {v ds} ⟨l, xs, h1, h2, h3⟩ => by rw [h1]; exact .lst h2 h3
      have ND : Da H5 vn (.list (k.ns.map PyData.str)) := by
        obtain ⟨l, h1, h2⟩ := rn
        rw [h1]
        exact .lst h2 (da_strs _)
      have all5 : DaAll H5 [.str (k.w "goal"), .str (k.w "book"), vn, vp, vo, vc, vt, vq, vm] (goodD k) := .cons (.str _) (.cons (.str _) (.cons ND (.cons (RD rp) (.cons (RD ro) (.cons (RD rc) (.cons (RD rt) (.cons (RD rq) (.cons (RD rm) .nil))))))))
      have vals : ∀ {j : Nat} {u : V}, (wds9.map V.str)[j]? = some u → ∃ (z : Str) (v : V), u = .str z ∧ [V.str (k.w "goal"), .str (k.w "book"), vn, vp, vo, vc, vt, vq, vm][j]? = some v ∧ valV kvs (Sum.inr z) = some v := fun {j u} h => by
        match j, h with
        | 0, h => cases h; exact ⟨_, _, rfl, rfl, tl.w _ (.inl rfl)⟩
        | 1, h => cases h; exact ⟨_, _, rfl, rfl, tl.w _ (.inr rfl)⟩
        | 2, h => cases h; exact ⟨_, _, rfl, rfl, xn⟩
        | 3, h => cases h; exact ⟨_, _, rfl, rfl, xp⟩
        | 4, h => cases h; exact ⟨_, _, rfl, rfl, xo⟩
        | 5, h => cases h; exact ⟨_, _, rfl, rfl, xc⟩
        | 6, h => cases h; exact ⟨_, _, rfl, rfl, xt⟩
        | 7, h => cases h; exact ⟨_, _, rfl, rfl, xq⟩
        | 8, h => cases h; exact ⟨_, _, rfl, rfl, xm⟩
      generalize hvs : [V.str (k.w "goal"), .str (k.w "book"), vn, vp, vo, vc, vt, vq, vm] = v9 at all5 vals
      have lv9 : v9.length = 9 := by rw [← hvs]; rfl
      clear hvs
      obtain ⟨hmak, hgok, hgl⟩ := good_mak ot
      obtain ⟨hmakA, hgokA⟩ := goodA_mak ot
      refine .inl ⟨_, rfl, l5, rfl, ⟨_, sq_of h6⟩, ?_⟩
      refine lcG (walk_list (xs := wds9.map V.str)) (by decide) (sq_of h6) (fun _ _ e h => ex_l e h) yAt_ex (fun j ys _ => ys = v9.take j) (fun _ _ _ _ _ h => h) rfl ?_ ?_
      · rintro j u H7 H8 ys hj e7 ⟨rfl, hu⟩ rfl N N0 kN kN0
        obtain ⟨z, v, rfl, hv, hval⟩ := vals hu
        refine ⟨rfl, _, rfl, _, rfl, D, v, rfl, .inl ⟨kvs, Sum.inr z, .inl ((e6.trans e7) _ _ hD), rfl, hval.symm⟩, kN _ _ (Ex.refl _) ?_⟩
        rw [List.take_add_one, hv]
        rfl
      · rintro l6 H7 ys n7 e7 h7 _ rfl
        have h7 : H7 l6 = some (.lst v9) := by rw [h7, show (wds9.map V.str).length = 9 from rfl, List.take_of_length_le (by omega)]
        have e57 := e6.trans e7
        have e37 := e35.trans e57
        have all7 := DaAll.ex e57 _ all5
        have all7A : DaAA (fun _ => True) H7 v9 (goodD k) := DaAA.move (fun a o _ h => h) (fun _ _ => trivial) _ (DaAll.within _ all7)
        refine ⟨_, rfl, l6, v9, goodD k, rfl, h7, lv9, all7, fun i d h => (hgok i d h).1, .inr ⟨hmak, fun H8 e8 => ⟨true, true, rfl, rfl, _, rfl, iteF ?_⟩⟩⟩
        have h8 := e8 _ _ h7
        have D8 : DaA (fun _ => True) H8 (.ref l6) (.list (goodD k)) := .lst trivial h8 (DaAA.exA e8 all7A)
        have LA : ∀ σ : L2.St, σ[6]? = some (some (.ref l6)) → Lit (fun _ => True) H8 σ (tOp (rAdd K) (tOp (rAdd K) (tSl (rSlAny K) (tVar 6) tNoPart (tPart (tC (.int 2)))) (tLst (tCons (tOp rMul (tLst (tCons (tC (.str "a")) tNil)) (tC (.int 4000))) tNil))) (tSl (rSlAny K) (tVar 6) (tPart (tC (.int 3))) tNoPart)) (· = .list (goodA k)) := fun σ hσ => by
          have h4 : (4000 : Int).toNat = 4000 := rfl
          have k1 := lit_rep (A := fun _ => True) (H0 := H8) (σ := σ) (k := 4000) (fun _ _ => trivial) (by decide) (by decide) (lit_str (z := "a"))
          rw [h4] at k1
          have k2 := lit_lst (fun _ _ => trivial) (by show 1 ≤ 60000; decide) (lit_cons k1 lit_nil)
          refine Lit.mono (lit_add (R := (· = (goodD k).take 2 ++ [.list (List.replicate 4000 (.str "a"))])) (S := (· = (goodD k).drop 3)) (fun _ _ => trivial) (Lit.mono (lit_add (R := (· = (goodD k).take 2)) (S := (· = [.list (List.replicate 4000 (.str "a"))])) (fun _ _ => trivial) (Lit.lists (lit_slto (j := 2) (fun _ _ => trivial) hσ D8)) (Lit.lists k2) fun ds es h k => by subst h; subst k; show 2 + 1 ≤ 60000; decide) fun d hd => by obtain ⟨ds, es, rfl, rfl, rfl⟩ := hd; exact ⟨_, rfl, rfl⟩) (Lit.lists (lit_slfrom (j := 3) (fun _ _ => trivial) hσ D8)) fun ds es h k => by subst h; subst k; show 3 + 6 ≤ 60000; decide) fun d hd => by obtain ⟨ds, es, rfl, rfl, rfl⟩ := hd; rfl
        refine test_op (lit_arg1 (LA _ rfl) fun H9 va9 d9 e9 p9 h9 => ?_)
        subst p9
        cases h9 with
        | @lst l9 xs9 _ q1 q2 q3 =>
        have lx9 := (DaAA.da _ q3).len
        refine ⟨l9, xs9, goodA k, rfl, q2, lx9, DaAA.da _ q3, hgokA, .inr ⟨hmakA, fun H10 e10 => ⟨true, true, rfl, rfl, _, rfl, iteF (lit_next ?_)⟩⟩⟩
        dsimp only
        have e710 := (e8.trans e9).trans e10
        have e310 := e37.trans e710
        have all10 := DaAll.ex e710 _ all7
        have h10 := e710 _ _ h7
        refine ⟨9, rfl, by decide, by decide, ?_⟩
        refine frG (walk_range (lo := 0) (n := 9)) (fun j σ H' => ∃ x7 y8 y9 y10 y11 y12 y13 : Option V, σ = [some (.ref a), some (.ref b), some wv, some (.int (0 + (i : Int))), some (.ref D), some (.ref l5), some (.ref l6), x7, y8, y9, y10, y11, y12, y13] ∧ Ex H10 H') ⟨_, _, _, _, _, _, _, rfl, Ex.refl _⟩ (fun _ _ _ _ _ => trivial) ?_ ?_
        · rintro j x σ H11 H11' hj ⟨x7, y8, y9, y10, y11, y12, y13, rfl, e11⟩ ⟨rfl, rfl⟩
          refine ⟨_, rfl, l6, v9, rfl, .inl (sq_of (e11 _ _ h10)), fun L nL => ?_⟩
          generalize hq12 : upd H11' L _ = H12
          obtain ⟨e12, h12⟩ := gen1 hq12 nL
          refine ⟨by show 0 ≤ sizeLine; decide, fun B nB => ?_⟩
          generalize hq13 : upd H12 B _ = H13
          obtain ⟨e13, h13⟩ := gen1 hq13 nB
          have nBL : B ≠ L := fun z => by rw [z, h12] at nB; cases nB
          have nB11 : H11' B = none := none_of e12 nB
          refine ⟨_, _, rfl, ?_⟩
          have e1113 := e12.trans e13
          have hb13 := hb.ex (((e2.trans e3).trans (e310.trans e11)).trans e1113)
          refine ⟨_, rfl, b, 3, rfl, hb13, by decide, by decide, fun H14 r r0 r1 e14 => .inl ⟨1, r, rfl, rfl, 1 + r, rfl, by omega, by omega, ?_⟩⟩
          have e1114 := e1113.trans e14
          have all11 := DaAll.ex e11 _ all10
          have inA : ∀ {v : V} {g : PyData} {H' : Hp}, Ex H11' H' → Da H11' v g → DaA (fun a => a ≠ L ∧ a ≠ B) H' v g := fun {v g H'} e h => DaA.exA e (DaA.move (fun a o _ q => q) (fun a n => ⟨fun z => n (by rw [z]; exact nL), fun z => n (by rw [z]; exact nB11)⟩) _ (Da.within _ h))
          have inAA : DaAA (fun a => a ≠ L ∧ a ≠ B) H14 v9 (goodD k) := DaAA.exA e1114 (DaAA.move (fun a o _ q => q) (fun a n => ⟨fun z => n (by rw [z]; exact nL), fun z => n (by rw [z]; exact nB11)⟩) _ (DaAll.within _ all11))
          refine frG (walk_range (lo := 0) (n := (1 + r).toNat)) (fun m σ H' => ∃ (fs : List V) (ds : List PyData) (ks : List Nat) (z11 z12 : Option V), σ = [some (.ref a), some (.ref b), some wv, some (.int (0 + (i : Int))), some (.ref D), some (.ref l5), some (.ref l6), x7, some (.int (0 + (j : Int))), some (.ref L), some (.ref B), z11, z12, y13] ∧ Ex H11' H' ∧ Few L B H' (goodD k) m fs ds ks)
            ⟨v9, goodD k, [], _, _, rfl, e1114, (e13.trans e14) _ _ h12, e14 _ _ h13, inAA, rfl, rfl, (fun z hz => by cases hz), fun j d h _ => h⟩ (fun _ _ _ _ _ => trivial) ?_ ?_
          · rintro m x σ H15 H15' hm ⟨fs, ds, ks, z11, z12, rfl, e15, hF⟩ ⟨rfl, rfl⟩
            obtain ⟨fL, fB, fD, fl, fk, fbad, fgood⟩ := hF
            have hb15 := hb.ex (((e2.trans e3).trans (e310.trans e11)).trans e15)
            refine ⟨_, rfl, b, 9, rfl, hb15, by decide, by decide, fun H16 r2 r20 r21 e16 => ?_⟩
            obtain ⟨p', rfl⟩ : ∃ p' : Nat, r2 = (p' : Int) := ⟨r2.toNat, by omega⟩
            have hp9 : p' < 9 := by omega
            obtain ⟨v, hv⟩ : ∃ v, v9[p']? = some v := ⟨v9[p'], List.getElem?_eq_getElem (by omega)⟩
            obtain ⟨g, hg, hgv⟩ := all11.at hv
            have e1116 := e15.trans e16
            refine ⟨_, rfl, _, rfl, _, rfl, _, rfl, .inl ⟨l6, v9, (p' : Int), v, rfl, rfl, sq_of ((e11.trans e1116) _ _ h10), atI_nat (j := p') hv, ?_⟩⟩
            refine ⟨b, p', v, g, fun a => a ≠ L ∧ a ≠ B, rfl, hb15.ex e16, hp9, fun a n => ⟨fun z => ?_, fun z => ?_⟩, inA e1116 hgv, fun h3 => hgl p' g h3 hg, fun H17 v' d' e17 hv' hbad => ?_⟩
            · rw [z, e16 _ _ fL] at n; cases n
            · rw [z, e16 _ _ fB] at n; cases n
            have e1517 := e16.trans e17
            have e1117 := e1116.trans e17
            have L17 := e1517 _ _ fL
            have B17 := e1517 _ _ fB
            have lfs := (DaAA.da _ fD).len
            refine ⟨_, rfl, _, rfl, L, fs, (p' : Int), p', rfl, rfl, L17, ixN_nat (by omega), ?_⟩
            have B18 : (upd H17 L (.lst (fs.set p' v'))) B = some (.lst (ks.map fun z : Nat => V.int (z : Int))) := by rw [upd_ne nBL]; exact B17
            refine ⟨_, rfl, .inl ⟨rfl, _, sq_of B18⟩, _, rfl, B, _, _, rfl, rfl, B18, by rw [List.length_map, sizeLine_eq]; omega, ?_⟩
            refine ⟨fs.set p' v', ds.set p' d', ks ++ [p'], _, _, rfl, Ex.mut (Ex.mut e1117 nL) nB11, ?_, ?_, ?_, by rw [List.length_set]; exact fl, by rw [List.length_append, fk]; rfl, fun z hz => ?_, fun z d hd hz => ?_⟩
            · rw [upd_ne nBL.symm, upd_same]
            · rw [upd_same, List.map_append]
              rfl
            · exact DaAA.move (fun a o z q => by rw [upd_ne z.2, upd_ne z.1]; exact q) (fun a z => z) _ (DaAA.put hv' (DaAA.exA e1517 fD))
            · by_cases e : z = p'
              · subst e
                exact ⟨hp9, d', by rw [List.getElem?_set_self (by omega)], hbad⟩
              · rcases List.mem_append.mp hz with hz | hz
                · obtain ⟨k1, d, k2, k3⟩ := fbad z hz
                  exact ⟨k1, d, by rw [List.getElem?_set_ne (fun q => e q.symm)]; exact k2, k3⟩
                · exact absurd (List.mem_singleton.mp hz) e
            · have e : z ≠ p' := fun e => hz (by rw [e]; exact List.mem_append_right _ List.mem_cons_self)
              rw [List.getElem?_set_ne (fun q => e q.symm)] at hd
              exact fgood z d hd fun h => hz (List.mem_append_left _ h)
          · rintro σ H15 ⟨fs, ds, ks, z11, z12, rfl, e15, hF⟩
            obtain ⟨fL, fB, fD, fl, fk, fbad, fgood⟩ := hF
            obtain ⟨m, hm, hmin⟩ := min_ex ks (fun e => by rw [e] at fk; have : (0 : Nat) = (1 + r).toNat := fk; omega)
            have okd : ∀ z d, ds[z]? = some d → okB z d ∧ okQ 38 140000 d := fun z d hd => by
              by_cases hz : z ∈ ks
              · obtain ⟨_, d2, k2, k3⟩ := fbad z hz
                rw [hd] at k2
                cases k2
                exact ⟨k3.ok, k3.q⟩
              · exact hgok z d (fgood z d hd hz)
            have okl : okQ 40 16000000 (.list ds) := okQ.mono (okQ_list (n := 38) (W := 140000) (m := 9) (fun d hd => by
              obtain ⟨z, hz⟩ := List.getElem?_of_mem hd
              exact (okd z d hz).2) (by omega)) (by decide) (by decide)
            have hbadm : BadAt ds m := by
              obtain ⟨_, d, k1, k2⟩ := fbad m hm
              refine ⟨⟨d, k1, k2.bad⟩, fun z d hz hd => ?_⟩
              have hn : z ∉ ks := fun h => absurd (hmin z h) (by omega)
              exact hmak.good z d (fgood z d hd hn)
            have lfs := (DaAA.da _ fD).len
            refine ⟨_, rfl, .ref L, .list ds, rfl, .lst fL (DaAA.da _ fD), okl, ?_⟩
            refine ⟨_, rfl, L, fs, ds, rfl, fL, by omega, DaAA.da _ fD, fun z d hd => (okd z d hd).1, .inl ⟨m, hbadm, fun H16 t e16 ht => ?_⟩⟩
            refine ⟨_, rfl, B, ks.map (fun z : Nat => (z : Int)), rfl, sq_of (by rw [e16 _ _ fB, List.map_map]; rfl), by rw [List.length_map, fk]; omega, fun m' hm' hmin' => ?_⟩
            have em : m' = (m : Int) := by
              obtain ⟨z, hz, rfl⟩ := List.mem_map.mp hm'
              have h1 := hmin z hz
              have h2 := hmin' (m : Int) (List.mem_map.mpr ⟨m, hm, rfl⟩)
              omega
            subst em
            refine ⟨by show 2 ≤ sizeLine; decide, fun t2 n2 => ?_⟩
            generalize hq17 : upd H16 t2 _ = H17
            obtain ⟨e17, h17⟩ := gen1 hq17 n2
            have hm9 := (fbad m hm).1
            refine ⟨.ref t, .ref t2, .tuple [.str "wrong", .int (m : Int)], rfl, .tup (st_of (e17 _ _ ht)) (.cons (.str _) (.cons (.int _) .nil)), .tup (st_of h17) (.cons (.str _) (.cons (.int _) .nil)), ?_, _, rfl, iteF ?_⟩
            · refine (fin_tup (n := 0) (W := 1930) (m := 2) (fun d hd => ?_) (Nat.le_refl _)).fine (by decide) (by decide)
              simp only [List.mem_cons, List.not_mem_nil, or_false] at hd
              rcases hd with rfl | rfl
              · exact (fin_str (L := 8) (by decide +kernel) (by decide +kernel)).mono (by decide) (by decide)
              · exact (fin_int (Nat.lt_of_le_of_lt (Nat.log2_le_self _) (by omega))).mono (by decide) (by decide)
            · have e1517 := e16.trans e17
              refine ⟨_, rfl, .ref L, .list ds, rfl, Da.ex e1517 _ (.lst fL (DaAA.da _ fD)), okl, ?_⟩
              refine ⟨_, rfl, .inl ⟨rfl, _, rfl, ?_⟩⟩
              rw [decide_eq_true rfl]
              exact iteF ⟨_, _, _, _, _, _, _, rfl, e11.trans (e15.trans e1517)⟩
        · rintro σ H11 ⟨x7, y8, y9, y10, y11, y12, y13, rfl, e11⟩
          exact ⟨_, _, _, _, _, _, _, _, _, _, _, rfl, e3.trans (e310.trans e11)⟩
    · rintro σ H3 ⟨x3, x4, x5, x6, x7, x8, x9, x10, x11, x12, x13, rfl, e3⟩
      exact q _
end
end Own

namespace Own
open PySem PySem.Spec PyProof.Rows L2 Evl
/-! ### the classes of the errors -/
abbrev veB : List Value := [.type "ValueError", .type "Exception", .type "BaseException", .type "object"]
/-- what the text of the program says of one of these classes -/
structure ClsOk (K : PySem.W.Frag) (C PE_ : Addr) : Prop where
  mro : ∀ b : Value, PySem.W.subIn K (.ref C) b = some ((Value.ref C :: .ref PE_ :: veB).contains b)
  cls : (PySem.W.clsIn K C).isSome = true
  ty : PySem.W.typeIn K (.ref C) = some (.type "type")
theorem clsOk_of {K : PySem.W.Frag} {C PE_ : Addr} {nm qn : Str} {NN : Addr} {bs : List Value} {hd : Bool} {sn : List Str} {sub : List Value} {ab : Bool} {col : Option Bool} {dd : Option Addr} {k0 k1 k2 k3 k5 : Option Value}
    (l : K.lookup C = some (excClassObj nm qn C NN bs (.ref PE_ :: veB) hd sn sub ab col dd k0 k1 k2 k3 k5 "ValueError.__new__")) : ClsOk K C PE_ := by
  refine ⟨fun b => ?_, ?_, ?_⟩
  · show PySem.W.mroIn K C b = _
    unfold PySem.W.mroIn PySem.W.clsIn
    rw [l]
    rfl
  · unfold PySem.W.clsIn
    rw [l]
    rfl
  · show (K.lookup C).map (·.cls) = _
    rw [l]
    rfl
theorem kit_of {K : PySem.W.Frag} {cl : Nat → Addr} {PE_ : Addr} (ok : ∀ i, i < 6 → ClsOk K (cl i) PE_) (nd : ∀ i, i < 6 → ∀ j, j < 6 → i ≠ j → cl i ≠ cl j) (np : ∀ j, j < 6 → cl j ≠ PE_) (i j : Nat) (hi : i < 6) (hj : j < 6) :
    PySem.W.kitOne K (.ref (cl i)) (.ref (cl j)) = some (decide (i = j)) := by
  unfold PySem.W.kitOne
  by_cases e : i = j
  · subst e
    rw [if_pos (beq_self_eq_true _), decide_eq_true rfl]
  · have n1 := nd i hi j hj e
    rw [if_neg (fun z => n1 (Value.ref.inj (beq_iff_eq.mp z))), decide_eq_false e]
    show (if ((PySem.W.clsIn K (cl j)).isSome && PySem.W.typeIn K (.ref (cl j)) == some (.type "type")) = true then PySem.W.subIn K (.ref (cl i)) (.ref (cl j)) else none) = some false
    rw [if_pos (by rw [(ok j hj).cls, (ok j hj).ty]; rfl), (ok i hi).mro]
    congr 1
    have n2 := np j hj
    show ((Value.ref (cl j) == Value.ref (cl i)) || ((Value.ref (cl j) == Value.ref PE_) || false)) = false
    have b1 : (Value.ref (cl j) == Value.ref (cl i)) = false := by
      refine Bool.eq_false_iff.mpr fun z => n1 ?_
      exact (Value.ref.inj (beq_iff_eq.mp z)).symm
    have b2 : (Value.ref (cl j) == Value.ref PE_) = false := Bool.eq_false_iff.mpr fun z => n2 (Value.ref.inj (beq_iff_eq.mp z))
    rw [b1, b2]
    rfl
theorem sub_has {K : PySem.W.Frag} {C PE_ : Addr} (ok : ClsOk K C PE_) {T : String} (h : veB.contains (.type T) = true) : PySem.W.subIn K (.ref C) (.type T) = some true := by
  rw [ok.mro]
  refine congrArg some ?_
  show ((Value.type T == Value.ref C) || ((Value.type T == Value.ref PE_) || veB.contains (.type T))) = true
  rw [h, Bool.or_true, Bool.or_true]
theorem sub_pe {K : PySem.W.Frag} {C PE_ : Addr} (ok : ClsOk K C PE_) : PySem.W.subIn K (.ref C) (.ref PE_) = some true := by
  rw [ok.mro]
  refine congrArg some ?_
  show ((Value.ref PE_ == Value.ref C) || ((Value.ref PE_ == Value.ref PE_) || _)) = true
  rw [beq_self_eq_true, Bool.true_or, Bool.or_true]
theorem ve_of {K : PySem.W.Frag} {C PE_ : Addr} (ok : ClsOk K C PE_) : PySem.W.kitOne K (.ref C) (.type "ValueError") = some true := by
  unfold PySem.W.kitOne
  rw [if_neg (by intro z; cases beq_iff_eq.mp z)]
  show (if PySem.W.kitMeta "ValueError" = true then PySem.W.subIn K (.ref C) (.type "ValueError") else none) = some true
  rw [if_pos (by kernel_rfl)]
  exact sub_has ok (by decide +kernel)
end Own

namespace Own
open PySem PySem.Spec PyProof.Rows L2 Evl
/-! ### the end -/
theorem law_callS {P : Program} {w : World} {K : PySem.W.Frag} {mg mb : Str → Option Value} {k : Nat} {fa a : Addr} {fd : FuncData} {x : Str} {sp : Sp} {st : Shared} {vs : List Value} {ns : List Int}
    (inK : K.In st.heap) (gN : st.heap.Ns mainGlobals mg) (bN : st.heap.Ns builtinsNs mb) (bN0 : ∀ x : Str, x ≠ "__name__" → mb x = bootBuiltins x) (noL : st.heap.NoLimit) (g0 : st.gens = #[])
    (at0 : st.heap.get? a = some { cls := .type "list", data := .seq vs.toArray }) (are : IntsAre vs ns) (few : ns.length ≤ sizeLine) (hr : Room k callerA)
    (sysN : ∃ mm, st.heap.Ns sysModules mm) (F : ∀ base : Heap, K.In base → base.Ns mainGlobals mg → SysAt base → FnG P w K mg base k fa fd [x] sp) (bnd : ∀ (s : Shared) (u : Value), BindsTo s fd ⟨[u], []⟩ [(x, u)])
    (want : ∀ H : Hp, Only H → SqL K H a (ns.map V.int) → sp [.ref a] H (fun v _ => v = .bl true) fun _ _ _ => False)
    :
    codeAny (model P w) callerA (.call (.ref fa) ⟨[.ref a], []⟩) (fun r s' => r = .ok (.ret (.bool true)) ∧ OldK st.heap s'.heap ∧ s'.os = st.os ∧ AllBare s'.gens) st := by
  have rvs := vals_ints are
  have lv := are.length
  have main : ∀ H : Hp, Only H → SqL K H a (ns.map V.int) → HOk P w H st.heap → (∀ b, H b ≠ none → b = a) → (H a ≠ none → K.lookup a = none) →
      codeAny (model P w) callerA (.call (.ref fa) ⟨[.ref a], []⟩) (fun r s' => r = .ok (.ret (.bool true)) ∧ OldK st.heap s'.heap ∧ s'.os = st.os ∧ AllBare s'.gens) st := by
    intro H only sq okH ata notK
    have inB : ∀ {b : Addr} {o : Obj}, st.heap.get? b = some o → H b = none → (hidT st.heap H).get? b = some o := fun e n => hidT_get e n
    have nod : ∀ {b : Addr} {o : Obj} {es : Array DictEntry} {ep : Nat}, st.heap.get? b = some o → o.data = .dict es ep → H b = none := fun {b o es ep} e d => by
      cases qq : H b with
      | none => rfl
      | some u =>
        have e' : b = a := ata b (by rw [qq]; simp)
        subst e'
        rw [at0] at e; cases e
        have d' : Data.seq vs.toArray _ = Data.dict es ep := d
        cases d'
    have nsB : ∀ {b : Addr} {m : Str → Option Value}, st.heap.Ns b m → (hidT st.heap H).Ns b m := fun {b m} ⟨o, es, ep, e, d, r⟩ => ⟨o, es, ep, inB e (nod e d), d, r⟩
    have kB : K.In (hidT st.heap H) := fun b o e => inB (inK b o e) (by
      cases qq : H b with
      | none => rfl
      | some u =>
        have e' : b = a := ata b (by rw [qq]; simp)
        subst e'
        rw [notK (by rw [qq]; simp)] at e; cases e)
    have mdl : Mod K mg (hidT st.heap H) := ⟨kB, nsB gN, ⟨mb, nsB bN, bN0⟩, let ⟨mc, h1, h2⟩ := noL; ⟨mc, nsB h1, h2⟩⟩
    have envs : Env0 P w K mg (hidT st.heap H) callerA [] st H := ⟨rfl, mdl, fun b o e => of_hidT e, Nat.le_of_eq (hidT_size _ _), trivial, fun b bN => absurd (show b ∈ ([] : List Addr) from bN) (by simp), okH, .of_eq g0⟩
    refine codeAny_mono ((F _ kB (nsB gN) (let ⟨mm, z⟩ := sysN; ⟨mm, nsB z⟩)).run callerA [] st H ⟨[.ref a], []⟩ [.ref a] [.ref a] _ _ hr rfl envs (bnd st (.ref a)) (.cons rfl .nil) (want H only sq)) fun r s' h => ?_
    cases r with
    | error e => exact (show False from h).elim
    | ok fl =>
      cases fl with
      | next => exact False.elim h
      | brk => exact False.elim h
      | cont => exact False.elim h
      | ret u =>
        obtain ⟨v, H', oss, br, uu, hok', r', qq⟩ := h
        have q' : v = .bl true := qq
        subst q'
        obtain rfl : u = Value.bool true := r'
        refine ⟨rfl, OldK.of_keep fun b o e => ?_, oss, br⟩
        cases qq : H b with
        | none => exact uu.keep b o e qq (by intro zz; exact absurd (show b ∈ ([] : List Addr) from zz) (by simp)) (by simp)
        | some u =>
          rcases only b with zz | ⟨ob, xs, zz⟩
          · rw [qq] at zz; cases zz
          · have zz2 := uu.frzs b ob _ zz
            obtain ⟨e1, _⟩ := okH b _ zz
            obtain ⟨e2, _⟩ := hok' b _ zz2
            rw [e] at e1; cases e1
            exact e2
  cases lkK : K.lookup a with
  | some o =>
    have e := inK a o lkK
    rw [at0] at e
    cases e
    refine main (fun _ => none) (fun _ => .inl rfl) (.inr ⟨_, vs.toArray, _, lkK, rfl, rfl, rfl, by rw [List.size_toArray, lv]; exact few, by simpa using rvs⟩) (fun b u zz => by have z' : (none : Option HO) = some u := zz; cases z') (fun b zz => absurd rfl zz) fun zz => absurd rfl zz
  | none =>
    refine main (fun b => if b = a then some (.frz { cls := .type "list", data := .seq vs.toArray } (.lst (ns.map V.int))) else none) (fun b => ?_) (.inl (.inr ⟨{ cls := .type "list", data := .seq vs.toArray }, if_pos rfl⟩)) (fun b u zz => ?_) (fun b zz => ?_) fun _ => lkK
    · by_cases bN : b = a
      · exact .inr ⟨_, _, if_pos bN⟩
      · exact .inl (if_neg bN)
    · by_cases bN : b = a
      · have z' := (if_pos bN).symm.trans zz
        cases z'
        subst bN
        exact ⟨at0, by rw [List.length_map]; exact few, vs, _, rvs, at0⟩
      · have z' := (if_neg bN).symm.trans zz
        cases z'
    · by_cases bN : b = a
      · exact bN
      · exact absurd (if_neg bN) zz
theorem walk_S {l : PySem.W.OpenLaw} {n k : Nat} {q : Program} {loose : List Str} {XP : (Str → Option Value) → Heap → Prop} {YP : World → Heap → Prop} {d : DefRec} {K : Params → PySem.W.Frag} {sp : World → Sp} {x : Str}
    (most : l.most = some n) (small : n ≤ sizeLine) (nodf : d.params.defaults = []) (room : Room k callerA) (imps : importsNone q = true) (inn : ∀ (w : World) (h : Heap), YP w h → (K w.params).In h)
    (F : ∀ (w : World) (mg : Str → Option Value) (fa : Addr) (h : Heap), (K w.params).In h → h.Ns mainGlobals mg → mg d.name = some (.ref fa) →
      ∃ fd : FuncData, (∀ (s : Shared) (u : Value), BindsTo s fd ⟨[u], []⟩ [(x, u)]) ∧ ∀ base : Heap, (K w.params).In base → base.Ns mainGlobals mg → SysAt base → FnG l.prog w (K w.params) mg base k fa fd [x] (sp w))
    (want : ∀ (w : World) (H : Hp) (a : Addr) (ns : List Int), ns.length ≤ n → SqL (K w.params) H a (ns.map V.int) → sp w [.ref a] H (fun v _ => v = .bl true) fun _ _ _ => False) :
    PySem.W.WalkO q loose XP YP l.row.toRowW d [] (fun f vs => PySem.call f vs) := by
  refine Att.attach_call most nodf fun w s₀ st mg mb fa o pm cd doc a vs ns G Y ho hd hcd hmg hobj hints hlen g0 => ?_
  have KI := inn w _ Y
  obtain ⟨fd, bd, good⟩ := F w mg fa _ KI G.T.g hmg
  exact law_callS KI G.T.g G.T.b G.T.builtins G.T.nolimit g0 hobj hints (Nat.le_trans hlen small) room (let ⟨mm, z, _⟩ := (G.T.seer imps).mods; ⟨mm, z⟩) good bd (fun H _ hS => want w H a ns hlen hS)
theorem df_mk {K : PySem.W.Frag} {h : Heap} {mg : Str → Option Value} {x : Str} {st : Stmt} {f : Addr} {oc : Value} {od an : Option Addr} {sl : Array (Option Value)} {kV doc pm cdv ct : Value} (X : K.In h) (G : h.Ns mainGlobals mg)
    (a : PySem.W.nsIn K mainGlobals x = some (some (.ref f))) (l : K.lookup f = some ⟨oc, od, .func (PySem.W.fnOf x x (defArgs st) (defBody st) (defScope st) .none kV doc pm an cdv ct), sl⟩) (c : PySem.W.codeIn K cdv x = true) (kp : PySem.W.keepIn K (.ref f) = true) : Df K mg x st :=
  ⟨f, _, PySem.W.mg_of X G a, fun_mk l c kp⟩
end Own

namespace Own
open PySem PySem.Spec PyProof.Rows L2 Evl
theorem all_mk {P : Program} {w : World} {K : PySem.W.Frag} {h : Heap} {mg : Str → Option Value} {fa : Addr} (X : K.In h) (G : h.Ns mainGlobals mg) (hfa : mg "law" = some (.ref fa))
    {od0 an0 : Option Addr} {sl0 : Array (Option Value)} {oc0 kV0 dc0 pm0 cd0 ct0 : Value} {f0 : Addr}
    {od1 an1 : Option Addr} {sl1 : Array (Option Value)} {oc1 kV1 dc1 pm1 cd1 ct1 : Value} {f1 : Addr}
    {od2 an2 : Option Addr} {sl2 : Array (Option Value)} {oc2 kV2 dc2 pm2 cd2 ct2 : Value} {f2 : Addr}
    {od3 an3 : Option Addr} {sl3 : Array (Option Value)} {oc3 kV3 dc3 pm3 cd3 ct3 : Value} {f3 : Addr}
    {od4 an4 : Option Addr} {sl4 : Array (Option Value)} {oc4 kV4 dc4 pm4 cd4 ct4 : Value} {f4 : Addr}
    {od5 an5 : Option Addr} {sl5 : Array (Option Value)} {oc5 kV5 dc5 pm5 cd5 ct5 : Value} {f5 : Addr}
    {od6 an6 : Option Addr} {sl6 : Array (Option Value)} {oc6 kV6 dc6 pm6 cd6 ct6 : Value} {f6 : Addr}
    {od7 an7 : Option Addr} {sl7 : Array (Option Value)} {oc7 kV7 dc7 pm7 cd7 ct7 : Value} {f7 : Addr}
    {od8 an8 : Option Addr} {sl8 : Array (Option Value)} {oc8 kV8 dc8 pm8 cd8 ct8 : Value} {f8 : Addr}
    {od9 an9 : Option Addr} {sl9 : Array (Option Value)} {oc9 kV9 dc9 pm9 cd9 ct9 : Value} {f9 : Addr}
    {od10 an10 : Option Addr} {sl10 : Array (Option Value)} {oc10 kV10 dc10 pm10 cd10 ct10 : Value} {f10 : Addr}
    {od11 an11 : Option Addr} {sl11 : Array (Option Value)} {oc11 kV11 dc11 pm11 cd11 ct11 : Value} {f11 : Addr}
    {od12 an12 : Option Addr} {sl12 : Array (Option Value)} {oc12 kV12 dc12 pm12 cd12 ct12 : Value} {f12 : Addr}
    {od13 an13 : Option Addr} {sl13 : Array (Option Value)} {oc13 kV13 dc13 pm13 cd13 ct13 : Value} {f13 : Addr}
    {od14 an14 : Option Addr} {sl14 : Array (Option Value)} {oc14 kV14 dc14 pm14 cd14 ct14 : Value} {f14 : Addr}
    {od15 an15 : Option Addr} {sl15 : Array (Option Value)} {oc15 kV15 dc15 pm15 cd15 ct15 : Value} {f15 : Addr}
    {od16 an16 : Option Addr} {sl16 : Array (Option Value)} {oc16 kV16 dc16 pm16 cd16 ct16 : Value} {f16 : Addr}
    {od17 an17 : Option Addr} {sl17 : Array (Option Value)} {oc17 kV17 dc17 pm17 cd17 ct17 : Value} {f17 : Addr}
    {od18 an18 : Option Addr} {sl18 : Array (Option Value)} {oc18 kV18 dc18 pm18 cd18 ct18 : Value} {f18 : Addr}
    {od19 an19 : Option Addr} {sl19 : Array (Option Value)} {oc19 kV19 dc19 pm19 cd19 ct19 : Value} {f19 : Addr}
    {od20 an20 : Option Addr} {sl20 : Array (Option Value)} {oc20 kV20 dc20 pm20 cd20 ct20 : Value} {f20 : Addr}
    {od21 an21 : Option Addr} {sl21 : Array (Option Value)} {oc21 kV21 dc21 pm21 cd21 ct21 : Value} {f21 : Addr}
    {od22 an22 : Option Addr} {sl22 : Array (Option Value)} {oc22 kV22 dc22 pm22 cd22 ct22 : Value} {f22 : Addr}
    {od23 an23 : Option Addr} {sl23 : Array (Option Value)} {oc23 kV23 dc23 pm23 cd23 ct23 : Value} {f23 : Addr}
    {od24 an24 : Option Addr} {sl24 : Array (Option Value)} {oc24 kV24 dc24 pm24 cd24 ct24 : Value} {f24 : Addr}
    {od25 an25 : Option Addr} {sl25 : Array (Option Value)} {oc25 kV25 dc25 pm25 cd25 ct25 : Value} {f25 : Addr}
    {od26 an26 : Option Addr} {sl26 : Array (Option Value)} {oc26 kV26 dc26 pm26 cd26 ct26 : Value} {f26 : Addr}
    {od27 an27 : Option Addr} {sl27 : Array (Option Value)} {oc27 kV27 dc27 pm27 cd27 ct27 : Value} {f27 : Addr}
    {od28 an28 : Option Addr} {sl28 : Array (Option Value)} {oc28 kV28 dc28 pm28 cd28 ct28 : Value} {f28 : Addr}
    {od29 an29 : Option Addr} {sl29 : Array (Option Value)} {oc29 kV29 dc29 pm29 cd29 ct29 : Value} {f29 : Addr}
    {od30 an30 : Option Addr} {sl30 : Array (Option Value)} {oc30 kV30 dc30 pm30 cd30 ct30 : Value} {f30 : Addr}
    {od31 an31 : Option Addr} {sl31 : Array (Option Value)} {oc31 kV31 dc31 pm31 cd31 ct31 : Value} {f31 : Addr}
    {od32 an32 : Option Addr} {sl32 : Array (Option Value)} {oc32 kV32 dc32 pm32 cd32 ct32 : Value} {f32 : Addr} {rel : Addr} {odR : Option Addr} {nR : Nat} {slR : Array (Option Value)} {tL u1 u2 u3 : Tok} {hm : Addr} {odhm : Option Addr} {nhm : Nat} {slhm : Array (Option Value)} {hm0 hm1 : Tok} {wo : Addr} {odwo : Option Addr} {nwo : Nat} {slwo : Array (Option Value)} {wo0 wo1 wo2 wo3 : Tok} {so : Addr} {odso : Option Addr} {nso : Nat} {slso : Array (Option Value)} {so0 so1 so2 so3 so4 : Tok} {PE_ : Addr} {C0 NN0 : Addr} {nm0 qn0 : Str} {bs0 sub0 : List Value} {sn0 : List Str} {ab0 : Bool} {col0 : Option Bool} {dd0 : Option Addr} {p0 q0 r0 s0 t0 : Option Value} {fe0 : Addr} {ode0 ane0 : Option Addr} {sle0 : Array (Option Value)} {oce0 kVe0 dce0 pme0 cde0 cte0 : Value} {CB : Addr} {C : Addr} {fAinit : Addr} {odAinit anAinit : Option Addr} {slAinit : Array (Option Value)} {ocAinit kVAinit dcAinit pmAinit cdAinit ctAinit : Value}
    (a0 : PySem.W.nsIn K mainGlobals "is_integer" = some (some (.ref f0))) (l0 : K.lookup f0 = some ⟨oc0, od0, .func (PySem.W.fnOf "is_integer" "is_integer" (defArgs s_is_integer) (defBody s_is_integer) (defScope s_is_integer) .none kV0 dc0 pm0 an0 cd0 ct0), sl0⟩) (c0 : PySem.W.codeIn K cd0 "is_integer" = true) (k0 : PySem.W.keepIn K (.ref f0) = true)
    (a1 : PySem.W.nsIn K mainGlobals "is_name" = some (some (.ref f1))) (l1 : K.lookup f1 = some ⟨oc1, od1, .func (PySem.W.fnOf "is_name" "is_name" (defArgs s_is_name) (defBody s_is_name) (defScope s_is_name) .none kV1 dc1 pm1 an1 cd1 ct1), sl1⟩) (c1 : PySem.W.codeIn K cd1 "is_name" = true) (k1 : PySem.W.keepIn K (.ref f1) = true)
    (a2 : PySem.W.nsIn K mainGlobals "is_relation" = some (some (.ref f2))) (l2 : K.lookup f2 = some ⟨oc2, od2, .func (PySem.W.fnOf "is_relation" "is_relation" (defArgs s_is_relation) (defBody s_is_relation) (defScope s_is_relation) .none kV2 dc2 pm2 an2 cd2 ct2), sl2⟩) (c2 : PySem.W.codeIn K cd2 "is_relation" = true) (k2 : PySem.W.keepIn K (.ref f2) = true)
    (a3 : PySem.W.nsIn K mainGlobals "is_home" = some (some (.ref f3))) (l3 : K.lookup f3 = some ⟨oc3, od3, .func (PySem.W.fnOf "is_home" "is_home" (defArgs s_is_home) (defBody s_is_home) (defScope s_is_home) .none kV3 dc3 pm3 an3 cd3 ct3), sl3⟩) (c3 : PySem.W.codeIn K cd3 "is_home" = true) (k3 : PySem.W.keepIn K (.ref f3) = true)
    (a4 : PySem.W.nsIn K mainGlobals "is_blank" = some (some (.ref f4))) (l4 : K.lookup f4 = some ⟨oc4, od4, .func (PySem.W.fnOf "is_blank" "is_blank" (defArgs s_is_blank) (defBody s_is_blank) (defScope s_is_blank) .none kV4 dc4 pm4 an4 cd4 ct4), sl4⟩) (c4 : PySem.W.codeIn K cd4 "is_blank" = true) (k4 : PySem.W.keepIn K (.ref f4) = true)
    (a5 : PySem.W.nsIn K mainGlobals "is_pattern" = some (some (.ref f5))) (l5 : K.lookup f5 = some ⟨oc5, od5, .func (PySem.W.fnOf "is_pattern" "is_pattern" (defArgs s_is_pattern) (defBody s_is_pattern) (defScope s_is_pattern) .none kV5 dc5 pm5 an5 cd5 ct5), sl5⟩) (c5 : PySem.W.codeIn K cd5 "is_pattern" = true) (k5 : PySem.W.keepIn K (.ref f5) = true)
    (a6 : PySem.W.nsIn K mainGlobals "is_word" = some (some (.ref f6))) (l6 : K.lookup f6 = some ⟨oc6, od6, .func (PySem.W.fnOf "is_word" "is_word" (defArgs s_is_word) (defBody s_is_word) (defScope s_is_word) .none kV6 dc6 pm6 an6 cd6 ct6), sl6⟩) (c6 : PySem.W.codeIn K cd6 "is_word" = true) (k6 : PySem.W.keepIn K (.ref f6) = true)
    (a7 : PySem.W.nsIn K mainGlobals "is_number_of_row" = some (some (.ref f7))) (l7 : K.lookup f7 = some ⟨oc7, od7, .func (PySem.W.fnOf "is_number_of_row" "is_number_of_row" (defArgs s_is_number_of_row) (defBody s_is_number_of_row) (defScope s_is_number_of_row) .none kV7 dc7 pm7 an7 cd7 ct7), sl7⟩) (c7 : PySem.W.codeIn K cd7 "is_number_of_row" = true) (k7 : PySem.W.keepIn K (.ref f7) = true)
    (a8 : PySem.W.nsIn K mainGlobals "are_names" = some (some (.ref f8))) (l8 : K.lookup f8 = some ⟨oc8, od8, .func (PySem.W.fnOf "are_names" "are_names" (defArgs s_are_names) (defBody s_are_names) (defScope s_are_names) .none kV8 dc8 pm8 an8 cd8 ct8), sl8⟩) (c8 : PySem.W.codeIn K cd8 "are_names" = true) (k8 : PySem.W.keepIn K (.ref f8) = true)
    (a9 : PySem.W.nsIn K mainGlobals "are_patterns" = some (some (.ref f9))) (l9 : K.lookup f9 = some ⟨oc9, od9, .func (PySem.W.fnOf "are_patterns" "are_patterns" (defArgs s_are_patterns) (defBody s_are_patterns) (defScope s_are_patterns) .none kV9 dc9 pm9 an9 cd9 ct9), sl9⟩) (c9 : PySem.W.codeIn K cd9 "are_patterns" = true) (k9 : PySem.W.keepIn K (.ref f9) = true)
    (a10 : PySem.W.nsIn K mainGlobals "are_numbers_of_rows" = some (some (.ref f10))) (l10 : K.lookup f10 = some ⟨oc10, od10, .func (PySem.W.fnOf "are_numbers_of_rows" "are_numbers_of_rows" (defArgs s_are_numbers_of_rows) (defBody s_are_numbers_of_rows) (defScope s_are_numbers_of_rows) .none kV10 dc10 pm10 an10 cd10 ct10), sl10⟩) (c10 : PySem.W.codeIn K cd10 "are_numbers_of_rows" = true) (k10 : PySem.W.keepIn K (.ref f10) = true)
    (a11 : PySem.W.nsIn K mainGlobals "common_word" = some (some (.ref f11))) (l11 : K.lookup f11 = some ⟨oc11, od11, .func (PySem.W.fnOf "common_word" "common_word" (defArgs s_common_word) (defBody s_common_word) (defScope s_common_word) .none kV11 dc11 pm11 an11 cd11 ct11), sl11⟩) (c11 : PySem.W.codeIn K cd11 "common_word" = true) (k11 : PySem.W.keepIn K (.ref f11) = true)
    (a12 : PySem.W.nsIn K mainGlobals "without_doubles" = some (some (.ref f12))) (l12 : K.lookup f12 = some ⟨oc12, od12, .func (PySem.W.fnOf "without_doubles" "without_doubles" (defArgs s_without_doubles) (defBody s_without_doubles) (defScope s_without_doubles) .none kV12 dc12 pm12 an12 cd12 ct12), sl12⟩) (c12 : PySem.W.codeIn K cd12 "without_doubles" = true) (k12 : PySem.W.keepIn K (.ref f12) = true)
    (a13 : PySem.W.nsIn K mainGlobals "_law_bag" = some (some (.ref f13))) (l13 : K.lookup f13 = some ⟨oc13, od13, .func (PySem.W.fnOf "_law_bag" "_law_bag" (defArgs s_l_bag) (defBody s_l_bag) (defScope s_l_bag) .none kV13 dc13 pm13 an13 cd13 ct13), sl13⟩) (c13 : PySem.W.codeIn K cd13 "_law_bag" = true) (k13 : PySem.W.keepIn K (.ref f13) = true)
    (a14 : PySem.W.nsIn K mainGlobals "_law_take" = some (some (.ref f14))) (l14 : K.lookup f14 = some ⟨oc14, od14, .func (PySem.W.fnOf "_law_take" "_law_take" (defArgs s_l_take) (defBody s_l_take) (defScope s_l_take) .none kV14 dc14 pm14 an14 cd14 ct14), sl14⟩) (c14 : PySem.W.codeIn K cd14 "_law_take" = true) (k14 : PySem.W.keepIn K (.ref f14) = true)
    (a15 : PySem.W.nsIn K mainGlobals "_law_alike" = some (some (.ref f15))) (l15 : K.lookup f15 = some ⟨oc15, od15, .func (PySem.W.fnOf "_law_alike" "_law_alike" (defArgs s_l_alike) (defBody s_l_alike) (defScope s_l_alike) .none kV15 dc15 pm15 an15 cd15 ct15), sl15⟩) (c15 : PySem.W.codeIn K cd15 "_law_alike" = true) (k15 : PySem.W.keepIn K (.ref f15) = true)
    (a16 : PySem.W.nsIn K mainGlobals "_law_some" = some (some (.ref f16))) (l16 : K.lookup f16 = some ⟨oc16, od16, .func (PySem.W.fnOf "_law_some" "_law_some" (defArgs s_l_some) (defBody s_l_some) (defScope s_l_some) .none kV16 dc16 pm16 an16 cd16 ct16), sl16⟩) (c16 : PySem.W.codeIn K cd16 "_law_some" = true) (k16 : PySem.W.keepIn K (.ref f16) = true)
    (a17 : PySem.W.nsIn K mainGlobals "_law_names" = some (some (.ref f17))) (l17 : K.lookup f17 = some ⟨oc17, od17, .func (PySem.W.fnOf "_law_names" "_law_names" (defArgs s_l_names) (defBody s_l_names) (defScope s_l_names) .none kV17 dc17 pm17 an17 cd17 ct17), sl17⟩) (c17 : PySem.W.codeIn K cd17 "_law_names" = true) (k17 : PySem.W.keepIn K (.ref f17) = true)
    (a18 : PySem.W.nsIn K mainGlobals "_law_world" = some (some (.ref f18))) (l18 : K.lookup f18 = some ⟨oc18, od18, .func (PySem.W.fnOf "_law_world" "_law_world" (defArgs s_l_world) (defBody s_l_world) (defScope s_l_world) .none kV18 dc18 pm18 an18 cd18 ct18), sl18⟩) (c18 : PySem.W.codeIn K cd18 "_law_world" = true) (k18 : PySem.W.keepIn K (.ref f18) = true)
    (a19 : PySem.W.nsIn K mainGlobals "_law_atom" = some (some (.ref f19))) (l19 : K.lookup f19 = some ⟨oc19, od19, .func (PySem.W.fnOf "_law_atom" "_law_atom" (defArgs s_l_atom) (defBody s_l_atom) (defScope s_l_atom) .none kV19 dc19 pm19 an19 cd19 ct19), sl19⟩) (c19 : PySem.W.codeIn K cd19 "_law_atom" = true) (k19 : PySem.W.keepIn K (.ref f19) = true)
    (a20 : PySem.W.nsIn K mainGlobals "_law_fact" = some (some (.ref f20))) (l20 : K.lookup f20 = some ⟨oc20, od20, .func (PySem.W.fnOf "_law_fact" "_law_fact" (defArgs s_l_fact) (defBody s_l_fact) (defScope s_l_fact) .none kV20 dc20 pm20 an20 cd20 ct20), sl20⟩) (c20 : PySem.W.codeIn K cd20 "_law_fact" = true) (k20 : PySem.W.keepIn K (.ref f20) = true)
    (a21 : PySem.W.nsIn K mainGlobals "_law_row" = some (some (.ref f21))) (l21 : K.lookup f21 = some ⟨oc21, od21, .func (PySem.W.fnOf "_law_row" "_law_row" (defArgs s_l_row) (defBody s_l_row) (defScope s_l_row) .none kV21 dc21 pm21 an21 cd21 ct21), sl21⟩) (c21 : PySem.W.codeIn K cd21 "_law_row" = true) (k21 : PySem.W.keepIn K (.ref f21) = true)
    (a22 : PySem.W.nsIn K mainGlobals "_law_rows" = some (some (.ref f22))) (l22 : K.lookup f22 = some ⟨oc22, od22, .func (PySem.W.fnOf "_law_rows" "_law_rows" (defArgs s_l_rows) (defBody s_l_rows) (defScope s_l_rows) .none kV22 dc22 pm22 an22 cd22 ct22), sl22⟩) (c22 : PySem.W.codeIn K cd22 "_law_rows" = true) (k22 : PySem.W.keepIn K (.ref f22) = true)
    (a23 : PySem.W.nsIn K mainGlobals "_law_pattern" = some (some (.ref f23))) (l23 : K.lookup f23 = some ⟨oc23, od23, .func (PySem.W.fnOf "_law_pattern" "_law_pattern" (defArgs s_l_pattern) (defBody s_l_pattern) (defScope s_l_pattern) .none kV23 dc23 pm23 an23 cd23 ct23), sl23⟩) (c23 : PySem.W.codeIn K cd23 "_law_pattern" = true) (k23 : PySem.W.keepIn K (.ref f23) = true)
    (a24 : PySem.W.nsIn K mainGlobals "_law_start" = some (some (.ref f24))) (l24 : K.lookup f24 = some ⟨oc24, od24, .func (PySem.W.fnOf "_law_start" "_law_start" (defArgs s_l_start) (defBody s_l_start) (defScope s_l_start) .none kV24 dc24 pm24 an24 cd24 ct24), sl24⟩) (c24 : PySem.W.codeIn K cd24 "_law_start" = true) (k24 : PySem.W.keepIn K (.ref f24) = true)
    (a25 : PySem.W.nsIn K mainGlobals "_law_pairs" = some (some (.ref f25))) (l25 : K.lookup f25 = some ⟨oc25, od25, .func (PySem.W.fnOf "_law_pairs" "_law_pairs" (defArgs s_l_pairs) (defBody s_l_pairs) (defScope s_l_pairs) .none kV25 dc25 pm25 an25 cd25 ct25), sl25⟩) (c25 : PySem.W.codeIn K cd25 "_law_pairs" = true) (k25 : PySem.W.keepIn K (.ref f25) = true)
    (a26 : PySem.W.nsIn K mainGlobals "_law_licence" = some (some (.ref f26))) (l26 : K.lookup f26 = some ⟨oc26, od26, .func (PySem.W.fnOf "_law_licence" "_law_licence" (defArgs s_l_licence) (defBody s_l_licence) (defScope s_l_licence) .none kV26 dc26 pm26 an26 cd26 ct26), sl26⟩) (c26 : PySem.W.codeIn K cd26 "_law_licence" = true) (k26 : PySem.W.keepIn K (.ref f26) = true)
    (a27 : PySem.W.nsIn K mainGlobals "_law_made_licence" = some (some (.ref f27))) (l27 : K.lookup f27 = some ⟨oc27, od27, .func (PySem.W.fnOf "_law_made_licence" "_law_made_licence" (defArgs s_l_made_licence) (defBody s_l_made_licence) (defScope s_l_made_licence) .none kV27 dc27 pm27 an27 cd27 ct27), sl27⟩) (c27 : PySem.W.codeIn K cd27 "_law_made_licence" = true) (k27 : PySem.W.keepIn K (.ref f27) = true)
    (a28 : PySem.W.nsIn K mainGlobals "_law_made" = some (some (.ref f28))) (l28 : K.lookup f28 = some ⟨oc28, od28, .func (PySem.W.fnOf "_law_made" "_law_made" (defArgs s_l_made) (defBody s_l_made) (defScope s_l_made) .none kV28 dc28 pm28 an28 cd28 ct28), sl28⟩) (c28 : PySem.W.codeIn K cd28 "_law_made" = true) (k28 : PySem.W.keepIn K (.ref f28) = true)
    (a29 : PySem.W.nsIn K mainGlobals "_law_heard" = some (some (.ref f29))) (l29 : K.lookup f29 = some ⟨oc29, od29, .func (PySem.W.fnOf "_law_heard" "_law_heard" (defArgs s_l_heard) (defBody s_l_heard) (defScope s_l_heard) .none kV29 dc29 pm29 an29 cd29 ct29), sl29⟩) (c29 : PySem.W.codeIn K cd29 "_law_heard" = true) (k29 : PySem.W.keepIn K (.ref f29) = true)
    (a30 : PySem.W.nsIn K mainGlobals "_law_deep" = some (some (.ref f30))) (l30 : K.lookup f30 = some ⟨oc30, od30, .func (PySem.W.fnOf "_law_deep" "_law_deep" (defArgs s_l_deep) (defBody s_l_deep) (defScope s_l_deep) .none kV30 dc30 pm30 an30 cd30 ct30), sl30⟩) (c30 : PySem.W.codeIn K cd30 "_law_deep" = true) (k30 : PySem.W.keepIn K (.ref f30) = true)
    (a31 : PySem.W.nsIn K mainGlobals "_law_bad_part" = some (some (.ref f31))) (l31 : K.lookup f31 = some ⟨oc31, od31, .func (PySem.W.fnOf "_law_bad_part" "_law_bad_part" (defArgs s_l_bad_part) (defBody s_l_bad_part) (defScope s_l_bad_part) .none kV31 dc31 pm31 an31 cd31 ct31), sl31⟩) (c31 : PySem.W.codeIn K cd31 "_law_bad_part" = true) (k31 : PySem.W.keepIn K (.ref f31) = true)
    (a32 : PySem.W.nsIn K mainGlobals "law" = some (some (.ref f32))) (l32 : K.lookup f32 = some ⟨oc32, od32, .func (PySem.W.fnOf "law" "law" (defArgs s_law) (defBody s_law) (defScope s_law) .none kV32 dc32 pm32 an32 cd32 ct32), sl32⟩) (c32 : PySem.W.codeIn K cd32 "law" = true) (k32 : PySem.W.keepIn K (.ref f32) = true)
    (z_abs : PySem.W.nsIn K mainGlobals "abs" = some none)
    (z_all : PySem.W.nsIn K mainGlobals "all" = some none)
    (z_any : PySem.W.nsIn K mainGlobals "any" = some none)
    (z_bool : PySem.W.nsIn K mainGlobals "bool" = some none)
    (z_dict : PySem.W.nsIn K mainGlobals "dict" = some none)
    (z_enumerate : PySem.W.nsIn K mainGlobals "enumerate" = some none)
    (z_int : PySem.W.nsIn K mainGlobals "int" = some none)
    (z_isinstance : PySem.W.nsIn K mainGlobals "isinstance" = some none)
    (z_len : PySem.W.nsIn K mainGlobals "len" = some none)
    (z_list : PySem.W.nsIn K mainGlobals "list" = some none)
    (z_min : PySem.W.nsIn K mainGlobals "min" = some none)
    (z_range : PySem.W.nsIn K mainGlobals "range" = some none)
    (z_repr : PySem.W.nsIn K mainGlobals "repr" = some none)
    (z_set : PySem.W.nsIn K mainGlobals "set" = some none)
    (z_sorted : PySem.W.nsIn K mainGlobals "sorted" = some none)
    (z_str : PySem.W.nsIn K mainGlobals "str" = some none)
    (z_tuple : PySem.W.nsIn K mainGlobals "tuple" = some none)
    (z_zip : PySem.W.nsIn K mainGlobals "zip" = some none)
    (gLong : PySem.W.nsIn K mainGlobals "LONGEST_NAME" = some (some (.int 8 tL)))
    (gRel : PySem.W.nsIn K mainGlobals "RELATIONS" = some (some (.ref rel)))
    (lRel : K.lookup rel = some ⟨.type "tuple", odR, .seq #[.str "eq" u1, .str "lt" u2, .str "gt" u3] nR, slR⟩)
    (ghm : PySem.W.nsIn K mainGlobals "HOMES" = some (some (.ref hm)))
    (lhm : K.lookup hm = some ⟨.type "tuple", odhm, .seq #[.str "goal" hm0, .str "book" hm1] nhm, slhm⟩)
    (gwo : PySem.W.nsIn K mainGlobals "WORDS" = some (some (.ref wo)))
    (lwo : K.lookup wo = some ⟨.type "tuple", odwo, .seq #[.str "none" wo0, .str "front" wo1, .str "back" wo2, .str "any" wo3] nwo, slwo⟩)
    (gso : PySem.W.nsIn K mainGlobals "SORTS" = some (some (.ref so)))
    (lso : K.lookup so = some ⟨.type "tuple", odso, .seq #[.str "call" so0, .str "more" so1, .str "out" so2, .str "part" so3, .str "turn" so4] nso, slso⟩)
    (xg0 : PySem.W.nsIn K mainGlobals "Wrong" = some (some (.ref C0)))
    (l0x : K.lookup C0 = some (excClassObj nm0 qn0 C0 NN0 bs0 (.ref PE_ :: veB) true sn0 sub0 ab0 col0 dd0 p0 q0 r0 s0 t0 "ValueError.__new__"))
    (ga0 : PySem.W.findIn K (.ref C0) "__getattribute__" = some (some (.builtin "BaseException.__getattribute__")))
    (gg0 : PySem.W.findIn K (.ref C0) "__getattr__" = some none)
    (hd0 : PySem.W.hasDictIn K C0 = true)
    (ha0 : PySem.W.findIn K (.ref C0) "__class__" = some (some (.builtin "object.__class__")))
    (mr0 : PySem.W.mroIn K C0 (.type "object") = some true)
    (kp0 : PySem.W.keepIn K (.ref C0) = true)
    (sa0 : PySem.W.findIn K (.ref C0) "__setattr__" = some (some (.builtin "object.__setattr__")))
    (in0 : PySem.W.findIn K (.ref C0) "__init__" = some (some (.ref fe0)))
    (fn0 : PySem.W.typeIn K (.ref fe0) = some (.type "function"))
    (lk0 : K.lookup fe0 = some ⟨oce0, ode0, .func (PySem.W.fnOf "__init__" "Wrong.__init__" (defArgs s_Wrong___init__) (defBody s_Wrong___init__) (defScope s_Wrong___init__) .none kVe0 dce0 pme0 ane0 cde0 cte0), sle0⟩)
    (cc0 : PySem.W.codeIn K cde0 "Wrong.__init__" = true)
    (kk0 : PySem.W.keepIn K (.ref fe0) = true)
    (no0 : PySem.W.findIn K (.ref C0) "place" = some none)
    (gP : PySem.W.nsIn K mainGlobals "PickError" = some (some (.ref PE_)))
    (cHn : PySem.W.specialIn K (.builtin "object.__class__") "__get__" = some (some (.builtin "getset_descriptor.__get__")))
    (cTk : PySem.W.takesIn K (.builtin "object.__class__") = some true)
    (pEx : PySem.W.subIn K (.ref PE_) (.type "BaseException") = some true)
    (pHd : PySem.W.hasDictIn K PE_ = true)
    (pTy : PySem.W.typeIn K (.ref PE_) = some (.type "type"))
    (nd : ∀ i, i < 1 → ∀ j, j < 1 → i ≠ j → ([C0] : List Addr).getD i 0 ≠ ([C0] : List Addr).getD j 0)
    (np : ∀ j, j < 1 → ([C0] : List Addr).getD j 0 ≠ PE_)
    (gBE : PySem.W.nsIn K mainGlobals "BadEdit" = some (some (.ref CB)))
    (kBad : PySem.W.kitOne K (.ref C0) (.ref CB) = some false)
    (gA : PySem.W.nsIn K mainGlobals "Licence" = some (some (.ref C)))
    (aAinit : PySem.W.findIn K (.ref C) "__init__" = some (some (.ref fAinit)))
    (iAinit : PySem.W.isFn K (.ref fAinit) = true)
    (lkAinit : K.lookup fAinit = some ⟨ocAinit, odAinit, .func (PySem.W.fnOf "__init__" "Licence.__init__" (defArgs s_Licence___init__) (defBody s_Licence___init__) (defScope s_Licence___init__) .none kVAinit dcAinit pmAinit anAinit cdAinit ctAinit), slAinit⟩)
    (cAinit : PySem.W.codeIn K cdAinit "Licence.__init__" = true)
    (kAinit : PySem.W.keepIn K (.ref fAinit) = true)
    (pgA : PySem.W.plainGet K C Str.empty = true)
    (hdA : PySem.W.hasDictIn K C = true)
    (poA : PySem.W.plainOver K C = true)
    (saA : PySem.W.findIn K (.ref C) "__setattr__" = some (some (.builtin "object.__setattr__")))
    (mkA : PySem.W.makesIn K C = true)
    (kcA : PySem.W.keepIn K (.ref C) = true)
    (nA0 : PySem.W.findIn K (.ref C) "words_told" = some none)
    (nA1 : PySem.W.findIn K (.ref C) "barred_names" = some none)
    (nA2 : PySem.W.findIn K (.ref C) "barred_patterns" = some none)
    (nA3 : PySem.W.findIn K (.ref C) "rows_told" = some none)
    (haA : PySem.W.findIn K (.ref C) "__class__" = some (some (.builtin "object.__class__")))
    (mrA : PySem.W.mroIn K C (.type "object") = some true) :
    ∃ fd : FuncData, (∀ (s : Shared) (v : Value), BindsTo s fd ⟨[v], []⟩ [("_law_script", v)]) ∧ ∀ base : Heap, K.In base → base.Ns mainGlobals mg → SysAt base → FnG P w K mg base 9 fa fd ["_law_script"] (spLaw K) := by
  have e := hfa.symm.trans (PySem.W.mg_of X G a32)
  cases e
  have D_is_integer : Df K mg "is_integer" s_is_integer := df_mk X G a0 l0 c0 k0
  have D_is_name : Df K mg "is_name" s_is_name := df_mk X G a1 l1 c1 k1
  have D_is_relation : Df K mg "is_relation" s_is_relation := df_mk X G a2 l2 c2 k2
  have D_is_home : Df K mg "is_home" s_is_home := df_mk X G a3 l3 c3 k3
  have D_is_blank : Df K mg "is_blank" s_is_blank := df_mk X G a4 l4 c4 k4
  have D_is_pattern : Df K mg "is_pattern" s_is_pattern := df_mk X G a5 l5 c5 k5
  have D_is_word : Df K mg "is_word" s_is_word := df_mk X G a6 l6 c6 k6
  have D_is_number_of_row : Df K mg "is_number_of_row" s_is_number_of_row := df_mk X G a7 l7 c7 k7
  have D_are_names : Df K mg "are_names" s_are_names := df_mk X G a8 l8 c8 k8
  have D_are_patterns : Df K mg "are_patterns" s_are_patterns := df_mk X G a9 l9 c9 k9
  have D_are_numbers_of_rows : Df K mg "are_numbers_of_rows" s_are_numbers_of_rows := df_mk X G a10 l10 c10 k10
  have D_common_word : Df K mg "common_word" s_common_word := df_mk X G a11 l11 c11 k11
  have D_without_doubles : Df K mg "without_doubles" s_without_doubles := df_mk X G a12 l12 c12 k12
  have D_l_bag : Df K mg "_law_bag" s_l_bag := df_mk X G a13 l13 c13 k13
  have D_l_take : Df K mg "_law_take" s_l_take := df_mk X G a14 l14 c14 k14
  have D_l_alike : Df K mg "_law_alike" s_l_alike := df_mk X G a15 l15 c15 k15
  have D_l_some : Df K mg "_law_some" s_l_some := df_mk X G a16 l16 c16 k16
  have D_l_names : Df K mg "_law_names" s_l_names := df_mk X G a17 l17 c17 k17
  have D_l_world : Df K mg "_law_world" s_l_world := df_mk X G a18 l18 c18 k18
  have D_l_atom : Df K mg "_law_atom" s_l_atom := df_mk X G a19 l19 c19 k19
  have D_l_fact : Df K mg "_law_fact" s_l_fact := df_mk X G a20 l20 c20 k20
  have D_l_row : Df K mg "_law_row" s_l_row := df_mk X G a21 l21 c21 k21
  have D_l_rows : Df K mg "_law_rows" s_l_rows := df_mk X G a22 l22 c22 k22
  have D_l_pattern : Df K mg "_law_pattern" s_l_pattern := df_mk X G a23 l23 c23 k23
  have D_l_start : Df K mg "_law_start" s_l_start := df_mk X G a24 l24 c24 k24
  have D_l_pairs : Df K mg "_law_pairs" s_l_pairs := df_mk X G a25 l25 c25 k25
  have D_l_licence : Df K mg "_law_licence" s_l_licence := df_mk X G a26 l26 c26 k26
  have D_l_made_licence : Df K mg "_law_made_licence" s_l_made_licence := df_mk X G a27 l27 c27 k27
  have D_l_made : Df K mg "_law_made" s_l_made := df_mk X G a28 l28 c28 k28
  have D_l_heard : Df K mg "_law_heard" s_l_heard := df_mk X G a29 l29 c29 k29
  have D_l_deep : Df K mg "_law_deep" s_l_deep := df_mk X G a30 l30 c30 k30
  have D_l_bad_part : Df K mg "_law_bad_part" s_l_bad_part := df_mk X G a31 l31 c31 k31
  have F_law := fun_mk (st := s_law) l32 c32 k32
  refine ⟨PySem.W.fnOf "law" "law" (defArgs s_law) (defBody s_law) (defScope s_law) .none kV32 dc32 pm32 an32 cd32 ct32, fun s v => .of_eq rfl, fun base _ _ hsys => ?_⟩
  have T : Txt0 mg := ⟨PySem.W.mg_none_of X G z_abs, PySem.W.mg_none_of X G z_int, PySem.W.mg_none_of X G z_len, PySem.W.mg_none_of X G z_tuple, PySem.W.mg_none_of X G z_list, PySem.W.mg_none_of X G z_all, PySem.W.mg_none_of X G z_any, PySem.W.mg_none_of X G z_zip, PySem.W.mg_none_of X G z_range, PySem.W.mg_none_of X G z_repr, PySem.W.mg_none_of X G z_dict⟩
  have TI : TxtI K mg rel := ⟨PySem.W.mg_none_of X G z_isinstance, PySem.W.mg_none_of X G z_str, PySem.W.mg_none_of X G z_bool, T.tuple, ⟨_, PySem.W.mg_of X G gLong⟩, PySem.W.mg_of X G gRel, fun H => .inr ⟨_, _, _, lRel, rfl, rfl, by show 3 ≤ sizeLine; decide, .cons ⟨_, rfl⟩ (.cons ⟨_, rfl⟩ (.cons ⟨_, rfl⟩ .nil))⟩⟩
  have TZ : TxtZ mg := ⟨PySem.W.mg_none_of X G z_sorted, PySem.W.mg_none_of X G z_set⟩
  have T_enumerate := PySem.W.mg_none_of X G z_enumerate
  have T_min := PySem.W.mg_none_of X G z_min
  have TL : TxtL K mg rel hm wo so := ⟨TI, PySem.W.mg_of X G ghm, fun H => .inr ⟨_, _, _, lhm, rfl, rfl, by show 2 ≤ sizeLine; decide, .cons ⟨_, rfl⟩ (.cons ⟨_, rfl⟩ (.nil))⟩, PySem.W.mg_of X G gwo, fun H => .inr ⟨_, _, _, lwo, rfl, rfl, by show 4 ≤ sizeLine; decide, .cons ⟨_, rfl⟩ (.cons ⟨_, rfl⟩ (.cons ⟨_, rfl⟩ (.cons ⟨_, rfl⟩ (.nil))))⟩, PySem.W.mg_of X G gso, fun H => .inr ⟨_, _, _, lso, rfl, rfl, by show 5 ≤ sizeLine; decide, .cons ⟨_, rfl⟩ (.cons ⟨_, rfl⟩ (.cons ⟨_, rfl⟩ (.cons ⟨_, rfl⟩ (.cons ⟨_, rfl⟩ (.nil)))))⟩⟩
  let cl : Nat → Addr := fun i => ([C0] : List Addr).getD i 0
  have ok0 := clsOk_of l0x
  have oks : ∀ i, i < 1 → ClsOk K (cl i) PE_ := fun k hk => match k, hk with | 0, _ => ok0 | n + 1, h => absurd h (by omega)
  have OX0 : OexC K C0 := ⟨⟨_, _, _, _, _, _, _, _, _, _, _, _, _, _, _, l0x, rfl⟩, sa0, sub_has ok0 (by decide +kernel), ok0.ty, kp0⟩
  have FI0 := fun_mk (st := s_Wrong___init__) lk0 cc0 kk0
  have BI0 := FI0.binds (ps := ["self", "place"]) fun _ _ _ _ _ _ us hl => match us, hl with | [_, _], _ => rfl
  have c_Wrong : ErrF P w K mg base "Wrong" "place" C0 := ⟨PySem.W.mg_of X G xg0, OX0, _, _, in0, fn0, ok_i_Wrong OX0 no0 FI0, BI0⟩
  have XC0 : ExcC K C0 := ⟨ga0, gg0, sub_has ok0 (by decide +kernel), hd0, ha0, cHn, cTk, mr0⟩
  have EM0 : PySem.W.exmOne K (.ref C0) (.ref PE_) = some true := PySem.W.exm_ref pEx pHd pTy (sub_pe ok0)
  have ES : Er55 K mg C0 CB PE_ := ⟨PySem.W.mg_of X G xg0, PySem.W.mg_of X G gBE, PySem.W.mg_of X G gP, XC0, no0, (by unfold PySem.W.kitOne; rw [if_pos (beq_self_eq_true _)]), kBad, EM0⟩
  have CL_A : Cls K C := ⟨pgA, hdA, poA, saA⟩
  have F_Ainit := fun_mk (st := s_Licence___init__) lkAinit cAinit kAinit
  have kbA := Own.Fun.kbs F_Ainit (ps := ["self", "goal", "book", "names", "patterns", "out", "call", "turn", "part", "more"]) (ks := ["goal", "book", "names", "patterns", "out", "call", "turn", "part", "more"]) fun _ _ _ _ _ _ _ ws hl => match ws, hl with | [_, _, _, _, _, _, _, _, _], _ => by kernel_rfl
  have S : ClsL K C := ⟨CL_A, nA0, nA1, nA2, nA3⟩
  have SI : ClsI K C := ⟨haA, cHn, cTk, mrA⟩
  have c_l_take : CalG P w K mg base 1 "_law_take" spTake := take_ext (ok_takeL T D_l_take)
  have c_l_bag := bag_ext (ok_bagL (P := P) (w := w) (base := base) T D_l_bag)
  have c_l_some := ok_some T D_l_some c_l_take
  have c_l_names := ok_names T D_l_names c_l_take
  have c_l_atom := ok_atom T D_l_atom c_l_take c_l_some
  have c_l_fact := ok_fact T D_l_fact c_l_take c_l_atom
  have c_l_pattern := ok_pattern T D_l_pattern c_l_take c_l_atom
  have c_l_alike := ok_alike (P := P) (w := w) (base := base) T D_l_alike
  have c_is_name := ok_is_name (P := P) (w := w) (base := base) T TI D_is_name
  have c_is_relation := ok_is_relation (P := P) (w := w) (base := base) T TI D_is_relation
  have c_is_blank := ok_is_blank (P := P) (w := w) (base := base) T TI D_is_blank
  have c_is_pattern := ok_is_pattern T TI D_is_pattern c_is_relation c_is_name c_is_blank
  have c_l_world := ok_world T D_l_world c_l_take c_l_names
  have c_l_row := ok_row T D_l_row c_l_some c_l_fact
  have c_l_rows := ok_rows T D_l_rows c_l_take c_l_row
  have c_l_start := ok_start31 T D_l_start c_l_row c_l_rows c_l_atom
  have c_is_integer := ok_is_integer (P := P) (w := w) (base := base) T TL D_is_integer
  have c_is_home := ok_is_home (P := P) (w := w) (base := base) T TL D_is_home
  have c_is_word := ok_is_word (P := P) (w := w) (base := base) T TL D_is_word
  have c_is_number_of_row := ok_is_number T TL D_is_number_of_row c_is_home c_is_integer
  have c_are_names := ok_are_names T TL D_are_names c_is_name
  have c_are_patterns := ok_are_patterns T TL D_are_patterns c_is_pattern
  have c_are_numbers_of_rows := ok_are_numbers T TL D_are_numbers_of_rows c_is_number_of_row
  have c_common_word := ok_common (P := P) (w := w) (base := base) T D_common_word
  have c_without_doubles := ok_wd (P := P) (w := w) (base := base) T TZ D_without_doubles
  have MKK : MakKN P w K mg base 4 "Licence" C ["goal", "book", "names", "patterns", "out", "call", "turn", "part", "more"] (spLX C C0) := ⟨PySem.W.mg_of X G gA, _, _, _, ok_linx S T TZ T_enumerate c_Wrong c_is_word c_are_names c_are_patterns c_are_numbers_of_rows c_without_doubles F_Ainit, ⟨mkA, aAinit, iAinit, kcA⟩, kbA⟩
  have c_l_made_licence := ok_mlx T MKK D_l_made_licence
  have c_l_made := ok_mx T c_l_made_licence D_l_made
  have c_l_heard := ok_heard T TI CL_A SI (PySem.W.mg_of X G gA) ES c_l_made D_l_heard
  have c_l_deep := ok_deep (P := P) (w := w) (base := base) T D_l_deep
  have c_l_bad_part := ok_bad T D_l_bad_part c_l_some c_l_deep
  have c_l_pairs := ok_pairs (P := P) (w := w) (base := base) T D_l_pairs
  have c_l_licence := ok_licence T TZ c_l_take c_l_some c_l_pattern c_l_pairs D_l_licence
  exact ok_law T T_min hsys F_law c_l_bag c_l_world c_l_take c_l_start c_l_alike c_l_licence c_l_heard c_l_bad_part
theorem walk {l : PySem.W.OpenLaw} {q : Program} {loose : List Str} {XP : (Str → Option Value) → Heap → Prop} {YP : World → Heap → Prop} {d : DefRec} {K : Params → PySem.W.Frag} (most : l.most = some 63) (nodf : d.params.defaults = [])
    (inn : ∀ (w : World) (h : Heap), YP w h → (K w.params).In h)
    (F : ∀ (w : World) (mg : Str → Option Value) (fa : Addr) (h : Heap), (K w.params).In h → h.Ns mainGlobals mg → mg d.name = some (.ref fa) →
      ∃ fd : FuncData, (∀ (s : Shared) (u : Value), BindsTo s fd ⟨[u], []⟩ [("_law_script", u)]) ∧ ∀ base : Heap, (K w.params).In base → base.Ns mainGlobals mg → SysAt base → FnG l.prog w (K w.params) mg base 9 fa fd ["_law_script"] (spLaw (K w.params))) (imps : importsNone q = true) :
    PySem.W.WalkO q loose XP YP l.row.toRowW d [] (fun f vs => PySem.call f vs) :=
  walk_S (n := 63) (k := 9) (x := "_law_script") (sp := fun w => spLaw (K w.params)) most (by decide) nodf ⟨rfl, by decide, by decide⟩ imps inn F (fun _ _ a ns hl hS => ⟨a, ns, rfl, hS, hl, fun _ => rfl⟩)
end Own
def PySem.W.Fast.tw16015422301156086963 : Nat := 0
def PySem.W.Fast.tw14768875553483082563 : Nat := 0
def PySem.W.Fast.tw7790989896704027521 : Nat := 0
def PySem.W.Fast.tw6753403285266254199 : Nat := 0
def PySem.W.Fast.tw12227589346002352536 : Nat := 0
def PySem.W.Fast.tw14796496529881092014 : Nat := 0
def PySem.W.Fast.tw13599458579664609134 : Nat := 0
def PySem.W.Fast.tw186523847616611627 : Nat := 0
def PySem.W.Fast.tw800017247403628515 : Nat := 0
def PySem.W.Fast.tw2310856246933200283 : Nat := 0
def PySem.W.Fast.tw2532531407447336316 : Nat := 0
def PySem.W.Fast.tw13203569615773683576 : Nat := 0
def PySem.W.Fast.tw4571335611085801990 : Nat := 0
open PySem PySem.W PyProof.Rows in
set_option maxRecDepth 100000 in
set_option maxHeartbeats 0 in
theorem PySem.Challenge.cw_scriptpicks_k55_licences_refused_holds : PySem.Challenge.rw_scriptpicks_k55_licences_refused.Holds := by
  w_on; o_law; k_head; (case hw => w_witness2)
  k_fill
  refine Own.walk (l := PySem.Challenge.rw_scriptpicks_k55_licences_refused) rfl rfl (fun w h Y => PySem.W.kIn_of Y) ?F ?imps
  case imps => decide +kernel
  case F =>
    intro w mg fa h KX G hmg
    refine' Own.all_mk KX G hmg ?a0 ?l0 ?c0 ?k0 ?a1 ?l1 ?c1 ?k1 ?a2 ?l2 ?c2 ?k2 ?a3 ?l3 ?c3 ?k3 ?a4 ?l4 ?c4 ?k4 ?a5 ?l5 ?c5 ?k5 ?a6 ?l6 ?c6 ?k6 ?a7 ?l7 ?c7 ?k7 ?a8 ?l8 ?c8 ?k8 ?a9 ?l9 ?c9 ?k9 ?a10 ?l10 ?c10 ?k10 ?a11 ?l11 ?c11 ?k11 ?a12 ?l12 ?c12 ?k12 ?a13 ?l13 ?c13 ?k13 ?a14 ?l14 ?c14 ?k14 ?a15 ?l15 ?c15 ?k15 ?a16 ?l16 ?c16 ?k16 ?a17 ?l17 ?c17 ?k17 ?a18 ?l18 ?c18 ?k18 ?a19 ?l19 ?c19 ?k19 ?a20 ?l20 ?c20 ?k20 ?a21 ?l21 ?c21 ?k21 ?a22 ?l22 ?c22 ?k22 ?a23 ?l23 ?c23 ?k23 ?a24 ?l24 ?c24 ?k24 ?a25 ?l25 ?c25 ?k25 ?a26 ?l26 ?c26 ?k26 ?a27 ?l27 ?c27 ?k27 ?a28 ?l28 ?c28 ?k28 ?a29 ?l29 ?c29 ?k29 ?a30 ?l30 ?c30 ?k30 ?a31 ?l31 ?c31 ?k31 ?a32 ?l32 ?c32 ?k32 ?z_abs ?z_all ?z_any ?z_bool ?z_dict ?z_enumerate ?z_int ?z_isinstance ?z_len ?z_list ?z_min ?z_range ?z_repr ?z_set ?z_sorted ?z_str ?z_tuple ?z_zip ?gLong ?gRel ?lRel ?ghm ?lhm ?gwo ?lwo ?gso ?lso ?xg0 ?l0x ?ga0 ?gg0 ?hd0 ?ha0 ?mr0 ?kp0 ?sa0 ?in0 ?fn0 ?lk0 ?cc0 ?kk0 ?no0 ?gP ?cHn ?cTk ?pEx ?pHd ?pTy ?nd ?np ?gBE ?kBad ?gA ?aAinit ?iAinit ?lkAinit ?cAinit ?kAinit ?pgA ?hdA ?poA ?saA ?mkA ?kcA ?nA0 ?nA1 ?nA2 ?nA3 ?haA ?mrA
    (case a0 => k_is)
    (case l0 => k_is)
    (case c0 => k_is)
    (case k0 => k_is)
    (case a1 => k_is)
    (case l1 => k_is)
    (case c1 => k_is)
    (case k1 => k_is)
    (case a2 => k_is)
    (case l2 => k_is)
    (case c2 => k_is)
    (case k2 => k_is)
    (case a3 => k_is)
    (case l3 => k_is)
    (case c3 => k_is)
    (case k3 => k_is)
    (case a4 => k_is)
    (case l4 => k_is)
    (case c4 => k_is)
    (case k4 => k_is)
    (case a5 => k_is)
    (case l5 => k_is)
    (case c5 => k_is)
    (case k5 => k_is)
    (case a6 => k_is)
    (case l6 => k_is)
    (case c6 => k_is)
    (case k6 => k_is)
    (case a7 => k_is)
    (case l7 => k_is)
    (case c7 => k_is)
    (case k7 => k_is)
    (case a8 => k_is)
    (case l8 => k_is)
    (case c8 => k_is)
    (case k8 => k_is)
    (case a9 => k_is)
    (case l9 => k_is)
    (case c9 => k_is)
    (case k9 => k_is)
    (case a10 => k_is)
    (case l10 => k_is)
    (case c10 => k_is)
    (case k10 => k_is)
    (case a11 => k_is)
    (case l11 => k_is)
    (case c11 => k_is)
    (case k11 => k_is)
    (case a12 => k_is)
    (case l12 => k_is)
    (case c12 => k_is)
    (case k12 => k_is)
    (case a13 => k_is)
    (case l13 => k_is)
    (case c13 => k_is)
    (case k13 => k_is)
    (case a14 => k_is)
    (case l14 => k_is)
    (case c14 => k_is)
    (case k14 => k_is)
    (case a15 => k_is)
    (case l15 => k_is)
    (case c15 => k_is)
    (case k15 => k_is)
    (case a16 => k_is)
    (case l16 => k_is)
    (case c16 => k_is)
    (case k16 => k_is)
    (case a17 => k_is)
    (case l17 => k_is)
    (case c17 => k_is)
    (case k17 => k_is)
    (case a18 => k_is)
    (case l18 => k_is)
    (case c18 => k_is)
    (case k18 => k_is)
    (case a19 => k_is)
    (case l19 => k_is)
    (case c19 => k_is)
    (case k19 => k_is)
    (case a20 => k_is)
    (case l20 => k_is)
    (case c20 => k_is)
    (case k20 => k_is)
    (case a21 => k_is)
    (case l21 => k_is)
    (case c21 => k_is)
    (case k21 => k_is)
    (case a22 => k_is)
    (case l22 => k_is)
    (case c22 => k_is)
    (case k22 => k_is)
    (case a23 => k_is)
    (case l23 => k_is)
    (case c23 => k_is)
    (case k23 => k_is)
    (case a24 => k_is)
    (case l24 => k_is)
    (case c24 => k_is)
    (case k24 => k_is)
    (case a25 => k_is)
    (case l25 => k_is)
    (case c25 => k_is)
    (case k25 => k_is)
    (case a26 => k_is)
    (case l26 => k_is)
    (case c26 => k_is)
    (case k26 => k_is)
    (case a27 => k_is)
    (case l27 => k_is)
    (case c27 => k_is)
    (case k27 => k_is)
    (case a28 => k_is)
    (case l28 => k_is)
    (case c28 => k_is)
    (case k28 => k_is)
    (case a29 => k_is)
    (case l29 => k_is)
    (case c29 => k_is)
    (case k29 => k_is)
    (case a30 => k_is)
    (case l30 => k_is)
    (case c30 => k_is)
    (case k30 => k_is)
    (case a31 => k_is)
    (case l31 => k_is)
    (case c31 => k_is)
    (case k31 => k_is)
    (case a32 => k_is)
    (case l32 => k_is)
    (case c32 => k_is)
    (case k32 => k_is)
    (case z_abs => k_is)
    (case z_all => k_is)
    (case z_any => k_is)
    (case z_bool => k_is)
    (case z_dict => k_is)
    (case z_enumerate => k_is)
    (case z_int => k_is)
    (case z_isinstance => k_is)
    (case z_len => k_is)
    (case z_list => k_is)
    (case z_min => k_is)
    (case z_range => k_is)
    (case z_repr => k_is)
    (case z_set => k_is)
    (case z_sorted => k_is)
    (case z_str => k_is)
    (case z_tuple => k_is)
    (case z_zip => k_is)
    (case gLong => k_is)
    (case gRel => k_is)
    (case lRel => k_is)
    (case ghm => k_is)
    (case lhm => k_is)
    (case gwo => k_is)
    (case lwo => k_is)
    (case gso => k_is)
    (case lso => k_is)
    (case xg0 => k_is)
    (case l0x => k_is)
    (case ga0 => k_is)
    (case gg0 => k_is)
    (case hd0 => k_is)
    (case ha0 => k_is)
    (case mr0 => k_is)
    (case kp0 => k_is)
    (case sa0 => k_is)
    (case in0 => k_is)
    (case fn0 => k_is)
    (case lk0 => k_is)
    (case cc0 => k_is)
    (case kk0 => k_is)
    (case no0 => k_is)
    (case gP => k_is)
    (case cHn => k_is)
    (case cTk => k_is)
    (case pEx => k_is)
    (case pHd => k_is)
    (case pTy => k_is)
    (case nd => decide +kernel)
    (case np => decide +kernel)
    (case gBE => k_is)
    (case kBad => kit_is)
    (case gA => k_is)
    (case aAinit => k_is)
    (case iAinit => k_is)
    (case lkAinit => k_is)
    (case cAinit => k_is)
    (case kAinit => k_is)
    (case pgA => k_is)
    (case hdA => k_is)
    (case poA => k_is)
    (case saA => k_is)
    (case mkA => k_is)
    (case kcA => k_is)
    (case nA0 => k_is)
    (case nA1 => k_is)
    (case nA2 => k_is)
    (case nA3 => k_is)
    (case haA => k_is)
    (case mrA => k_is)
