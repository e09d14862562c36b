import PyProof.Rows.All
import Wide.All
import OpenK.AllK
import Wide.FinOn
import HandS.ForMost
import HandS.Wide
import HandS.Zip
import HandS.Style
import HandS.TupAny
import HandS.Replace
import HandS.IsInst
import HandS.Codes
import HandS.Conv
import HandS.More
import HandS.Evl
import HandS.NoneIn
import HandS.Deep
import HandS.Flow
import PyProof.ReprRoads
import HandS.Walk
import PyProof.StrLawsRepr
import PyProof.Rows.RegStrFacts
import PyProof.P3Eq
import HandS.TupMul
import HandS.Dict
import KE.KRevSl
import HandS.WrittenGet
import HandS.ExcInit
import HandS.ExcField
import HandS.ExcIs
import HandS.ExcOwn
import HandS.WordsExc
import KE.KExcIs
import HandS.HotCalls
import KE.KEqNest
import HandS.RaiseMore
import HandS.ExcInitHot
import HandS.Set
import HandS.SetTxt0
import HandS.SetFor
import HandS.Strs
import PyProof.Rows.SortShellAny
import PyProof.SumAny
import PyProof.ListOps
import HandS.Property
import PyProof.EqKinds
import OpenK.KMeth
import HandS.Ends
import PySem.Challenge.RW_scriptpicks_k20_starts_told
set_option Elab.async false
set_option linter.all false
set_option maxRecDepth 100000
/-! rules of our own over the hand layer -/
namespace Own
open PySem PySem.Spec PyProof.Rows L2
section
variable {X : Cx}
theorem CallR.or {f : Value} {r r' : List V → Hp → VK → Prop} (h : CallR X f r) (h' : CallR X f r') : CallR X f (fun xs H Z => r xs H Z ∨ r' xs H Z) := by
  intro pk s τ H xs us Z I rs q
  rcases q with q | q
  · exact h pk s τ H xs us Z I rs q
  · exact h' pk s τ H xs us Z I rs q
theorem SlR.or {r r' : V → Option Int → Option Int → Hp → VK → Prop} (h : SlR X r) (h' : SlR X r') : SlR X (fun x lo hi H Z => r x lo hi H Z ∨ r' x lo hi H Z) := by
  intro pk s τ H x v vl vu lo hi sl Z I rx hst pl pu q
  rcases q with q | q
  · exact h pk s τ H x v vl vu lo hi sl Z I rx hst pl pu q
  · exact h' pk s τ H x v vl vu lo hi sl Z I rx hst pl pu q
theorem PI.or {tg iter : Expr} {w w' : TI} (h : PI X tg iter w) (h' : PI X tg iter w') : PI X tg iter (fun τ H R => w τ H R ∨ w' τ H R) :=
  ⟨fun pk s τ H R I q => q.elim (h.run pk s τ H R I) (h'.run pk s τ H R I)⟩
/-! ### unions: the reading chooses -/
def rAddI : R2 := rI0 fun i j => .int (i + j)
def rAddS : R2 := fun x y H Z => ∃ i j, x = .str i ∧ y = .str j ∧ i.length + j.length ≤ sizeLine ∧ Z (.str (i ++ j)) H
def rAdd (K : PySem.W.Frag) : R2 := fun x y H Z => rAddI x y H Z ∨ rAddS x y H Z ∨ rCat x y H Z ∨ rCatA K x y H Z
theorem opAdd : OpR X (binaryOp .Add) (rAdd X.K) := OpR.or op_add (OpR.or op_add_str (OpR.or op_cat op_catA))
def rMulI : R2 := rI CMul fun i j => .int (i * j)
def rMul : R2 := fun x y H Z => rMulI x y H Z ∨ rRep x y H Z
theorem opMul : OpR X (binaryOp .Mult) rMul := OpR.or op_mul op_rep
def rEqA (K : PySem.W.Frag) : R2 := fun x y H Z => rEq x y H Z ∨ rEqD K x y H Z
def rNeA (K : PySem.W.Frag) : R2 := fun x y H Z => rNe x y H Z ∨ rNeD K x y H Z
theorem opEq {k : Nat} (hr : Room k X.A) : OpR X (compareOp .Eq) (rEqA X.K) := OpR.or op_eq (op_eqD hr.units)
theorem opNe {k : Nat} (hr : Room k X.A) : OpR X (compareOp .NotEq) (rNeA X.K) := OpR.or op_ne (op_neD hr.units)
def rLtI : R2 := rI0 fun i j => .bl (decide (i < j))
def rLeI : R2 := rI0 fun i j => .bl (decide (i ≤ j))
def rGtI : R2 := rI0 fun i j => .bl (decide (j < i))
def rGeI : R2 := rI0 fun i j => .bl (decide (j ≤ i))
theorem opLt : OpR X (compareOp .Lt) rLtI := op_lt
theorem opLe : OpR X (compareOp .LtE) rLeI := op_le
theorem opGt : OpR X (compareOp .Gt) rGtI := op_gt
theorem opGe : OpR X (compareOp .GtE) rGeI := op_ge
def rInS : R2 := fun x y H Z => ∃ i j, x = .str i ∧ y = .str j ∧ Z (.bl (!(Builtin.Str.occurrences j i 0 j.length 1).isEmpty)) H
def rNotInS : R2 := fun x y H Z => ∃ i j, x = .str i ∧ y = .str j ∧ Z (.bl (!(!(Builtin.Str.occurrences j i 0 j.length 1).isEmpty))) H
def rInA (K : PySem.W.Frag) : R2 := fun x y H Z => rIn K false x y H Z ∨ rInS x y H Z
def rNotInA (K : PySem.W.Frag) : R2 := fun x y H Z => rIn K true x y H Z ∨ rNotInS x y H Z
theorem opIn : OpR X (compareOp .In) (rInA X.K) := OpR.or op_in_seq op_in_str
theorem opNotIn : OpR X (compareOp .NotIn) (rNotInA X.K) := OpR.or op_notIn_seq L2.op_notin_str
def rIxA (K : PySem.W.Frag) (w : World) : R2 := fun x y H Z => rIxL K x y H Z ∨ rIxT K x y H Z ∨ rIxS x y H Z ∨ rIxD K w x y H Z
theorem ixAny : IxR X (rIxA X.K X.w) := IxR.or ix_list (IxR.or ix_tup (IxR.or ix_str ix_kdict))
def rSlAny (K : PySem.W.Frag) : V → Option Int → Option Int → Hp → VK → Prop := fun x lo hi H Z => rSlL K x lo hi H Z ∨ rSlA K x lo hi H Z ∨ rSlS x lo hi H Z
theorem slAny : SlR X (rSlAny X.K) := SlR.or sl_list (SlR.or sl_tupA sl_str)
def iAny (K : PySem.W.Frag) (tl : TE) : TI := fun τ H R => iList K tl τ H R ∨ iTup K tl τ H R ∨ iStr tl τ H R
theorem piAny {tg l : Expr} {tl : TE} (hlen : PE X l tl) : PI X tg l (iAny X.K tl) := PI.or (pi_list hlen) (PI.or (pi_tup hlen) (pi_str hlen))
def rLenA (K : PySem.W.Frag) : List V → Hp → VK → Prop := fun xs H Z => (∃ p ys, xs = [.ref p] ∧ (SqL K H p ys ∨ SqT K H p ys) ∧ Z (.int ys.length) H) ∨ (∃ z, xs = [.str z] ∧ z.length ≤ sizeLine ∧ Z (.int z.length) H)
theorem callLen : CallR X (.builtin "len") (rLenA X.K) := CallR.or call_len_seq call_len_str
theorem pgetL : PGet X (rIxL X.K) := by
  intro pk s τ H x y v u Z I rx ry h
  obtain ⟨p, xs, i, z, rfl, rfl, hsq, hes, q⟩ := h
  cases rx
  obtain ⟨t, rfl⟩ := ry
  obtain ⟨gs, r, pl, hz⟩ := I.list hsq
  obtain ⟨j, h1, h2, h3, h4, h5⟩ := atI_get hes
  obtain ⟨w, ew, rw'⟩ := r.get h2
  have hlen := r.length
  have hn := line63
  have ready : EP X pk τ Z w s := ⟨z, H, I, rw', q⟩
  by_cases h0 : 0 ≤ i
  · have hj : i.toNat = j := by
      rw [seqIndex_of h0 h5] at h1
      exact Option.some.inj h1
    exact wpAny_getItem_list pl.isList h0 (by omega) (by rw [hj]; simpa using ew) ready
  · have hj : (i + (gs.toArray.size : Int)).toNat = j := by
      rw [seqIndex_neg (by omega) h4] at h1
      rw [List.size_toArray, ← hlen]
      exact Option.some.inj h1
    exact wpAny_getItem_list_neg pl.isList (by omega) (by rw [List.size_toArray] <;> omega) (by omega) (by rw [hj]; simpa using ew) ready
/-- repr of data -/
def rRepr (K : PySem.W.Frag) : List V → Hp → VK → Prop := fun xs H Z => ∃ a d, xs = [.ref a] ∧ Dp K H (.ref a) d ∧ d.showable = true ∧ d.hasDict = false ∧ d.depth ≤ 20 ∧ d.shown.length ≤ sizeLine ∧ Z (.str d.shown) H
theorem callRepr {k : Nat} (hg : X.A.guards = some []) (hr : Room k X.A) : CallR X (.builtin "repr") (rRepr X.K) := by
  intro pk s τ H xs us Z I r h
  obtain ⟨a, d, rfl, hd, hst, hn, hz, hlen, q⟩ := h
  rw [Vals.ref1 r]
  obtain ⟨as, rd⟩ := Dp.reads I d _ _ hd rfl
  have hu := hr.units
  exact repr_of_reads' rd hst (fun e => by rw [hn] at e; cases e) hg (by omega) (fun _ _ e => e) (fun h' u tk hkp => ⟨.str d.shown, H, I.kept (h' := h') (t' := tk) hkp, ⟨_, rfl⟩, q⟩) hlen
end
/-! ### defs that are called where no container is being shown -/
structure FnG (P : Program) (w : World) (K : PySem.W.Frag) (mg : Str → Option Value) (base : Heap) (k : Nat) (f : Addr) (fd : FuncData) (ps : List Str) (sp : Sp) : Prop where
  len : ∀ vs H Z EE, sp vs H Z EE → vs.length = ps.length
  run : ∀ (A : Around) (outer : List Env) (s : Shared) (H : Hp) (args : Args) (us : List Value) (vs : List V) (Z : VK) (EE : XK), Room k A → A.guards = some [] → Env0 P w K mg base A outer s H → BindsTo s fd args (ps.zip us) → Vals vs us → sp vs H Z EE →
    codeAny (model P w) A (.call (.ref f) args) (CR CX0 outer P w H s Z EE) s
structure CalG (P : Program) (w : World) (K : PySem.W.Frag) (mg : Str → Option Value) (base : Heap) (k : Nat) (x : Str) (sp : Sp) : Prop where
  ex : ∃ (f : Addr) (fd : FuncData) (ps : List Str), FnG P w K mg base k f fd ps sp ∧ mg x = some (.ref f) ∧ PySem.W.keepIn K (.ref f) = true ∧ Binds K fd ps []
structure Df (K : PySem.W.Frag) (mg : Str → Option Value) (x : Str) (st : Stmt) : Prop where
  ex : ∃ (f : Addr) (fd : FuncData), mg x = some (.ref f) ∧ Fun K x x st f fd
section
variable {P : Program} {w : World} {K : PySem.W.Frag} {mg : Str → Option Value} {base : Heap}
theorem CalG.imp {k : Nat} {x : Str} {sp sp' : Sp} (c : CalG P w K mg base k x sp) (h : ∀ vs H Z EE, sp' vs H Z EE → sp vs H Z EE) : CalG P w K mg base k x sp' := by
  obtain ⟨f, fd, ps, F, a, b, d⟩ := c.ex
  exact ⟨f, fd, ps, ⟨fun vs H Z EE q => F.len vs H Z EE (h _ _ _ _ q), fun A outer s H args us vs Z EE hr hg hes hbd hv hst => F.run A outer s H args us vs Z EE hr hg hes hbd hv (h _ _ _ _ hst)⟩, a, b, d⟩
theorem fn_mk {x : Str} {f : Addr} {fd : FuncData} {st : Stmt} {N ps : List Str} {k : Nat} {sp : Sp} (F : Fun K x x st f fd) (S : FnScope N ps (defScope st))
    (len : ∀ vs H Z EE, sp vs H Z EE → vs.length = ps.length)
    (hbody : ∀ (cdv : Value) (A : Around) (outer : List Env) (s : Shared) (H : Hp) (vs : List V) (Z : VK) (EE : XK), Room k (A.deeper (envOfC x (defScope st) s.heap.objs.size f cdv)) → (A.deeper (envOfC x (defScope st) s.heap.objs.size f cdv)).guards = some [] → sp vs H Z EE →
      ∃ t, PSs (cxOf CX0 P w K mg base N x (defScope st) f cdv A outer s H EE).nox (defBody st) t ∧ t { nx := fun _ H' => Z .non H', rt := Z } (start N vs) H) : FnG P w K mg base (k + 1) f fd ps sp := by
  obtain ⟨oc, od, kV, doc, pm, an, cdv, ct, sl, rfl, lkp, hcd⟩ := F.ex
  refine ⟨len, fun A outer s H args us vs Z EE hr hg e0 hbt r hsp => ?_⟩
  have body : ∀ (A : Around) (outer : List Env) (s : Shared) (H : Hp) (vs : List V) (Z : VK) (EE : XK), Room k (A.deeper (envOfC x (defScope st) s.heap.objs.size f cdv)) → A.guards = some [] → sp vs H Z EE →
      ∃ t, PSs (cxOf CX0 P w K mg base N x (defScope st) f cdv A outer s H EE) (defBody st) t ∧ t { nx := fun _ H' => Z .non H', rt := Z } (start N vs) H := fun A outer s H vs Z EE hr hg hsp => by
    obtain ⟨t, h, q⟩ := hbody cdv A outer s H vs Z EE hr hg hsp
    exact ⟨t, h.nox, q⟩
  have hlen := len _ _ _ _ hsp
  have KI : K.In s.heap := e0.mod.kin.keeps fun b o e => (e0.bs b o e).1
  have nlm : s.heap.NoLimit := e0.mod.nolimit.keeps fun b o e => (e0.bs b o e).1
  have hkind : ∀ y ∈ ps.zip us, (defScope st).names.lookup y.1 = some .local ∨ ((defScope st).names.lookup y.1 = some .cell ∧ ((cellsFrom (s.heap.objs.size + 1) (defScope st).names []).lookup y.1).isSome = true) := fun ⟨n, v⟩ hyy => by
    rcases S.par n (List.of_mem_zip hyy).1 with q | q
    · exact .inl q
    · exact .inr ⟨q, PySem.W.cellsFrom_some _ _ _ (.inl q)⟩
  refine codeAny_call_function hr.depth (KI _ _ lkp) rfl S.co S.gen rfl (PySem.W.codeRec_of KI hcd) (hbt _ _ _ _ ?_)
  refine wpAny_newFunctionEnv_cells S.kind hkind fun env hes st1 xx => ?_
  subst hes
  refine ⟨nlm.keeps xx.toInCall.keep, codeAny_func ?_⟩
  obtain ⟨t, ht, hsq⟩ := body A outer s H vs Z EE (hr.deeper _) hg hsp
  have I : Inv (cxOf CX0 P w K mg base N x (defScope st) f cdv A outer s H EE) [] (start N vs) H st1 := inv_start S hr.hd e0 hlen r xx
  refine wpAny_mono (ht.run [] st1 (start N vs) H _ I hsq) (fun fl s' hst => ?_) fun e s' hst => hst
  have ready : ∀ {τ' : L2.St} {H' : Hp} {v : V} {u : Value}, Inv (cxOf CX0 P w K mg base N x (defScope st) f cdv A outer s H EE) [] τ' H' s' → RelV v u → Z v H' → CE outer P w H s Z u s' :=
    fun {τ' H' v u} J rv q => ⟨v, H', J.os, J.bare, J.base, J.hok, rv, q⟩
  cases fl with
  | ret u =>
    obtain ⟨v, τ', H', J, rv, q⟩ := hst
    exact ready J rv q
  | next =>
    obtain ⟨τ', H', J, q⟩ := hst
    exact ready (v := V.non) (u := Value.none) J rfl q
  | brk =>
    obtain ⟨_, _, _, q⟩ := hst
    exact False.elim q
  | cont =>
    obtain ⟨_, _, _, q⟩ := hst
    exact False.elim q
theorem cal_mk {x : Str} {st : Stmt} {N ps : List Str} {k : Nat} {sp : Sp} (D : Df K mg x st) (S : FnScope N ps (defScope st))
    (hbd : ∀ (kV doc pm : Value) (an : Option Addr) (cdv ct : Value) (us : List Value), us.length = ps.length → bindArgs (PySem.W.fnOf x x (defArgs st) (defBody st) (defScope st) .none kV doc pm an cdv ct) ⟨us, []⟩ = pure (ps.zip us))
    (len : ∀ vs H Z EE, sp vs H Z EE → vs.length = ps.length)
    (hbody : ∀ (f : Addr) (cdv : Value) (A : Around) (outer : List Env) (s : Shared) (H : Hp) (vs : List V) (Z : VK) (EE : XK), Room k (A.deeper (envOfC x (defScope st) s.heap.objs.size f cdv)) → (A.deeper (envOfC x (defScope st) s.heap.objs.size f cdv)).guards = some [] → sp vs H Z EE →
      ∃ t, PSs (cxOf CX0 P w K mg base N x (defScope st) f cdv A outer s H EE).nox (defBody st) t ∧ t { nx := fun _ H' => Z .non H', rt := Z } (start N vs) H) : CalG P w K mg base (k + 1) x sp := by
  obtain ⟨f, fd, hmg, F⟩ := D.ex
  exact ⟨f, fd, ps, fn_mk F S len (hbody f), hmg, F.kp, F.binds hbd⟩
end
section
variable {X : Cx} {pk : List (Addr × Obj)} {τ : L2.St} {H : Hp} {s : Shared} {k j : Nat} {sp : Sp} {f : Addr} {fd : FuncData} {ps : List Str} {Z : VK} {us : List Value} {vs : List V} {x : Str} {p pos : Pos} {e : Expr} {es : List Expr} {t : TA}
theorem run_fnG (F : FnG X.prog X.w X.K X.mg X.base k f fd ps sp) (hr : Room k X.A) (hg : X.A.guards = some []) (hbd : Binds X.K fd ps [])
    (I : Inv X pk τ H s) (r : Vals vs us) (h : sp vs H Z E0) : wpAny (model X.prog X.w) X.A (call (.ref f) us) (EP X pk τ Z) X.xe s := by
  have hlen : us.length = ps.length := by rw [← r.length]; exact F.len _ _ _ _ h
  have e1 : us ++ [] = us := List.append_nil us
  refine wpAny_call (codeAny_mono (F.run X.A X.stack s H ⟨us, []⟩ us vs Z E0 hr hg I.env0 (by have q := hbd s us I.kIn (by rw [e1]; exact hlen); rw [e1] at q; exact q) r h) fun r s' hsq => ?_)
  cases r with
  | error e => exact (show False from hsq).elim
  | ok fl =>
    cases fl with
    | ret u => exact I.after hsq
    | next => exact False.elim hsq
    | brk => exact False.elim hsq
    | cont => exact False.elim hsq
theorem pe_cG (c : CalG X.prog X.w X.K X.mg X.base k x sp) (hr : Room j X.A) (hg0 : X.A.guards = some []) (hkp : k ≤ j) (hg : Gl X x) (ha : PA X (e :: es) t)
    (hdb : (x == ("__debug__" : Str)) = false := by decide) (hes : starEach (e :: es) X.env = (false, eval e X.env) :: starEach es X.env := by rfl) (hpl : (backTo pos (starEach es X.env)).any (·.1) = false := by rfl) :
    PE X (.Call (.Name x p) (e :: es) [] pos) (tCall sp [] E0 t) := by
  obtain ⟨f, fd, ps, F, hmg, kp, b⟩ := c.ex
  refine ⟨fun pk s τ H Z I h => ?_⟩
  refine wpAny_Call_Name_kw (ld_glob I hg hmg ?_ hdb)
  refine PySem.W.callWith_K (h₀ := X.base) I.ok.mod.kin kp (thn (ha.run pos pk s τ H _ I h) fun us st1 ⟨vs, H1, I1, r, q⟩ => ⟨I1.kIn, ?_⟩) hes hpl
  have q : sp (vs ++ []) H1 Z E0 := q
  rw [List.append_nil] at q
  exact run_fnG F (hr.mono hkp) hg0 b I1 r q
end
end Own

namespace Own
open PySem PySem.Spec PyProof.Rows L2 Evl
theorem up_old {H : Hp} {p q : Addr} {o u : HO} (hp : H p = none) (h : H q = some u) : upd H p o q = some u := by
  rw [upd_ne (ne_of_none h hp)]
  exact h
theorem gen1 {H H1 : Hp} {p : Addr} {o : HO} (hq : upd H p o = H1) (hp : H p = none) : Ex H H1 ∧ H1 p = some o := by
  subst hq
  exact ⟨Ex.new hp, upd_same⟩
/-! ### tuples never change -/
def TEx (H H' : Hp) : Prop := ∀ a xs, H a = some (.tup xs) → H' a = some (.tup xs)
theorem TEx.refl (H : Hp) : TEx H H := fun _ _ h => h
theorem TEx.trans {H H1 H2 : Hp} (a : TEx H H1) (b : TEx H1 H2) : TEx H H2 := fun x o h => b x o (a x o h)
theorem TEx.of {H H' : Hp} (e : Ex H H') : TEx H H' := fun a _ h => e a _ h
theorem TEx.lst {H : Hp} {D : Addr} {xs : List V} {o : HO} (h : H D = some (.lst xs)) : TEx H (upd H D o) := fun a ys q => by
  rw [upd_ne (fun z => by rw [z, h] at q; cases q)]
  exact q
/-- two tuples, zipped -/
theorem walk_zipT {K : PySem.W.Frag} {a b : Addr} {xs ys : List V} {n : Nat} (hn : n = min xs.length ys.length) :
    Walk (RZ.ItzT K a b) n (fun H => SqT K H a xs ∧ SqT K H b ys) (YPair (fun i => xs[i]?) (fun i => ys[i]?)) := by
  refine ⟨fun i H hi h => ?_, fun H h => ⟨xs, ys, h.1, h.2, by omega⟩, fun i H x H' hi h y => ?_⟩
  · exact ⟨xs, ys, xs[i], ys[i], h.1, h.2, List.getElem?_eq_getElem (by omega), List.getElem?_eq_getElem (by omega)⟩
  · obtain ⟨T, u, v, rfl, h1, h2, h3, h4⟩ := y
    exact ⟨T, u, v, rfl, h1, h2, h3 _ h.1, h4 _ h.2⟩
/-- what is left of a comprehension, of a for, behind its source -/
def LcRest (g : TG) (tt : TT) (te : TE) (vs : List Nat) (σ : L2.St) (Q : VK) : It → Hp → Prop := fun J H1 => tLc (fun _ _ R => R J H1) g tt te vs σ H1 Q
def tLcO (wi : TI) (g : TG) (tt : TT) (te : TE) (vs : List Nat) : TE := fun σ H Q => wi σ H (LcRest g tt te vs σ Q)
def ForRest (g : TG) (tb : TS) (D : Ends) : L2.St → It → Hp → Prop := fun σ J H1 => tFor (fun _ _ R => R J H1) g tb D σ H1
def tForO (wi : TI) (g : TG) (tb : TS) : TS := fun D σ H => wi σ H (ForRest g tb D σ)
theorem pe_lcO {X : Cx} {e : Expr} {wi : TI} {g : TG} {tt : TT} {te : TE} {vs : List Nat} (h : PE X e (tLc wi g tt te vs)) : PE X e (tLcO wi g tt te vs) := h
theorem ps_setLcO {X : Cx} {st : Stmt} {wi : TI} {g k : TG} {tt : TT} {te : TE} {vs : List Nat} (h : PS X st (tAsg (tLc wi g tt te vs) k)) : PS X st (tAsg (tLcO wi g tt te vs) k) := h
theorem ps_forO {X : Cx} {st : Stmt} {wi : TI} {g : TG} {tb : TS} (h : PS X st (tFor wi g tb)) : PS X st (tForO wi g tb) := h
/-! ### the unions within a comprehension -/
section
variable {X : Cx} {s : Shared} {H : Hp} {sc : Scope} {ce : Env} {fp : List Addr} {s' : Shared} {H' : Hp} {sc' : Scope} {ce' : Env} {fp' : List Addr}
theorem pg_tupB {es : List Expr} {k n : Nat} {pos : Pos} {t : TGs} (hc : X.calm = true) (h : PGs (X.blk s H sc ce fp) es t) (hn : (assignEach es (X.blk s H sc ce fp).env).length = n := by rfl)
    (hst : (assignEach es (X.blk s H sc ce fp).env).findIdx? (·.1) = none := by rfl) : PG (X.blk s H sc ce fp) (.Tuple es k pos) (gTup X.K n t) := pg_tup (X := X.blk s H sc ce fp) hc h hn hst
theorem opAddB : OpR (X.blk s H sc ce fp) (binaryOp .Add) (rAdd X.K) := opAdd
theorem opEqB {k : Nat} (hr : Room k X.A) : OpR (X.blk s H sc ce fp) (compareOp .Eq) (rEqA X.K) := opEq hr
theorem opNeB {k : Nat} (hr : Room k X.A) : OpR (X.blk s H sc ce fp) (compareOp .NotEq) (rNeA X.K) := opNe hr
theorem opInB : OpR (X.blk s H sc ce fp) (compareOp .In) (rInA X.K) := opIn
theorem opNotInB : OpR (X.blk s H sc ce fp) (compareOp .NotIn) (rNotInA X.K) := opNotIn
theorem ixAnyB : IxR (X.blk s H sc ce fp) (rIxA X.K X.w) := ixAny
theorem slAnyB : SlR (X.blk s H sc ce fp) (rSlAny X.K) := slAny
theorem callLenB : CallR (X.blk s H sc ce fp) (.builtin "len") (rLenA X.K) := callLen
theorem opAddBB : OpR ((X.blk s H sc ce fp).blk s' H' sc' ce' fp') (binaryOp .Add) (rAdd X.K) := opAdd
theorem opEqBB {k : Nat} (hr : Room k X.A) : OpR ((X.blk s H sc ce fp).blk s' H' sc' ce' fp') (compareOp .Eq) (rEqA X.K) := opEq hr
theorem opNeBB {k : Nat} (hr : Room k X.A) : OpR ((X.blk s H sc ce fp).blk s' H' sc' ce' fp') (compareOp .NotEq) (rNeA X.K) := opNe hr
theorem opInBB : OpR ((X.blk s H sc ce fp).blk s' H' sc' ce' fp') (compareOp .In) (rInA X.K) := opIn
theorem opNotInBB : OpR ((X.blk s H sc ce fp).blk s' H' sc' ce' fp') (compareOp .NotIn) (rNotInA X.K) := opNotIn
theorem ixAnyBB : IxR ((X.blk s H sc ce fp).blk s' H' sc' ce' fp') (rIxA X.K X.w) := ixAny
theorem slAnyBB : SlR ((X.blk s H sc ce fp).blk s' H' sc' ce' fp') (rSlAny X.K) := slAny
theorem callLenBB : CallR ((X.blk s H sc ce fp).blk s' H' sc' ce' fp') (.builtin "len") (rLenA X.K) := callLen
end
/-- a for: Pv by the turn, the slots and the heap -/
theorem frG {J : It} {n : Nat} {G : Hp → Prop} {Y : Nat → Hp → V → Hp → Prop} (w : Walk J n G Y) {g : TG} {tb : TS} {D : Ends} {σ : L2.St} {H : Hp} (Pv : Nat → L2.St → Hp → Prop) (h0 : Pv 0 σ H) (hG : ∀ i σ H, i ≤ n → Pv i σ H → G H)
    (hs : ∀ i x σ H H', i < n → Pv i σ H → Y i H x H' → g x σ H' fun σ2 H2 => tb { D with nx := Pv (i + 1), ct := Pv (i + 1), bk := D.nx } σ2 H2) (hd : ∀ σ H, Pv n σ H → D.nx σ H) : ForRest g tb D σ J H := for_it w Pv h0 hG hs hd
/-- a comprehension whose turns may give anything: Pa speaks of the turn, what has been given, and tuples -/
theorem lcG {J : It} {n : Nat} {G : Hp → Prop} {Y : Nat → Hp → V → Hp → Prop} (w : Walk J n G Y) {g : TG} {tt : TT} {te : TE} {vs : List Nat} {σ : L2.St} {H1 : Hp} {Q : VK} (hn : n ≤ 40000) (hG0 : G H1) (hGm : ∀ H H', Ex H H' → G H → G H') (hY : ∀ i H x H', Y i H x H' → Ex H H')
    (Pa : Nat → List V → Hp → Prop) (hm : ∀ i ys H H', TEx H H' → Pa i ys H → Pa i ys H') (p0 : Pa 0 [] H1)
    (hs : ∀ i x H H' ys, i < n → Ex H1 H → Y i H x H' → Pa i ys H' → ∀ (N : V → Hp → Prop) (N0 : Hp → Prop), (∀ y H4, Ex H' H4 → Pa (i + 1) (ys ++ [y]) H4 → N y H4) → (∀ H3, Ex H' H3 → Pa (i + 1) ys H3 → N0 H3) →
      g x (wipe σ vs) H' fun σ2 H2 => wipe σ2 vs = wipe σ vs ∧ tt σ2 H2 fun b H3 => if b = true then te σ2 H3 N else N0 H3)
    (k : ∀ D H2 ys, H1 D = none → Ex H1 H2 → H2 D = some (.lst ys) → ys.length ≤ n → Pa n ys H2 → Q (.ref D) H2) :
    LcRest g tt te vs σ Q J H1 := by
  intro D hD
  refine lc_it w (fun i H => ∃ ys, Ex H1 H ∧ H D = some (.lst ys) ∧ ys.length ≤ i ∧ Pa i ys H) ⟨[], Ex.new hD, upd_same, Nat.zero_le _, hm _ _ _ _ (TEx.of (Ex.new hD)) p0⟩ (fun i H hi ⟨ys, e, _⟩ => hGm _ _ e hG0) ?_ ?_
  · rintro i x H H' hi ⟨ys, e, hd, hl, hp⟩ hy
    have e' := hY _ _ _ _ hy
    refine hs i x H H' ys hi e hy (hm _ _ _ _ (TEx.of e') hp) _ _ (fun y H4 e4 p4 => ?_) (fun H3 e3 p3 => ?_)
    · have d4 := e4 _ _ (e' _ _ hd)
      refine ⟨ys, d4, sz_lt (by omega), ys ++ [y], Ex.mut ((e.trans e').trans e4) hD, upd_same, ?_, hm _ _ _ _ (TEx.lst d4) p4⟩
      rw [List.length_append]
      show ys.length + 1 ≤ i + 1
      omega
    · exact ⟨ys, (e.trans e').trans e3, e3 _ _ (e' _ _ hd), by omega, p3⟩
  · rintro H ⟨ys, e, hd, hl, hp⟩
    exact k D H ys hD e hd hl hp
theorem ex_eq {H H' : Hp} (h : H' = H) : Ex H H' := by
  subst h
  exact Ex.refl _
theorem yAt_ex {xs : List V} : ∀ i H x H', YAt xs i H x H' → Ex H H' := fun _ _ _ _ h => ex_eq h.1
theorem yFn_ex {f : Nat → V} : ∀ i H x H', YFn f i H x H' → Ex H H' := fun _ _ _ _ h => ex_eq h.1
theorem yPair_ex {xs ys : Nat → Option V} : ∀ i H x H', YPair xs ys i H x H' → Ex H H' := fun _ _ _ _ h => by
  obtain ⟨T, u, v, _, h1, rfl, _, _⟩ := h
  exact Ex.new h1
/-! ### texts by their signs -/
def cs (z : Str) : List Nat := z.cps.toList
theorem cs_ext {a b : Str} (h : cs a = cs b) : a = b := PyProof.Rows.ext_toList h
theorem cs_len (z : Str) : z.length = (cs z).length := by simp [cs, Str.length]
theorem cs_add (a b : Str) : cs (a ++ b) = cs a ++ cs b := TL.tl_append a b
theorem cs_one (c : Nat) : cs ⟨#[c]⟩ = [c] := rfl
theorem cut_from (xs : List V) (j : Nat) : cutV xs (some (j : Int)) none = xs.drop j := by
  unfold cutV
  rw [HT.sIx_nat, HT.sIx_none]
  by_cases h : j ≤ xs.length
  · rw [Nat.min_eq_left h]
    apply List.take_of_length_le
    rw [List.length_drop]
    exact Nat.le_refl _
  · rw [Nat.min_eq_right (by omega), Nat.sub_self, List.take_zero, List.drop_of_length_le (by omega)]
theorem joinL_one : ∀ l : List Nat, TL.joinL [] (l.map fun c => [c]) = l
  | [] => rfl
  | [c] => rfl
  | c :: d :: r => by
    show [c] ++ ([] ++ TL.joinL [] ((d :: r).map fun c => [c])) = c :: d :: r
    rw [joinL_one (d :: r)]
    rfl
def sgn (c : Nat) : Str := ⟨#[c]⟩
theorem sum_sgn : ∀ cr : List Nat, ((cr.map sgn).map (·.length)).sum = cr.length
  | [] => rfl
  | c :: r => by
    rw [List.map_cons, List.map_cons, List.sum_cons, sum_sgn r, List.length_cons]
    show 1 + r.length = r.length + 1
    omega
theorem join_sgn (l : List Nat) : Txt.join ("" : Str) (l.map sgn) = SX.S l := by
  have e : l.map sgn = (l.map fun c => [c]).map SX.S := by
    rw [List.map_map]
    rfl
  rw [e]
  have q := SX.join_S [] (l.map fun c => [c])
  rw [joinL_one] at q
  exact q
theorem in_strs (z : Str) : ∀ ns : List Str, inV (.str z) (ns.map V.str) = decide (z ∈ ns)
  | [] => rfl
  | n :: ns => by
    have ih := in_strs z ns
    unfold inV at ih ⊢
    rw [List.map_cons, List.any_cons, ih]
    show ((n == z) || decide (z ∈ ns)) = decide (z ∈ n :: ns)
    by_cases h : n = z
    · subst h
      simp
    · have h2 : ¬ z = n := fun e => h e.symm
      have h3 : (n == z) = false := beq_eq_false_iff_ne.mpr h
      rw [h3, Bool.false_or]
      simp [h2]
theorem flat_strs (ns : List Str) : (ns.map V.str).all flatV = true := by
  rw [List.all_eq_true]
  intro x hx
  obtain ⟨y, _, rfl⟩ := List.mem_map.mp hx
  rfl
theorem str_at {ns : List Str} {i : Nat} {x : V} (h : (ns.map V.str)[i]? = some x) : ∃ z, ns[i]? = some z ∧ x = .str z := by
  rw [List.getElem?_map] at h
  cases e : ns[i]? with
  | none => rw [e] at h; cases h
  | some z => rw [e] at h; exact ⟨z, rfl, (Option.some.inj h).symm⟩
end Own

namespace Own
open PySem PySem.Spec PyProof.Rows L2 Evl
theorem listText_le (ts : List Str) : (listText ts).length ≤ piled ts + 3 := by
  unfold listText
  rw [strLen_append]
  cases ts with
  | nil => decide
  | cons t r =>
    show (textFrom 1 (("[" : Str) ++ ("" : Str) ++ t) r).length + 1 ≤ _
    rw [textFrom_length_pos _ _ _ (by decide), piled_cons, strLen_append, strLen_append]
    show 1 + 0 + t.length + piled r + 1 ≤ _
    omega
theorem tupleText_le (ts : List Str) : (tupleText ts).length ≤ piled ts + 3 := by
  unfold tupleText
  rw [strLen_append, strLen_append]
  have e3 : (((if ts.length == 1 then ",)" else ")" : String) : Str)).length ≤ 2 := by split <;> decide
  have e1 : ((("(" : String) : Str)).length = 1 := rfl
  by_cases h : ts = []
  · subst h
    decide
  · have := join_length_add ts h
    omega
mutual
/-- no text of d is longer -/
def wt : PyData → Nat
  | .none => 4
  | .bool _ => 5
  | .int _ => 1921
  | .str x => 10 * x.length + 2
  | .list xs => wts xs + 3
  | .tuple xs => wts xs + 3
  | .dict _ => 0
def wts : List PyData → Nat
  | [] => 0
  | x :: xs => wt x + 2 + wts xs
end
mutual
theorem shown_le : ∀ d : PyData, d.canLay0 = true → d.showable = true → d.shown.length ≤ wt d
  | .none, _, _ => by decide
  | .bool b, _, _ => by cases b <;> decide
  | .int i, _, h => int_text_len_1921 (of_decide_eq_true h)
  | .str x, h, _ => by
    refine StrLaws.reprText_len x fun c hc => ?_
    have h2 : x.cps.all (· < 0x110000) = true := h
    rw [← Array.all_toList] at h2
    have q := of_decide_eq_true ((List.all_eq_true.mp h2) c hc)
    exact Nat.lt_trans q (by decide)
  | .list xs, h, h2 => by
    have q := shownAll_le xs h h2
    have z := listText_le (PyData.shownAll xs)
    show (listText (PyData.shownAll xs)).length ≤ wts xs + 3
    omega
  | .tuple xs, h, h2 => by
    have q := shownAll_le xs h h2
    have z := tupleText_le (PyData.shownAll xs)
    show (tupleText (PyData.shownAll xs)).length ≤ wts xs + 3
    omega
  | .dict _, h, _ => by cases h
theorem shownAll_le : ∀ ds : List PyData, PyData.canLayAll0 ds = true → PyData.showableAll ds = true → piled (PyData.shownAll ds) ≤ wts ds
  | [], _, _ => Nat.le_refl _
  | d :: ds, h, h2 => by
    have h' : (d.canLay0 && PyData.canLayAll0 ds) = true := h
    have h2' : (d.showable && PyData.showableAll ds) = true := h2
    rw [Bool.and_eq_true] at h' h2'
    have q1 := shown_le d h'.1 h2'.1
    have q2 := shownAll_le ds h'.2 h2'.2
    show piled (d.shown :: PyData.shownAll ds) ≤ wt d + 2 + wts ds
    rw [piled_cons]
    omega
end
/-- data that may be shown and compared -/
def fine (d : PyData) : Prop := d.canLay0 = true ∧ d.showable = true ∧ d.depth ≤ 20 ∧ wt d ≤ 16000000
theorem fine.noDict {d : PyData} (h : fine d) : d.hasDict = false := PyData.hasDict_of_canLay d h.1
theorem fine.shp {d : PyData} (h : fine d) : SeqAt.shaped d = true := by
  unfold SeqAt.shaped
  rw [h.1, Bool.true_and]
  exact decide_eq_true (Nat.le_trans h.2.2.1 (by decide))
theorem fine.len {d : PyData} (h : fine d) : d.shown.length ≤ sizeLine := Nat.le_trans (shown_le d h.1 h.2.1) (Nat.le_trans h.2.2.2 (by decide))
/-- repr of any data -/
def rReprA (K : PySem.W.Frag) : List V → Hp → VK → Prop := fun xs H Q => ∃ v d, xs = [v] ∧ Dp K H v d ∧ fine d ∧ Q (.str d.shown) H
theorem callReprA {X : Cx} {k : Nat} (hg : X.A.guards = some []) (hr : Room k X.A) : CallR X (.builtin "repr") (rReprA X.K) := by
  intro pk s τ H xs us Q I r h
  obtain ⟨v, d, rfl, hd, hf, q⟩ := h
  cases hd with
  | lst h1 h2 => exact callRepr hg hr pk s τ H _ us Q I r ⟨_, _, rfl, .lst h1 h2, hf.2.1, hf.noDict, hf.2.2.1, hf.len, q⟩
  | tup h1 h2 => exact callRepr hg hr pk s τ H _ us Q I r ⟨_, _, rfl, .tup h1 h2, hf.2.1, hf.noDict, hf.2.2.1, hf.len, q⟩
  | non =>
    obtain ⟨u, rfl, ru⟩ := vals1 r
    cases ru
    exact PySem.P.repr_of_none ⟨.str "None", H, I.tok _, ⟨_, rfl⟩, q⟩
  | bl b =>
    obtain ⟨u, rfl, ru⟩ := vals1 r
    cases ru
    exact PySem.P.repr_of_bool ⟨.str (if b then "True" else "False"), H, I.tok _, ⟨_, by cases b <;> rfl⟩, by cases b <;> exact q⟩
  | int i =>
    obtain ⟨u, rfl, t, rfl⟩ := vals1 r
    exact PySem.P.repr_of_int (of_decide_eq_true hf.2.1) ⟨.str (toString i), H, I.tok _, ⟨_, rfl⟩, q⟩
  | str x =>
    obtain ⟨u, rfl, t, rfl⟩ := vals1 r
    exact PySem.P.repr_of_str ⟨.str (reprText x), H, I.tok _, ⟨_, rfl⟩, q⟩ hf.len
def spAlike (K : PySem.W.Frag) : Sp := fun vs H Q _ => ∃ (x y : V) (d : PyData), vs = [x, y] ∧ Dp K H x d ∧ Dp K H y d ∧ fine d ∧ Q (.bl true) H
/-- bounds by parts -/
def fin (n W : Nat) (d : PyData) : Prop := d.canLay0 = true ∧ d.showable = true ∧ d.depth ≤ n ∧ wt d ≤ W
theorem fin.fine {n W : Nat} {d : PyData} (h : fin n W d) (h1 : n ≤ 20) (h2 : W ≤ 16000000) : fine d := ⟨h.1, h.2.1, Nat.le_trans h.2.2.1 h1, Nat.le_trans h.2.2.2 h2⟩
theorem fin.mono {n W n' W' : Nat} {d : PyData} (h : fin n W d) (h1 : n ≤ n') (h2 : W ≤ W') : fin n' W' d := ⟨h.1, h.2.1, Nat.le_trans h.2.2.1 h1, Nat.le_trans h.2.2.2 h2⟩
theorem fin_all {n W : Nat} : ∀ {ds : List PyData}, (∀ d ∈ ds, fin n W d) → PyData.canLayAll0 ds = true ∧ PyData.showableAll ds = true ∧ PyData.depthAll ds ≤ n ∧ wts ds ≤ ds.length * (W + 2)
  | [], _ => ⟨rfl, rfl, Nat.zero_le _, Nat.zero_le _⟩
  | d :: ds, h => by
    obtain ⟨a1, a2, a3, a4⟩ := h d List.mem_cons_self
    obtain ⟨b1, b2, b3, b4⟩ := fin_all fun x hx => h x (List.mem_cons_of_mem _ hx)
    refine ⟨?_, ?_, ?_, ?_⟩
    · show (d.canLay0 && PyData.canLayAll0 ds) = true
      rw [a1, b1]
      rfl
    · show (d.showable && PyData.showableAll ds) = true
      rw [a2, b2]
      rfl
    · show max d.depth (PyData.depthAll ds) ≤ n
      omega
    · show wt d + 2 + wts ds ≤ (ds.length + 1) * (W + 2)
      rw [Nat.add_mul]
      omega
theorem fin_list {n W m : Nat} {ds : List PyData} (h : ∀ d ∈ ds, fin n W d) (hm : ds.length ≤ m) : fin (n + 1) (m * (W + 2) + 3) (.list ds) := by
  obtain ⟨b1, b2, b3, b4⟩ := fin_all h
  refine ⟨b1, b2, Nat.succ_le_succ b3, ?_⟩
  show wts ds + 3 ≤ _
  have q := Nat.mul_le_mul_right (W + 2) hm
  omega
theorem fin_tup {n W m : Nat} {ds : List PyData} (h : ∀ d ∈ ds, fin n W d) (hm : ds.length ≤ m) : fin (n + 1) (m * (W + 2) + 3) (.tuple ds) := by
  obtain ⟨b1, b2, b3, b4⟩ := fin_all h
  refine ⟨b1, b2, Nat.succ_le_succ b3, ?_⟩
  show wts ds + 3 ≤ _
  have q := Nat.mul_le_mul_right (W + 2) hm
  omega
theorem fin_str {z : Str} {L : Nat} (h : (PyData.str z).canLay0 = true) (hl : z.length ≤ L) : fin 0 (10 * L + 2) (.str z) := by
  refine ⟨h, rfl, Nat.le_refl _, ?_⟩
  show 10 * z.length + 2 ≤ _
  omega
theorem fin_bool (b : Bool) : fin 0 5 (.bool b) := ⟨rfl, rfl, Nat.le_refl _, Nat.le_refl _⟩
theorem fin_none : fin 0 5 .none := ⟨rfl, rfl, Nat.le_refl _, by show 4 ≤ 5; decide⟩
theorem fin_int {i : Int} (h : i.natAbs.log2 < 1920) : fin 0 1921 (.int i) := ⟨rfl, decide_eq_true h, Nat.le_refl _, Nat.le_refl _⟩
/-- a text times 0 or 1 -/
def rMulS : R2 := fun x y H Q => ∃ (z : Str) (k : Bool), x = .str z ∧ y = .int (if k then 1 else 0) ∧ z.length ≤ 100000 ∧ Q (.str (if k then z else Str.empty)) H
theorem op_mulS {X : Cx} : OpR X (binaryOp .Mult) rMulS := by
  intro pk s τ H x y v u Q I rx ry h
  obtain ⟨z, k, rfl, rfl, hl, q⟩ := h
  obtain ⟨t, rfl⟩ := rx
  cases k with
  | false =>
    obtain ⟨t', rfl⟩ := ry
    exact PySem.P.mul_str_none (by decide) (by decide) ⟨.str _, H, I.tok _, ⟨_, rfl⟩, q⟩
  | true =>
    obtain ⟨t', rfl⟩ := ry
    have z : EP X pk τ Q (.str z t) s := ⟨.str _, H, I, ⟨_, rfl⟩, q⟩
    refine PySem.P.mul_str (by decide) (fun _ h => absurd h (by simp)) (fun _ h => absurd h (by simp)) ?_
    rw [if_neg (by decide), if_pos (by simp)]
    exact z
end Own

namespace Own
open PySem PySem.Spec PyProof.Rows L2 Evl
/-! ### two sources in one comprehension -/
def Lc2Rest (g : TG) (tt : TT) (wi1 : TI) (g1 : TG) (tt1 : TT) (te : TE) (vs vs1 : List Nat) (σ : L2.St) (Q : VK) : It → Hp → Prop := fun J H1 => tLc2 (fun _ _ R => R J H1) g tt wi1 g1 tt1 te vs vs1 σ H1 Q
def tLc2O (wi : TI) (g : TG) (tt : TT) (wi1 : TI) (g1 : TG) (tt1 : TT) (te : TE) (vs vs1 : List Nat) : TE := fun σ H Q => wi σ H (Lc2Rest g tt wi1 g1 tt1 te vs vs1 σ Q)
theorem pe_lc2O {X : Cx} {e : Expr} {wi wi1 : TI} {g g1 : TG} {tt tt1 : TT} {te : TE} {vs vs1 : List Nat} (h : PE X e (tLc2 wi g tt wi1 g1 tt1 te vs vs1)) : PE X e (tLc2O wi g tt wi1 g1 tt1 te vs vs1) := h
theorem ps_setLc2O {X : Cx} {st : Stmt} {wi wi1 : TI} {g g1 k : TG} {tt tt1 : TT} {te : TE} {vs vs1 : List Nat} (h : PS X st (tAsg (tLc2 wi g tt wi1 g1 tt1 te vs vs1) k)) : PS X st (tAsg (tLc2O wi g tt wi1 g1 tt1 te vs vs1) k) := h
theorem piAnyB {X : Cx} {s : Shared} {H : Hp} {sc : Scope} {ce : Env} {fp : List Addr} {tg l : Expr} {tl : TE} (hl : PE (X.blk s H sc ce fp) l tl) : PI (X.blk s H sc ce fp) tg l (iAny X.K tl) := piAny hl
/-- what is left of the second source's loop -/
def InRest (D : Addr) (Nx : Hp → Prop) (g1 : TG) (tt1 : TT) (te : TE) (vs1 : List Nat) (σ2 : L2.St) : It → Hp → Prop := fun J1 H4 => ∃ W1 : Nat → Nat → Hp → Prop, (∃ m, W1 0 m H4) ∧ ∀ j k H, W1 j k H →
  (J1.stop j H ∧ Nx H) ∨ (J1.go j H ∧ ∃ Nx1 : Hp → Prop, (∀ H', Nx1 H' → ∃ k', k' < k ∧ W1 (j + 1) k' H') ∧ ∀ x H', J1.yld j H x H' → g1 x (wipe σ2 vs1) H' fun σ3 H5 => wipe σ3 vs1 = wipe σ2 vs1 ∧ tt1 σ3 H5 fun b H6 =>
    if b = true then te σ3 H6 fun y H7 => ∃ acc, H7 D = some (.lst acc) ∧ acc.length < sizeLine ∧ Nx1 (upd H7 D (.lst (acc ++ [y]))) else Nx1 H6)
theorem inG {J1 : It} {n1 : Nat} {G1 : Hp → Prop} {Y1 : Nat → Hp → V → Hp → Prop} (w1 : Walk J1 n1 G1 Y1) {D : Addr} {Nx : Hp → Prop} {g1 : TG} {tt1 : TT} {te : TE} {vs1 : List Nat} {σ2 : L2.St} {H1 H4 : Hp} {ys : List V}
    (hD : H1 D = none) (e0 : Ex H1 H4) (hd : H4 D = some (.lst ys)) (hG1 : ∀ H, Ex H1 H → TEx H4 H → G1 H) (hY1 : ∀ i H x H', Y1 i H x H' → Ex H H') (Pb : Nat → List V → Hp → Prop) (hm : ∀ j zs H H', TEx H H' → Pb j zs H → Pb j zs H') (hl : ∀ j zs H, Pb j zs H → zs.length ≤ 40000) (p0 : Pb 0 ys H4)
    (hs : ∀ j x H5 H6 zs, j < n1 → Ex H1 H5 → TEx H4 H5 → Y1 j H5 x H6 → Pb j zs H6 → ∀ (N : V → Hp → Prop) (N1 : Hp → Prop), (∀ y H7, Ex H6 H7 → Pb (j + 1) (zs ++ [y]) H7 → N y H7) → (∀ H7, Ex H6 H7 → Pb (j + 1) zs H7 → N1 H7) →
      g1 x (wipe σ2 vs1) H6 fun σ3 H7 => wipe σ3 vs1 = wipe σ2 vs1 ∧ tt1 σ3 H7 fun b H8 => if b = true then te σ3 H8 N else N1 H8)
    (hend : ∀ zs H, Ex H1 H → TEx H4 H → H D = some (.lst zs) → Pb n1 zs H → Nx H) : InRest D Nx g1 tt1 te vs1 σ2 J1 H4 := by
  refine ⟨fun j k H => k = n1 - j ∧ j ≤ n1 ∧ ∃ zs, Ex H1 H ∧ TEx H4 H ∧ H D = some (.lst zs) ∧ Pb j zs H, ⟨n1, by simp, Nat.zero_le _, ys, e0, TEx.refl _, hd, p0⟩, ?_⟩
  rintro j k H ⟨rfl, hj, zs, e, t, d, p⟩
  have hg := hG1 H e t
  by_cases hlt : j < n1
  · refine .inr ⟨w1.goes j H hlt hg, fun H' => ∃ zs, Ex H1 H' ∧ TEx H4 H' ∧ H' D = some (.lst zs) ∧ Pb (j + 1) zs H', fun H' q => ⟨n1 - (j + 1), by omega, rfl, hlt, q⟩, fun x H' y => ?_⟩
    have hy := w1.yields j H x H' hlt hg y
    have e' := hY1 _ _ _ _ hy
    refine hs j x H H' zs hlt e t hy (hm _ _ _ _ (TEx.of e') p) _ _ (fun v H7 e7 p7 => ?_) (fun H7 e7 p7 => ?_)
    · have d7 := e7 _ _ (e' _ _ d)
      have b := hl _ _ _ p
      exact ⟨zs, d7, sz_lt (by omega), zs ++ [v], Ex.mut ((e.trans e').trans e7) hD, (t.trans (TEx.of (e'.trans e7))).trans (TEx.lst d7), upd_same, hm _ _ _ _ (TEx.lst d7) p7⟩
    · exact ⟨zs, (e.trans e').trans e7, t.trans (TEx.of (e'.trans e7)), e7 _ _ (e' _ _ d), p7⟩
  · have ej : j = n1 := by omega
    subst ej
    exact .inl ⟨w1.stops H hg, hend zs H e t d p⟩
/-- a comprehension over two sources whose turns may give anything -/
theorem lc2G {J : It} {n : Nat} {G : Hp → Prop} {Y : Nat → Hp → V → Hp → Prop} (w : Walk J n G Y) {g : TG} {tt : TT} {wi1 : TI} {g1 : TG} {tt1 : TT} {te : TE} {vs vs1 : List Nat} {σ : L2.St} {H1 : Hp} {Q : VK} (hG0 : G H1) (hGm : ∀ H H', Ex H H' → G H → G H') (hY : ∀ i H x H', Y i H x H' → Ex H H')
    (Pa : Nat → List V → Hp → Prop) (hm : ∀ i ys H H', TEx H H' → Pa i ys H → Pa i ys H') (p0 : Pa 0 [] H1)
    (hs : ∀ i x H H' ys, i < n → Ex H1 H → Y i H x H' → Pa i ys H' → ∀ (D : Addr) (Nx : Hp → Prop), H1 D = none → H' D = some (.lst ys) → (∀ zs H3, Ex H1 H3 → H3 D = some (.lst zs) → Pa (i + 1) zs H3 → Nx H3) →
      g x (wipe σ vs) H' fun σ2 H2 => wipe σ2 vs = wipe σ vs ∧ tt σ2 H2 fun b H3 => if b = true then wi1 σ2 H3 (InRest D Nx g1 tt1 te vs1 σ2) else Nx H3)
    (k : ∀ D H2 ys, H1 D = none → Ex H1 H2 → H2 D = some (.lst ys) → Pa n ys H2 → Q (.ref D) H2) : Lc2Rest g tt wi1 g1 tt1 te vs vs1 σ Q J H1 := by
  intro D hD
  refine ⟨fun i m H => m = n - i ∧ i ≤ n ∧ ∃ ys, Ex H1 H ∧ H D = some (.lst ys) ∧ Pa i ys H, ⟨n, by simp, Nat.zero_le _, [], Ex.new hD, upd_same, hm _ _ _ _ (TEx.of (Ex.new hD)) p0⟩, ?_⟩
  rintro i m H ⟨rfl, hi, ys, e, d, p⟩
  have hg := hGm _ _ e hG0
  by_cases hlt : i < n
  · refine .inr ⟨w.goes i H hlt hg, fun H' => ∃ ys, Ex H1 H' ∧ H' D = some (.lst ys) ∧ Pa (i + 1) ys H', fun H' q => ⟨n - (i + 1), by omega, rfl, hlt, q⟩, fun x H' y => ?_⟩
    have hy := w.yields i H x H' hlt hg y
    have e' := hY _ _ _ _ hy
    exact hs i x H H' ys hlt e hy (hm _ _ _ _ (TEx.of e') p) D _ hD (e' _ _ d) fun zs H3 e3 d3 p3 => ⟨zs, e3, d3, p3⟩
  · have ej : i = n := by omega
    subst ej
    exact .inl ⟨w.stops H hg, k D H ys hD e d p⟩
/-! ### xs[::s], s being 1 or -1 -/
def tDirL (K : PySem.W.Frag) (te ts : TE) : TE := fun σ H Q => te σ H fun x H1 => tPart ts σ H1 fun o H2 => ∃ (a : Addr) (xs : List V) (i : Bool), x = .ref a ∧ SqL K H2 a xs ∧ o = some (if i = true then 1 else -1) ∧ ∀ p, H2 p = none → Q (.ref p) (upd H2 p (.lst (if i = true then xs else xs.reverse)))
theorem cut_all (xs : List V) : cutV xs none none = xs := by
  unfold cutV
  rw [HT.sIx_none, HT.sIx_none, List.drop_zero, Nat.sub_zero, List.take_length]
theorem pe_dirL {X : Cx} {e es : Expr} {te ts : TE} {p3 pos : Pos} (he : PE X e te) (hs : PE X es ts)
    (hsub : ∀ (a l : Addr), subscripted (.Slice none none (some es) p3) false (.ref a) (.ref l) = operate [.ref a, .ref l] (getItem (.ref a) (.ref l)) := by intro _ _; with_unfolding_all rfl) : PE X (.Subscript e (.Slice none none (some es) p3) pos) (tDirL X.K te ts) := by
  refine ⟨fun pins s σ H Q I h => ?_⟩
  refine Subscript_ (thn (he.run pins s σ H _ I h) fun v s1 ⟨x, H1, I1, r1, q1⟩ => ?_)
  refine wpAny_Slice (thn (po_none.run pins s1 σ H1 (fun o H2 => o = none ∧ H2 = H1) I1 ⟨rfl, rfl⟩) fun vl s2 ⟨l, H2, I2, pl, el, e2⟩ => ?_)
  subst el e2
  refine thn (po_none.run pins s2 σ H2 (fun o H3 => o = none ∧ H3 = H2) I2 ⟨rfl, rfl⟩) fun vu s3 ⟨u, H3, I3, pu, eu, e3⟩ => ?_
  subst eu e3
  have hst : PO X (some es) (tPart ts) := po_some hs
  refine thn (hst.run pins s3 σ H3 _ I3 q1) fun vs s4 ⟨o, H4, I4, ps, a, xs, ib, ex, hx, eo, q⟩ => ?_
  subst ex
  cases r1
  subst eo
  have I5 : Inv X pins σ H4 { s4 with heap := s4.heap.push { cls := .type "slice", data := .fields #[vl, vu, vs] } } := I4.kept (t' := s4.toks) fun b ob q => Heap.get?_push_of_some _ q
  obtain ⟨its, r, ht, hz⟩ := I5.list hx
  have hlen := r.length
  show wpAny (model X.prog X.w) X.A (subscriptTail e (.Slice none none (some es) p3) (.ref a) (.ref s4.heap.objs.size)) (EP X pins σ Q) X.xe { s4 with heap := s4.heap.push { cls := .type "slice", data := .fields #[vl, vu, vs] } }
  refine tail_any (ops := [.ref a, .ref s4.heap.objs.size]) ht.isList.typeIs (PySem.slot_list_getitem.lookup) ?_ (hsub _ _)
  cases ib with
  | true =>
    simp only [if_true] at q ps ⊢
    refine wpAny_getItem_list_slice ht.isList (Heap.IsSliceOf.new _ vl vu vs) pl pu ps (by decide) ?_ (by rw [List.size_toArray]; omega)
    rw [show slicePick its.toArray none none (some 1) = slicePick its.toArray none none none from rfl, slicePick_cut, HT.sIx_none, HT.sIx_none, List.drop_zero, Nat.sub_zero, List.take_length]
    exact ⟨.ref _, _, I5.laid (t' := s4.toks) (o := .lst xs) (fun b ob q => Heap.get?_push_of_some _ q) (Nat.le_refl _) ⟨hz, _, 0, r, Heap.get?_push_size _ rfl⟩, rfl, q _ (I5.hok.fresh (Nat.le_refl _))⟩
  | false =>
    simp only [Bool.false_eq_true, if_false] at q ps ⊢
    refine wpAny_getItem_list_slice ht.isList (Heap.IsSliceOf.new _ vl vu vs) pl pu ps (by decide) ?_ (by rw [List.size_toArray]; omega)
    rw [PySem.W.krv_pick]
    exact ⟨.ref _, _, I5.laid (t' := s4.toks) (o := .lst xs.reverse) (fun b ob q => Heap.get?_push_of_some _ q) (Nat.le_refl _) ⟨by rw [List.length_reverse]; exact hz, _, 0, r.reverse, Heap.get?_push_size _ rfl⟩, rfl, q _ (I5.hok.fresh (Nat.le_refl _))⟩
theorem ifT {b : Bool} {p q : Prop} (h : b = true) (x : p) : if b = true then p else q := by
  rw [h]
  exact iteT x
theorem ifF {b : Bool} {p q : Prop} (h : b = false) (x : q) : if b = true then p else q := by
  rw [h]
  exact iteF x
theorem cut_to (xs : List V) (j : Nat) : cutV xs none (some (j : Int)) = xs.take j := by
  unfold cutV
  rw [HT.sIx_nat, HT.sIx_none, List.drop_zero, Nat.sub_zero]
  by_cases h : j ≤ xs.length
  · rw [Nat.min_eq_left h]
  · rw [Nat.min_eq_right (by omega), List.take_of_length_le (Nat.le_refl _), List.take_of_length_le (by omega)]
/-! ### repr of a dict of texts and ints -/
def kvV (p : Str × Int) : Key × V := (Sum.inr p.1, .int p.2)
def kvP (p : Str × Int) : PyData × PyData := (.str p.1, .int p.2)
def dcD (kv : List (Str × Int)) : PyData := .dict (kv.map kvP)
theorem dc_reads {P : Program} {w : World} {h : Heap} : ∀ {kv : List (Str × Int)} {us : List (Key × Value)} {es : List DictEntry}, KV (kv.map kvV) us → Pairs (mixKind P w) es us →
    ReadsAll h (es.map (·.key)) ((kv.map kvP).map (·.1)) [] ∧ ReadsAll h (es.map (·.val)) ((kv.map kvP).map (·.2)) []
  | [], _, _, .nil, .nil => ⟨.nil, .nil⟩
  | p :: kv, u :: us, e :: es, .cons a b, .cons c d f => by
    obtain ⟨q1, q2⟩ := dc_reads b f
    obtain ⟨a1, t, a2⟩ := a
    have a1 : Sum.inr p.1 = u.1 := a1
    rcases keyIs_shape (show keyIs u.1 e.key = true from c) with ⟨i, t', e1, e2⟩ | ⟨x, t', e1, e2⟩
    · rw [← a1] at e1
      cases e1
    · rw [← a1] at e1
      cases e1
      refine ⟨?_, ?_⟩
      · show ReadsAll h (e.key :: es.map (·.key)) (PyData.str p.1 :: (kv.map kvP).map (·.1)) ([] ++ [])
        rw [e2]
        exact .cons (.str _ _) q1
      · show ReadsAll h (e.val :: es.map (·.val)) (PyData.int p.2 :: (kv.map kvP).map (·.2)) ([] ++ [])
        rw [d, a2]
        exact .cons (.int _ _) q2
def kvOk (p : Str × Int) : Prop := (PyData.str p.1).canLay0 = true ∧ p.1.length ≤ 100 ∧ p.2.natAbs.log2 < 1920
theorem dc_depth : ∀ kv : List (Str × Int), PyData.depthKv (kv.map kvP) = 0
  | [] => rfl
  | p :: kv => by
    show max (max 0 0) (PyData.depthKv (kv.map kvP)) = 0
    rw [dc_depth kv]
    rfl
theorem dc_show : ∀ {kv : List (Str × Int)}, (∀ p ∈ kv, kvOk p) → PyData.showableKv (kv.map kvP) = true ∧ ((PyData.shownKv (kv.map kvP)).map (·.length)).sum ≤ kv.length * 3000 ∧ (PyData.shownKv (kv.map kvP)).length = kv.length
  | [], _ => ⟨rfl, Nat.le_refl _, rfl⟩
  | p :: kv, h => by
    obtain ⟨a1, a2, a3⟩ := dc_show fun q hq => h q (List.mem_cons_of_mem _ hq)
    obtain ⟨b1, b2, b3⟩ := h p List.mem_cons_self
    have s1 := shown_le (.str p.1) b1 rfl
    have s2 := shown_le (.int p.2) rfl (decide_eq_true b3)
    have s1 : (PyData.shown (.str p.1)).length ≤ 10 * p.1.length + 2 := s1
    have s2 : (PyData.shown (.int p.2)).length ≤ 1921 := s2
    refine ⟨?_, ?_, ?_⟩
    · show ((PyData.str p.1).showable && (PyData.int p.2).showable && PyData.showableKv (kv.map kvP)) = true
      rw [a1, show (PyData.str p.1).showable = true from rfl, show (PyData.int p.2).showable = true from decide_eq_true b3]
      rfl
    · show ((PyData.shownKv ((PyData.str p.1, PyData.int p.2) :: kv.map kvP)).map (·.length)).sum ≤ (kv.length + 1) * 3000
      rw [PyData.shownKv_cons, List.map_cons, List.sum_cons, strLen_append, strLen_append]
      have : (": " : Str).length = 2 := rfl
      omega
    · show (PyData.shownKv ((PyData.str p.1, PyData.int p.2) :: kv.map kvP)).length = kv.length + 1
      rw [PyData.shownKv_cons, List.length_cons, a3]
def rReprK : List V → Hp → VK → Prop := fun xs H Q => ∃ (a : Addr) (kv : List (Str × Int)), xs = [.ref a] ∧ H a = some (.dK (kv.map kvV)) ∧ (∀ p ∈ kv, kvOk p) ∧ kv.length ≤ 1000 ∧ Q (.str (dcD kv).shown) H
theorem callReprK {X : Cx} {k : Nat} (hg : X.A.guards = some []) (hr : Room k X.A) : CallR X (.builtin "repr") rReprK := by
  intro pk s τ H xs us Q I r h
  obtain ⟨a, kv, rfl, ha, hok, hl, q⟩ := h
  rw [Vals.ref1 r]
  obtain ⟨hz, hsm, vs, rel, o, es, ep, ho, hex, hdat, hko, hp, hn⟩ := dk_of I.hok ha
  obtain ⟨r1, r2⟩ := dc_reads (h := s.heap) rel hp
  obtain ⟨s1, s2, s3⟩ := dc_show hok
  have rd : Reads s.heap (.ref a) (dcD kv) (a :: [] ++ []) := Reads.dict ho hex.1 hdat r1 r2
  have hu := hr.units
  have hlen : (dcD kv).shown.length ≤ sizeLine := by
    show (dictText (PyData.shownKv (kv.map kvP))).length ≤ sizeLine
    have z := dictText_len_le (PyData.shownKv (kv.map kvP))
    rw [s3] at z
    have := line63
    have z2 : (dictText (PyData.shownKv (kv.map kvP))).length ≤ 4000000 := by
      have := Nat.mul_le_mul_right 3000 hl
      omega
    exact Nat.le_trans z2 (by decide)
  have hdep : (dcD kv).depth = 1 := by
    show PyData.depthKv (kv.map kvP) + 1 = 1
    rw [dc_depth]
  refine repr_of_reads' rd s1 (fun _ hm => ?_) hg (by omega) (fun _ _ e => e) (fun h' u tk hkp => ⟨.str (dcD kv).shown, H, I.kept (h' := h') (t' := tk) hkp, ⟨_, rfl⟩, q⟩) hlen
  have hm : sysModules ∈ [a] := hm
  rw [List.mem_singleton] at hm
  rw [← hm] at hsm
  exact absurd hsm (by decide)
end Own

namespace Own
open PySem PySem.Spec PyProof.Rows L2 Evl
/-! ### values of all kinds -/
mutual
/-- data that is tracked; dicts of texts and ints may stand in it -/
inductive Da (H : Hp) : V → PyData → Prop
  | non : Da H .non .none
  | bl (b : Bool) : Da H (.bl b) (.bool b)
  | int (i : Int) : Da H (.int i) (.int i)
  | str (z : Str) : Da H (.str z) (.str z)
  | lst {a : Addr} {xs : List V} {ds : List PyData} : H a = some (.lst xs) → DaAll H xs ds → Da H (.ref a) (.list ds)
  | tup {a : Addr} {xs : List V} {ds : List PyData} : H a = some (.tup xs) → DaAll H xs ds → Da H (.ref a) (.tuple ds)
  | dct {a : Addr} {kv : List (Str × Int)} {ks : List (PyData × PyData)} : H a = some (.dK (kv.map kvV)) → ks = kv.map kvP → Da H (.ref a) (.dict ks)
inductive DaAll (H : Hp) : List V → List PyData → Prop
  | nil : DaAll H [] []
  | cons {v : V} {vs : List V} {d : PyData} {ds : List PyData} : Da H v d → DaAll H vs ds → DaAll H (v :: vs) (d :: ds)
end
mutual
theorem Da.ex {H H' : Hp} (e : Ex H H') : ∀ (d : PyData) {v : V}, Da H v d → Da H' v d
  | .none, _, h => by cases h; exact .non
  | .bool _, _, h => by cases h; exact .bl _
  | .int _, _, h => by cases h; exact .int _
  | .str _, _, h => by cases h; exact .str _
  | .list ds, _, h => by
    cases h with
    | lst h1 h2 => exact .lst (e _ _ h1) (DaAll.ex e ds h2)
  | .tuple ds, _, h => by
    cases h with
    | tup h1 h2 => exact .tup (e _ _ h1) (DaAll.ex e ds h2)
  | .dict _, _, h => by
    cases h with
    | dct h1 h2 => exact .dct (e _ _ h1) h2
theorem DaAll.ex {H H' : Hp} (e : Ex H H') : ∀ (ds : List PyData) {vs : List V}, DaAll H vs ds → DaAll H' vs ds
  | [], _, h => by cases h; exact .nil
  | d :: ds, _, h => by
    cases h with
    | cons h1 h2 => exact .cons (Da.ex e d h1) (DaAll.ex e ds h2)
end
theorem DaAll.len {H : Hp} : ∀ {vs : List V} {ds : List PyData}, DaAll H vs ds → vs.length = ds.length
  | _, _, .nil => rfl
  | _, _, .cons _ h => by rw [List.length_cons, List.length_cons, h.len]
theorem DaAll.at {H : Hp} : ∀ {vs : List V} {ds : List PyData} {i : Nat} {v : V}, DaAll H vs ds → vs[i]? = some v → ∃ d, ds[i]? = some d ∧ Da H v d
  | _, _, _, _, .nil, e => by simp at e
  | _, _, 0, _, .cons h _, e => by cases e; exact ⟨_, rfl, h⟩
  | _, _, i + 1, _, .cons _ h, e => DaAll.at (i := i) h e
theorem DaAll.at2 {H : Hp} : ∀ {vs : List V} {ds : List PyData} {i : Nat} {d : PyData}, DaAll H vs ds → ds[i]? = some d → ∃ v, vs[i]? = some v ∧ Da H v d
  | _, _, _, _, .nil, e => by simp at e
  | _, _, 0, _, .cons h _, e => by cases e; exact ⟨_, rfl, h⟩
  | _, _, i + 1, _, .cons _ h, e => DaAll.at2 (i := i) h e
theorem DaAll.app {H : Hp} : ∀ {vs ws : List V} {ds es : List PyData}, DaAll H vs ds → DaAll H ws es → DaAll H (vs ++ ws) (ds ++ es)
  | _, _, _, _, .nil, k => k
  | _, _, _, _, .cons h t, k => .cons h (t.app k)
theorem DaAll.take {H : Hp} : ∀ {vs : List V} {ds : List PyData} (n : Nat), DaAll H vs ds → DaAll H (vs.take n) (ds.take n)
  | _, _, 0, _ => .nil
  | _, _, _ + 1, .nil => .nil
  | _, _, n + 1, .cons h t => .cons h (t.take n)
theorem DaAll.drop {H : Hp} : ∀ {vs : List V} {ds : List PyData} (n : Nat), DaAll H vs ds → DaAll H (vs.drop n) (ds.drop n)
  | _, _, 0, h => h
  | _, _, _ + 1, .nil => .nil
  | _, _, n + 1, .cons _ t => t.drop n
theorem DaAll.put {H : Hp} {v : V} {d : PyData} (hv : Da H v d) : ∀ {vs : List V} {ds : List PyData} {i : Nat}, DaAll H vs ds → DaAll H (vs.set i v) (ds.set i d)
  | _, _, _, .nil => .nil
  | _, _, 0, .cons _ t => .cons hv t
  | _, _, i + 1, .cons h t => .cons h (DaAll.put hv (i := i) t)
theorem DaAll.snoc {H : Hp} {v : V} {d : PyData} {vs : List V} {ds : List PyData} (h : DaAll H vs ds) (hv : Da H v d) : DaAll H (vs ++ [v]) (ds ++ [d]) := h.app (.cons hv .nil)
/-! kinds -/
def tyD : PyData → String
  | .none => "NoneType"
  | .bool _ => "bool"
  | .int _ => "int"
  | .str _ => "str"
  | .list _ => "list"
  | .tuple _ => "tuple"
  | .dict _ => "dict"
theorem Da.ty {K : PySem.W.Frag} {H : Hp} {v : V} {d : PyData} (h : Da H v d) : TyX K H v (.type (tyD d)) := by
  cases h with
  | non => exact .base .non
  | bl b => exact .base (.bl b)
  | int i => exact .base (.int i)
  | str z => exact .base (.str z)
  | lst h1 h2 => exact .base (.lst h1)
  | tup h1 h2 => exact .base (.tup h1)
  | dct h1 h2 => exact .base (.dK h1)
def isStrD : PyData → Bool | .str _ => true | _ => false
def isTupD : PyData → Bool | .tuple _ => true | _ => false
def isLstD : PyData → Bool | .list _ => true | _ => false
def isBoolD : PyData → Bool | .bool _ => true | _ => false
def isIntD : PyData → Bool | .int _ => true | .bool _ => true | _ => false
theorem kit7 {T : String} {a b c e f g i : Bool} (h1 : kitB "NoneType" T = some a) (h2 : kitB "bool" T = some b) (h3 : kitB "int" T = some c) (h4 : kitB "str" T = some e) (h5 : kitB "list" T = some f) (h6 : kitB "tuple" T = some g) (h7 : kitB "dict" T = some i)
    {p : PyData → Bool} (q1 : p .none = a) (q2 : ∀ x, p (.bool x) = b) (q3 : ∀ x, p (.int x) = c) (q4 : ∀ x, p (.str x) = e) (q5 : ∀ x, p (.list x) = f) (q6 : ∀ x, p (.tuple x) = g) (q7 : ∀ x, p (.dict x) = i) : ∀ d, kitB (tyD d) T = some (p d)
  | .none => by rw [q1]; exact h1
  | .bool x => by rw [q2]; exact h2
  | .int x => by rw [q3]; exact h3
  | .str x => by rw [q4]; exact h4
  | .list x => by rw [q5]; exact h5
  | .tuple x => by rw [q6]; exact h6
  | .dict x => by rw [q7]; exact h7
theorem kit_str : ∀ d, kitB (tyD d) "str" = some (isStrD d) := kit7 (a := false) (b := false) (c := false) (e := true) (f := false) (g := false) (i := false) (by decide +kernel) (by decide +kernel) (by decide +kernel) (by decide +kernel) (by decide +kernel) (by decide +kernel) (by decide +kernel) rfl (fun _ => rfl) (fun _ => rfl) (fun _ => rfl) (fun _ => rfl) (fun _ => rfl) (fun _ => rfl)
theorem kit_tuple : ∀ d, kitB (tyD d) "tuple" = some (isTupD d) := kit7 (a := false) (b := false) (c := false) (e := false) (f := false) (g := true) (i := false) (by decide +kernel) (by decide +kernel) (by decide +kernel) (by decide +kernel) (by decide +kernel) (by decide +kernel) (by decide +kernel) rfl (fun _ => rfl) (fun _ => rfl) (fun _ => rfl) (fun _ => rfl) (fun _ => rfl) (fun _ => rfl)
theorem kit_list : ∀ d, kitB (tyD d) "list" = some (isLstD d) := kit7 (a := false) (b := false) (c := false) (e := false) (f := true) (g := false) (i := false) (by decide +kernel) (by decide +kernel) (by decide +kernel) (by decide +kernel) (by decide +kernel) (by decide +kernel) (by decide +kernel) rfl (fun _ => rfl) (fun _ => rfl) (fun _ => rfl) (fun _ => rfl) (fun _ => rfl) (fun _ => rfl)
theorem kit_bool : ∀ d, kitB (tyD d) "bool" = some (isBoolD d) := kit7 (a := false) (b := true) (c := false) (e := false) (f := false) (g := false) (i := false) (by decide +kernel) (by decide +kernel) (by decide +kernel) (by decide +kernel) (by decide +kernel) (by decide +kernel) (by decide +kernel) rfl (fun _ => rfl) (fun _ => rfl) (fun _ => rfl) (fun _ => rfl) (fun _ => rfl) (fun _ => rfl)
theorem kit_int : ∀ d, kitB (tyD d) "int" = some (isIntD d) := kit7 (a := false) (b := true) (c := true) (e := false) (f := false) (g := false) (i := false) (by decide +kernel) (by decide +kernel) (by decide +kernel) (by decide +kernel) (by decide +kernel) (by decide +kernel) (by decide +kernel) rfl (fun _ => rfl) (fun _ => rfl) (fun _ => rfl) (fun _ => rfl) (fun _ => rfl) (fun _ => rfl)
section
variable {K : PySem.W.Frag} {H : Hp} {v : V} {d : PyData} {Q : VK}
theorem isi_str (h : Da H v d) (q : Q (.bl (isStrD d)) H) : rIsi K [v, .ty "str"] H Q :=
  ⟨v, .ty "str", _, _, isStrD d, rfl, .ty _, h.ty, kit_ty (kit_str d), q⟩
theorem isi_tup (h : Da H v d) (q : Q (.bl (isTupD d)) H) : rIsi K [v, .ty "tuple"] H Q :=
  ⟨v, .ty "tuple", _, _, isTupD d, rfl, .ty _, h.ty, kit_ty (kit_tuple d), q⟩
theorem isi_lst (h : Da H v d) (q : Q (.bl (isLstD d)) H) : rIsi K [v, .ty "list"] H Q :=
  ⟨v, .ty "list", _, _, isLstD d, rfl, .ty _, h.ty, kit_ty (kit_list d), q⟩
theorem isi_bool (h : Da H v d) (q : Q (.bl (isBoolD d)) H) : rIsi K [v, .ty "bool"] H Q :=
  ⟨v, .ty "bool", _, _, isBoolD d, rfl, .ty _, h.ty, kit_ty (kit_bool d), q⟩
theorem isi_int (h : Da H v d) (q : Q (.bl (isIntD d)) H) : rIsi K [v, .ty "int"] H Q :=
  ⟨v, .ty "int", _, _, isIntD d, rfl, .ty _, h.ty, kit_ty (kit_int d), q⟩
theorem isi_two {a b : String} {r1 r2 : Bool} {tp : Addr} (h : Da H v d) (ht : H tp = some (.tup [.ty a, .ty b])) (h1 : PySem.W.kitOne K (.type (tyD d)) (.type a) = some r1) (h2 : PySem.W.kitOne K (.type (tyD d)) (.type b) = some r2) (q : Q (.bl (r1 || r2)) H) : rIsiT K [v, .ref tp] H Q := by
  refine ⟨v, tp, _, _, [.type a, .type b], r1 || r2, rfl, ht, .cons (.ty _) (.cons (.ty _) .nil), h.ty, ?_, q⟩
  refine kitAny_cons h1 (fun e => ?_) (fun e => by rw [e]; rfl)
  rw [e, Bool.false_or]
  exact kitAny_cons h2 (fun e => by rw [e]; exact kitAny_nil) (fun e => by rw [e])
theorem isi_tl {tp : Addr} (h : Da H v d) (ht : H tp = some (.tup [.ty "tuple", .ty "list"])) (q : Q (.bl (isTupD d || isLstD d)) H) : rIsiT K [v, .ref tp] H Q :=
  isi_two h ht (r1 := isTupD d) (r2 := isLstD d) (kit_ty (kit_tuple d)) (kit_ty (kit_list d)) q
theorem isi_lt {tp : Addr} (h : Da H v d) (ht : H tp = some (.tup [.ty "list", .ty "tuple"])) (q : Q (.bl (isLstD d || isTupD d)) H) : rIsiT K [v, .ref tp] H Q :=
  isi_two h ht (r1 := isLstD d) (r2 := isTupD d) (kit_ty (kit_list d)) (kit_ty (kit_tuple d)) q
end
/-! a list beside the empty one -/
def rEq0 (K : PySem.W.Frag) : R2 := fun x y H Q => ∃ (a b : Addr) (xs : List V), x = .ref a ∧ y = .ref b ∧ SqL K H a xs ∧ SqL K H b [] ∧ Q (.bl xs.isEmpty) H
def rNe0 (K : PySem.W.Frag) : R2 := fun x y H Q => ∃ (a b : Addr) (xs : List V), x = .ref a ∧ y = .ref b ∧ SqL K H a xs ∧ SqL K H b [] ∧ Q (.bl (!xs.isEmpty)) H
theorem op_eq0 {X : Cx} {k : Nat} (hr : Room k X.A) : OpR X (compareOp .Eq) (rEq0 X.K) := by
  intro pk s τ H x y v u Q I rx ry h
  obtain ⟨a, b, xs, rfl, rfl, h1, h2, q⟩ := h
  cases rx
  cases ry
  obtain ⟨its, r, pl, hz⟩ := I.list h1
  obtain ⟨its2, r2, pl2, hz2⟩ := I.list h2
  cases r2
  have hu : X.A.units < cLine := by
    have := hr.units
    omega
  have hlen := r.length
  cases xs with
  | nil =>
    cases r
    exact SeqAt.eq_listAt (e := fun _ => true) pl.isList pl2.isList rfl hu (fun j h1 => absurd h1 (by simp)) ⟨.bl true, H, I, rfl, q⟩
  | cons z zs =>
    refine SeqAt.eq_list_lengthsAt pl.isList pl2.isList ?_ hu ⟨.bl false, H, I, rfl, q⟩
    rw [List.length_cons] at hlen
    simp only [List.size_toArray, List.length_nil, bne_iff_ne, ne_eq]
    omega
theorem op_ne0 {X : Cx} {k : Nat} (hr : Room k X.A) : OpR X (compareOp .NotEq) (rNe0 X.K) := by
  intro pk s τ H x y v u Q I rx ry h
  obtain ⟨a, b, xs, rfl, rfl, h1, h2, q⟩ := h
  cases rx
  cases ry
  obtain ⟨its, r, pl, hz⟩ := I.list h1
  obtain ⟨its2, r2, pl2, hz2⟩ := I.list h2
  cases r2
  have hu : X.A.units < cLine := by
    have := hr.units
    omega
  have hlen := r.length
  cases xs with
  | nil =>
    cases r
    exact SeqAt.RcNeAt.lists (e := fun _ => true) pl.isList pl2.isList rfl hu (fun j h1 => absurd h1 (by simp)) _ _ _ _ ⟨.bl false, H, I, rfl, q⟩
  | cons z zs =>
    refine SeqAt.RcNeAt.lists_lengths pl.isList pl2.isList ?_ hu _ _ _ _ ⟨.bl true, H, I, rfl, q⟩
    rw [List.length_cons] at hlen
    simp only [List.size_toArray, List.length_nil, bne_iff_ne, ne_eq]
    omega
theorem op_eq0B {X : Cx} {k : Nat} {s : Shared} {H : Hp} {sc : Scope} {ce : Env} {fp : List Addr} (hr : Room k X.A) : OpR (X.blk s H sc ce fp) (compareOp .Eq) (rEq0 X.K) := op_eq0 hr
theorem op_ne0B {X : Cx} {k : Nat} {s : Shared} {H : Hp} {sc : Scope} {ce : Env} {fp : List Addr} (hr : Room k X.A) : OpR (X.blk s H sc ce fp) (compareOp .NotEq) (rNe0 X.K) := op_ne0 hr
/-! sizes -/
mutual
def gD : PyData → Bool
  | .none => true
  | .bool _ => true
  | .int i => decide (i.natAbs.log2 < 1920)
  | .str x => x.cps.all (· < 0x110000)
  | .list xs => gDs xs
  | .tuple xs => gDs xs
  | .dict ks => gDk ks
def gDs : List PyData → Bool
  | [] => true
  | x :: xs => gD x && gDs xs
def gDk : List (PyData × PyData) → Bool
  | [] => true
  | (k, v) :: r => gD k && (gD v && gDk r)
end
mutual
/-- no text of d is longer -/
def wd : PyData → Nat
  | .none => 5
  | .bool _ => 5
  | .int _ => 1921
  | .str x => 10 * x.length + 5
  | .list xs => wds xs + 3
  | .tuple xs => wds xs + 3
  | .dict ks => wdk ks + 3
def wds : List PyData → Nat
  | [] => 0
  | x :: xs => wd x + 2 + wds xs
def wdk : List (PyData × PyData) → Nat
  | [] => 0
  | (k, v) :: r => wd k + wd v + 4 + wdk r
end
theorem str_wd {x : Str} (h : x.cps.all (· < 0x110000) = true) : (PyData.shown (.str x)).length ≤ 10 * x.length + 5 := by
  have z : (PyData.shown (.str x)).length ≤ 10 * x.length + 2 := by
    refine StrLaws.reprText_len x fun c hc => ?_
    rw [← Array.all_toList] at h
    have q := of_decide_eq_true ((List.all_eq_true.mp h) c hc)
    exact Nat.lt_trans q (by decide)
  omega
mutual
theorem shownD : ∀ d : PyData, gD d = true → d.showable = true ∧ d.shown.length ≤ wd d
  | .none, _ => ⟨rfl, by decide⟩
  | .bool b, _ => ⟨rfl, by cases b <;> decide⟩
  | .int i, h => ⟨h, int_text_len_1921 (of_decide_eq_true h)⟩
  | .str x, h => ⟨rfl, str_wd h⟩
  | .list xs, h => by
    obtain ⟨q1, q2⟩ := shownDs xs h
    have z := listText_le (PyData.shownAll xs)
    refine ⟨q1, ?_⟩
    show (listText (PyData.shownAll xs)).length ≤ wds xs + 3
    omega
  | .tuple xs, h => by
    obtain ⟨q1, q2⟩ := shownDs xs h
    have z := tupleText_le (PyData.shownAll xs)
    refine ⟨q1, ?_⟩
    show (tupleText (PyData.shownAll xs)).length ≤ wds xs + 3
    omega
  | .dict ks, h => by
    obtain ⟨q1, q2⟩ := shownDk ks h
    refine ⟨q1, ?_⟩
    show (dictText (PyData.shownKv ks)).length ≤ wdk ks + 3
    have z := dictText_len_le (PyData.shownKv ks)
    omega
theorem shownDs : ∀ ds : List PyData, gDs ds = true → PyData.showableAll ds = true ∧ piled (PyData.shownAll ds) ≤ wds ds
  | [], _ => ⟨rfl, Nat.le_refl _⟩
  | d :: ds, h => by
    have h' : (gD d && gDs ds) = true := h
    rw [Bool.and_eq_true] at h'
    obtain ⟨a1, a2⟩ := shownD d h'.1
    obtain ⟨b1, b2⟩ := shownDs ds h'.2
    refine ⟨?_, ?_⟩
    · show (d.showable && PyData.showableAll ds) = true
      rw [a1, b1]
      rfl
    · show piled (d.shown :: PyData.shownAll ds) ≤ wd d + 2 + wds ds
      rw [piled_cons]
      omega
theorem shownDk : ∀ ks : List (PyData × PyData), gDk ks = true → PyData.showableKv ks = true ∧ ((PyData.shownKv ks).map (·.length)).sum + 2 * (PyData.shownKv ks).length ≤ wdk ks
  | [], _ => ⟨rfl, Nat.le_refl _⟩
  | (k, v) :: r, h => by
    have h' : (gD k && (gD v && gDk r)) = true := h
    rw [Bool.and_eq_true, Bool.and_eq_true] at h'
    obtain ⟨a1, a2⟩ := shownD k h'.1
    obtain ⟨b1, b2⟩ := shownD v h'.2.1
    obtain ⟨c1, c2⟩ := shownDk r h'.2.2
    refine ⟨?_, ?_⟩
    · show (k.showable && v.showable && PyData.showableKv r) = true
      rw [a1, b1, c1]
      rfl
    · rw [PyData.shownKv_cons, List.map_cons, List.sum_cons, List.length_cons, strLen_append, strLen_append]
      show _ ≤ wd k + wd v + 4 + wdk r
      have : (": " : Str).length = 2 := rfl
      omega
end
end Own

namespace Own
open PySem PySem.Spec PyProof.Rows L2 Evl
/-- the base knows the table of modules (so no tracked list lies there) -/
def SysAt (base : Heap) : Prop := ∃ mm, base.Ns sysModules mm
section
variable {X : Cx} {pins : List (Addr × Obj)} {σ : L2.St} {H : Hp} {s : Shared}
theorem not_sys (I : Inv X pins σ H s) (hs : SysAt X.base) {a : Addr} {o : Obj} {vs : Array Value} {n : Nat} (h : s.heap.get? a = some o) (hd : o.data = .seq vs n) : a ≠ sysModules := by
  intro e
  subst e
  obtain ⟨mm, o2, es, ep, h2, hd2, _⟩ := hs
  have h3 := I.bk _ _ h2
  rw [h] at h3
  cases h3
  rw [hd] at hd2
  cases hd2
mutual
theorem Da.reads (I : Inv X pins σ H s) (hs : SysAt X.base) : ∀ (d : PyData) (v : V) (u : Value), Da H v d → RelV v u → ∃ as, Reads s.heap u d as ∧ sysModules ∉ as
  | .none, _, _, h, r => by
    cases h
    cases r
    exact ⟨_, Reads.none, by simp⟩
  | .bool b, _, _, h, r => by
    cases h
    cases r
    exact ⟨_, Reads.bool b, by simp⟩
  | .int i, _, _, h, r => by
    cases h
    obtain ⟨t, rfl⟩ := r
    exact ⟨_, Reads.int i t, by simp⟩
  | .str x, _, _, h, r => by
    cases h
    obtain ⟨t, rfl⟩ := r
    exact ⟨_, Reads.str x t, by simp⟩
  | .list ds, _, _, h, r => by
    cases h with
    | lst hh ha =>
      cases r
      obtain ⟨its, rv, ⟨o, n, ho, hc, _, hd⟩, _⟩ := I.list (sq_of hh)
      obtain ⟨as, hr, hn⟩ := DaAll.reads I hs ds _ its ha rv
      refine ⟨_, Reads.list ho hc hd hr, ?_⟩
      rw [List.mem_cons, not_or]
      exact ⟨(not_sys I hs ho hd).symm, hn⟩
  | .tuple ds, _, _, h, r => by
    cases h with
    | tup hh ha =>
      cases r
      obtain ⟨its, rv, ⟨o, ho, hc, n, hd⟩, _⟩ := I.tuple (st_of hh)
      obtain ⟨as, hr, hn⟩ := DaAll.reads I hs ds _ its ha rv
      exact ⟨_, Reads.tuple ho hc hd hr, hn⟩
  | .dict ks, _, _, h, r => by
    cases h with
    | dct hh e =>
      cases r
      obtain ⟨hz, hsm, vs, rel, o, es, ep, ho, hex, hdat, hko, hp, hn⟩ := dk_of I.hok hh
      obtain ⟨r1, r2⟩ := dc_reads (h := s.heap) rel hp
      subst e
      refine ⟨_, Reads.dict ho hex.1 hdat r1 r2, ?_⟩
      intro hm
      have hm : sysModules ∈ [_] := hm
      rw [List.mem_singleton] at hm
      rw [← hm] at hsm
      exact absurd hsm (by decide)
theorem DaAll.reads (I : Inv X pins σ H s) (hs : SysAt X.base) : ∀ (ds : List PyData) (vs : List V) (us : List Value), DaAll H vs ds → Vals vs us → ∃ as, ReadsAll s.heap us ds as ∧ sysModules ∉ as
  | [], _, _, h, r => by
    cases h
    cases r
    exact ⟨_, ReadsAll.nil, by simp⟩
  | d :: ds, _, _, h, r => by
    cases h with
    | cons h1 h2 =>
      cases r with
      | cons r1 r2 =>
        obtain ⟨as, q1, n1⟩ := Da.reads I hs d _ _ h1 r1
        obtain ⟨bs, q2, n2⟩ := DaAll.reads I hs ds _ _ h2 r2
        refine ⟨_, ReadsAll.cons q1 q2, ?_⟩
        rw [List.mem_append, not_or]
        exact ⟨n1, n2⟩
end
end
/-- data that may be shown -/
def okD (n W : Nat) (d : PyData) : Prop := gD d = true ∧ d.depth ≤ n ∧ wd d ≤ W
theorem okD.mono {n W n' W' : Nat} {d : PyData} (h : okD n W d) (h1 : n ≤ n') (h2 : W ≤ W') : okD n' W' d := ⟨h.1, Nat.le_trans h.2.1 h1, Nat.le_trans h.2.2 h2⟩
def rReprX : List V → Hp → VK → Prop := fun xs H Q => ∃ v d, xs = [v] ∧ Da H v d ∧ okD 40 16000000 d ∧ Q (.str d.shown) H
theorem callReprX {X : Cx} {k : Nat} (hs : SysAt X.base) (hg : X.A.guards = some []) (hr : Room k X.A) : CallR X (.builtin "repr") rReprX := by
  intro pk s τ H xs us Q I r h
  obtain ⟨v, d, rfl, hd, ⟨g1, g2, g3⟩, q⟩ := h
  obtain ⟨s1, s2⟩ := shownD d g1
  have hlen : d.shown.length ≤ sizeLine := Nat.le_trans s2 (Nat.le_trans g3 (by decide))
  have hu := hr.units
  obtain ⟨u, eu, ru⟩ := vals1 r
  subst eu
  obtain ⟨as, rd, hn⟩ := Da.reads I hs d v u hd ru
  cases hd with
  | lst h1 h2 =>
    cases ru
    exact repr_of_reads' rd s1 (fun _ => hn) hg (by omega) (fun _ _ e => e) (fun h' u tk hkp => ⟨.str _, H, I.kept (h' := h') (t' := tk) hkp, ⟨_, rfl⟩, q⟩) hlen
  | tup h1 h2 =>
    cases ru
    exact repr_of_reads' rd s1 (fun _ => hn) hg (by omega) (fun _ _ e => e) (fun h' u tk hkp => ⟨.str _, H, I.kept (h' := h') (t' := tk) hkp, ⟨_, rfl⟩, q⟩) hlen
  | dct h1 h2 =>
    cases ru
    exact repr_of_reads' rd s1 (fun _ => hn) hg (by omega) (fun _ _ e => e) (fun h' u tk hkp => ⟨.str _, H, I.kept (h' := h') (t' := tk) hkp, ⟨_, rfl⟩, q⟩) hlen
  | non =>
    cases ru
    exact PySem.P.repr_of_none ⟨.str "None", H, I.tok _, ⟨_, rfl⟩, q⟩
  | bl b =>
    cases ru
    exact PySem.P.repr_of_bool ⟨.str (if b then "True" else "False"), H, I.tok _, ⟨_, by cases b <;> rfl⟩, by cases b <;> exact q⟩
  | int i =>
    obtain ⟨t, rfl⟩ := ru
    exact PySem.P.repr_of_int (of_decide_eq_true g1) ⟨.str (toString i), H, I.tok _, ⟨_, rfl⟩, q⟩
  | str x =>
    obtain ⟨t, rfl⟩ := ru
    exact PySem.P.repr_of_str ⟨.str (reprText x), H, I.tok _, ⟨_, rfl⟩, q⟩ hlen
/-! making and taking apart -/
theorem gDs_iff : ∀ {ds : List PyData}, gDs ds = true ↔ ∀ d ∈ ds, gD d = true
  | [] => ⟨fun _ d h => by (cases h), fun _ => rfl⟩
  | x :: xs => by
    show (gD x && gDs xs) = true ↔ _
    rw [Bool.and_eq_true, gDs_iff (ds := xs)]
    refine ⟨fun h d hd => ?_, fun h => ⟨h x List.mem_cons_self, fun d hd => h d (List.mem_cons_of_mem _ hd)⟩⟩
    rcases List.mem_cons.mp hd with e | hd
    · rw [e]
      exact h.1
    · exact h.2 d hd
theorem depthAll_le {n : Nat} : ∀ {ds : List PyData}, PyData.depthAll ds ≤ n ↔ ∀ d ∈ ds, d.depth ≤ n
  | [] => ⟨fun _ d h => by (cases h), fun _ => Nat.zero_le _⟩
  | x :: xs => by
    show max x.depth (PyData.depthAll xs) ≤ n ↔ _
    rw [Nat.max_le, depthAll_le (ds := xs)]
    refine ⟨fun h d hd => ?_, fun h => ⟨h x List.mem_cons_self, fun d hd => h d (List.mem_cons_of_mem _ hd)⟩⟩
    rcases List.mem_cons.mp hd with e | hd
    · rw [e]
      exact h.1
    · exact h.2 d hd
theorem wds_app : ∀ (xs ys : List PyData), wds (xs ++ ys) = wds xs + wds ys
  | [], ys => (Nat.zero_add _).symm
  | x :: xs, ys => by
    show wd x + 2 + wds (xs ++ ys) = wd x + 2 + wds xs + wds ys
    rw [wds_app xs ys]
    omega
theorem wd_mem {d : PyData} : ∀ {ds : List PyData}, d ∈ ds → wd d + 2 ≤ wds ds
  | x :: xs, h => by
    show _ ≤ wd x + 2 + wds xs
    rcases List.mem_cons.mp h with e | h
    · rw [e]
      omega
    · have := wd_mem h
      omega
theorem wds_take (n : Nat) (xs : List PyData) : wds (xs.take n) ≤ wds xs := by
  have h := wds_app (xs.take n) (xs.drop n)
  rw [List.take_append_drop] at h
  omega
theorem wds_drop (n : Nat) (xs : List PyData) : wds (xs.drop n) ≤ wds xs := by
  have h := wds_app (xs.take n) (xs.drop n)
  rw [List.take_append_drop] at h
  omega
theorem wd_pos : ∀ d : PyData, 3 ≤ wd d
  | .none => by show 3 ≤ 5; decide
  | .bool _ => by show 3 ≤ 5; decide
  | .int _ => by show 3 ≤ 1921; decide
  | .str x => by show 3 ≤ 10 * x.length + 5; omega
  | .list xs => by show 3 ≤ wds xs + 3; omega
  | .tuple xs => by show 3 ≤ wds xs + 3; omega
  | .dict ks => by show 3 ≤ wdk ks + 3; omega
theorem len_wds : ∀ ds : List PyData, 5 * ds.length ≤ wds ds
  | [] => Nat.le_refl _
  | x :: xs => by
    have := len_wds xs
    have := wd_pos x
    show 5 * (xs.length + 1) ≤ wd x + 2 + wds xs
    omega
end Own

namespace Own
open PySem PySem.Spec PyProof.Rows L2 Evl
/-! ### data that lies within A -/
theorem none_of {H H' : Hp} {l : Addr} (e : Ex H H') (h : H' l = none) : H l = none := by
  cases hx : H l with
  | none => rfl
  | some o => rw [e _ _ hx] at h; cases h
mutual
inductive DaA (A : Addr → Prop) (H : Hp) : V → PyData → Prop
  | non : DaA A H .non .none
  | bl (b : Bool) : DaA A H (.bl b) (.bool b)
  | int (i : Int) : DaA A H (.int i) (.int i)
  | str (z : Str) : DaA A H (.str z) (.str z)
  | lst {a : Addr} {xs : List V} {ds : List PyData} : A a → H a = some (.lst xs) → DaAA A H xs ds → DaA A H (.ref a) (.list ds)
  | tup {a : Addr} {xs : List V} {ds : List PyData} : A a → H a = some (.tup xs) → DaAA A H xs ds → DaA A H (.ref a) (.tuple ds)
  | dct {a : Addr} {kv : List (Str × Int)} {ks : List (PyData × PyData)} : A a → H a = some (.dK (kv.map kvV)) → ks = kv.map kvP → DaA A H (.ref a) (.dict ks)
inductive DaAA (A : Addr → Prop) (H : Hp) : List V → List PyData → Prop
  | nil : DaAA A H [] []
  | cons {v : V} {vs : List V} {d : PyData} {ds : List PyData} : DaA A H v d → DaAA A H vs ds → DaAA A H (v :: vs) (d :: ds)
end
mutual
theorem DaA.move {A A' : Addr → Prop} {H H' : Hp} (e : ∀ a o, A a → H a = some o → H' a = some o) (w : ∀ a, A a → A' a) : ∀ (d : PyData) {v : V}, DaA A H v d → DaA A' H' v d
  | .none, _, h => by cases h; exact .non
  | .bool _, _, h => by cases h; exact .bl _
  | .int _, _, h => by cases h; exact .int _
  | .str _, _, h => by cases h; exact .str _
  | .list ds, _, h => by
    cases h with
    | lst h0 h1 h2 => exact .lst (w _ h0) (e _ _ h0 h1) (DaAA.move e w ds h2)
  | .tuple ds, _, h => by
    cases h with
    | tup h0 h1 h2 => exact .tup (w _ h0) (e _ _ h0 h1) (DaAA.move e w ds h2)
  | .dict _, _, h => by
    cases h with
    | dct h0 h1 h2 => exact .dct (w _ h0) (e _ _ h0 h1) h2
theorem DaAA.move {A A' : Addr → Prop} {H H' : Hp} (e : ∀ a o, A a → H a = some o → H' a = some o) (w : ∀ a, A a → A' a) : ∀ (ds : List PyData) {vs : List V}, DaAA A H vs ds → DaAA A' H' vs ds
  | [], _, h => by cases h; exact .nil
  | d :: ds, _, h => by
    cases h with
    | cons h1 h2 => exact .cons (DaA.move e w d h1) (DaAA.move e w ds h2)
end
mutual
theorem DaA.da {A : Addr → Prop} {H : Hp} : ∀ (d : PyData) {v : V}, DaA A H v d → Da H v d
  | .none, _, h => by cases h; exact .non
  | .bool _, _, h => by cases h; exact .bl _
  | .int _, _, h => by cases h; exact .int _
  | .str _, _, h => by cases h; exact .str _
  | .list ds, _, h => by
    cases h with
    | lst h0 h1 h2 => exact .lst h1 (DaAA.da ds h2)
  | .tuple ds, _, h => by
    cases h with
    | tup h0 h1 h2 => exact .tup h1 (DaAA.da ds h2)
  | .dict _, _, h => by
    cases h with
    | dct h0 h1 h2 => exact .dct h1 h2
theorem DaAA.da {A : Addr → Prop} {H : Hp} : ∀ (ds : List PyData) {vs : List V}, DaAA A H vs ds → DaAll H vs ds
  | [], _, h => by cases h; exact .nil
  | d :: ds, _, h => by
    cases h with
    | cons h1 h2 => exact .cons (DaA.da d h1) (DaAA.da ds h2)
end
mutual
theorem Da.within {H : Hp} : ∀ (d : PyData) {v : V}, Da H v d → DaA (fun a => H a ≠ none) H v d
  | .none, _, h => by cases h; exact .non
  | .bool _, _, h => by cases h; exact .bl _
  | .int _, _, h => by cases h; exact .int _
  | .str _, _, h => by cases h; exact .str _
  | .list ds, _, h => by
    cases h with
    | lst h1 h2 => exact .lst (by rw [h1]; exact fun z => nomatch z) h1 (DaAll.within ds h2)
  | .tuple ds, _, h => by
    cases h with
    | tup h1 h2 => exact .tup (by rw [h1]; exact fun z => nomatch z) h1 (DaAll.within ds h2)
  | .dict _, _, h => by
    cases h with
    | dct h1 h2 => exact .dct (by rw [h1]; exact fun z => nomatch z) h1 h2
theorem DaAll.within {H : Hp} : ∀ (ds : List PyData) {vs : List V}, DaAll H vs ds → DaAA (fun a => H a ≠ none) H vs ds
  | [], _, h => by cases h; exact .nil
  | d :: ds, _, h => by
    cases h with
    | cons h1 h2 => exact .cons (Da.within d h1) (DaAll.within ds h2)
end
section
variable {A : Addr → Prop} {H : Hp}
theorem DaAA.len : ∀ {vs : List V} {ds : List PyData}, DaAA A H vs ds → vs.length = ds.length
  | _, _, .nil => rfl
  | _, _, .cons _ h => by rw [List.length_cons, List.length_cons, h.len]
theorem DaAA.at2 : ∀ {vs : List V} {ds : List PyData} {i : Nat} {d : PyData}, DaAA A H vs ds → ds[i]? = some d → ∃ v, vs[i]? = some v ∧ DaA A H v d
  | _, _, _, _, .nil, e => by simp at e
  | _, _, 0, _, .cons h _, e => by cases e; exact ⟨_, rfl, h⟩
  | _, _, i + 1, _, .cons _ h, e => DaAA.at2 (i := i) h e
theorem DaAA.at : ∀ {vs : List V} {ds : List PyData} {i : Nat} {v : V}, DaAA A H vs ds → vs[i]? = some v → ∃ d, ds[i]? = some d ∧ DaA A H v d
  | _, _, _, _, .nil, e => by simp at e
  | _, _, 0, _, .cons h _, e => by cases e; exact ⟨_, rfl, h⟩
  | _, _, i + 1, _, .cons _ h, e => DaAA.at (i := i) h e
theorem DaAA.app : ∀ {vs ws : List V} {ds es : List PyData}, DaAA A H vs ds → DaAA A H ws es → DaAA A H (vs ++ ws) (ds ++ es)
  | _, _, _, _, .nil, k => k
  | _, _, _, _, .cons h t, k => .cons h (t.app k)
theorem DaAA.take : ∀ {vs : List V} {ds : List PyData} (n : Nat), DaAA A H vs ds → DaAA A H (vs.take n) (ds.take n)
  | _, _, 0, _ => .nil
  | _, _, _ + 1, .nil => .nil
  | _, _, n + 1, .cons h t => .cons h (t.take n)
theorem DaAA.drop : ∀ {vs : List V} {ds : List PyData} (n : Nat), DaAA A H vs ds → DaAA A H (vs.drop n) (ds.drop n)
  | _, _, 0, h => h
  | _, _, _ + 1, .nil => .nil
  | _, _, n + 1, .cons _ t => t.drop n
theorem DaAA.put {v : V} {d : PyData} (hv : DaA A H v d) : ∀ {vs : List V} {ds : List PyData} {i : Nat}, DaAA A H vs ds → DaAA A H (vs.set i v) (ds.set i d)
  | _, _, _, .nil => .nil
  | _, _, 0, .cons _ t => .cons hv t
  | _, _, i + 1, .cons h t => .cons h (DaAA.put hv (i := i) t)
end
end Own

namespace Own
open PySem PySem.Spec PyProof.Rows L2 Evl
/-! ### a tuple that begins with a text, beside a tuple of one text -/
def rEqTs (K : PySem.W.Frag) : R2 := fun x y H Q => ∃ (a b : Addr) (z u : Str) (xs : List V), x = .ref a ∧ y = .ref b ∧ SqT K H a (.str z :: xs) ∧ SqT K H b [.str u] ∧ Q (.bl (decide (z = u) && xs.isEmpty)) H
theorem op_eqTs {X : Cx} {k : Nat} (hr : Room k X.A) : OpR X (compareOp .Eq) (rEqTs X.K) := by
  intro pk s τ H x y v v2 Q I rx ry h
  obtain ⟨a, b, z, u, xs, rfl, rfl, h1, h2, q⟩ := h
  cases rx
  cases ry
  obtain ⟨its, r, tp, hz⟩ := I.tuple h1
  obtain ⟨its2, r2, tp2, hz2⟩ := I.tuple h2
  cases r2 with
  | cons ru rn =>
    cases rn
    obtain ⟨tu, rfl⟩ := ru
    cases r with
    | @cons _ _ _ its0 rz rr =>
      obtain ⟨tz, rfl⟩ := rz
      have hu : X.A.units < cLine := by
        have := hr.units
        omega
      refine SeqAt.eq_tupleAt (e := fun _ => decide (z = u)) tp tp2 hu (fun j h1 h2 => ?_) ⟨.bl _, H, I, rfl, ?_⟩
      · have hj : j = 0 := by
          have : j < 1 := h2
          omega
        subst hj
        have e : (z == u) = decide (z = u) := by
          by_cases h : z = u
          · rw [h]
            simp
          · rw [decide_eq_false h]
            exact beq_eq_false_iff_ne.mpr h
        rw [← e]
        exact SeqAt.EqAt.str_str z tz u tu
      · have hm : min (Value.str z tz :: its0).toArray.size [Value.str u tu].toArray.size = 1 := by simp
        have hs : ((Value.str z tz :: its0).toArray.size == [Value.str u tu].toArray.size) = xs.isEmpty := by
          have hlen := rr.length
          cases xs with
          | nil => cases rr; rfl
          | cons x xs =>
            rw [List.length_cons] at hlen
            show ((its0.length + 1) == 1) = false
            exact beq_eq_false_iff_ne.mpr (by omega)
        rw [hm, hs]
        show Q (.bl ((decide (z = u) && true) && xs.isEmpty)) H
        rw [Bool.and_true]
        exact q
def rEqB (K : PySem.W.Frag) : R2 := fun x y H Z => rEqA K x y H Z ∨ rEqTs K x y H Z
theorem opEqT {X : Cx} {k : Nat} (hr : Room k X.A) : OpR X (compareOp .Eq) (rEqB X.K) := OpR.or (opEq hr) (op_eqTs hr)
end Own

namespace Own
open PySem PySem.Spec PyProof.Rows L2 Evl
/-! ### a tuple beside the empty one -/
def rEqT0 (K : PySem.W.Frag) : R2 := fun x y H Q => ∃ (a b : Addr) (xs : List V), x = .ref a ∧ y = .ref b ∧ SqT K H a xs ∧ SqT K H b [] ∧ Q (.bl xs.isEmpty) H
theorem op_eqT0 {X : Cx} {k : Nat} (hr : Room k X.A) : OpR X (compareOp .Eq) (rEqT0 X.K) := by
  intro pk s τ H x y v v2 Q I rx ry h
  obtain ⟨a, b, xs, rfl, rfl, h1, h2, q⟩ := h
  cases rx
  cases ry
  obtain ⟨its, r, tp, hz⟩ := I.tuple h1
  obtain ⟨its2, r2, tp2, hz2⟩ := I.tuple h2
  cases r2
  have hu : X.A.units < cLine := by
    have := hr.units
    omega
  refine SeqAt.eq_tupleAt (e := fun _ => true) tp tp2 hu (fun j h1 h2 => absurd h2 (by simp)) ⟨.bl _, H, I, rfl, ?_⟩
  have hm : min its.toArray.size ([] : List Value).toArray.size = 0 := by simp
  have hs : (its.toArray.size == ([] : List Value).toArray.size) = xs.isEmpty := by
    have hlen := r.length
    cases xs with
    | nil => cases r; rfl
    | cons x xs =>
      rw [List.length_cons] at hlen
      show (its.toArray.size == 0) = false
      rw [List.size_toArray]
      exact beq_eq_false_iff_ne.mpr (by omega)
  rw [hm, hs]
  exact q
/-! ### what a dict of the written part has of a text -/
def IsKD (K : PySem.W.Frag) (w : World) (a : Addr) : Prop := ∃ es n, K.lookup a = some ⟨.type "dict", none, .dict es n, #[]⟩ ∧ PySem.W.KeysLit w.params es.toList ∧ (a == sysModules) = false
def tKGet2 (K : PySem.W.Frag) (w : World) (td ty tx : TE) : TE := fun σ H Q => td σ H fun x H1 => ∃ a, x = .ref a ∧ IsKD K w a ∧ ty σ H1 fun y H2 => tx σ H2 fun z H3 => ∃ (k : Str) (v : V), y = .str k ∧ ((∃ u, PySem.W.nsIn K a k = some (some u) ∧ RelV v u) ∨ (PySem.W.nsIn K a k = some none ∧ v = z)) ∧ Q v H3
theorem pe_kget2 {X : Cx} {o e f : Expr} {apos cpos : Pos} {td ty tx : TE} (ho : PE X o td) (he : PE X e ty) (hf : PE X f tx) (m : M2 X o "get" apos e f cpos) : PE X (.Call (.Attribute o "get" apos) [e, f] [] cpos) (tKGet2 X.K X.w td ty tx) := by
  refine ⟨fun pins s σ H Q I h => ?_⟩
  refine wpAny_Call_method m.base m.few m.line PySem.F.plainAttrs_dict PySem.F.slot_dict_get PySem.F.type_dict_get (thn (ho.run pins s σ H _ I h) fun u s1 ⟨x, H1, I1, rx, a, ex, d, q1⟩ => ?_)
  subst ex
  obtain rfl : u = Value.ref a := rx
  obtain ⟨es, n, hl, hk, hd⟩ := d
  refine ⟨(PySem.W.mapOf_K (prog := X.prog) (w := X.w) I1.kIn hl hk).typeIs, fun b q => ?_, ?_⟩
  · cases q
    exact ⟨_, I1.kIn _ _ hl, rfl⟩
  rw [m.trees]
  refine Calls.callWith_builtin rfl (Calls.evalArgs_plain (Calls.spliced_cons (thn (he.run pins s1 σ H1 _ I1 q1) fun iv s2 ⟨y, H2, I2, ry, q2⟩ =>
    Calls.spliced_cons (thn (hf.run pins s2 σ H2 _ I2 q2) fun fv s3 ⟨z, H3, I3, rz, k, v, ey, g, q3⟩ => Calls.spliced_nil ?_))))
  subst ey
  obtain ⟨t, rfl⟩ := (show ∃ t, iv = Value.str k t from ry)
  have hm := PySem.W.mapOf_K (prog := X.prog) (w := X.w) I3.kIn hl hk
  refine call_meetsIn PySem.F.slot_dict_get hm.typeIs PySem.F.entry_dict_get (PySem.F.args_dict_get_3 _ _ _) (meets_dict_get_default (strKind X.prog X.w) a (strKind_is X.prog X.w k t) hd fv) ⟨_, hm, ?_⟩
  rcases g with ⟨u, hn, hv⟩ | ⟨hn, rfl⟩
  · rw [PySem.W.find_K hl hn]
    exact ⟨v, H3, I3.tok _, hv, q3⟩
  · rw [PySem.W.find_K hl hn]
    exact ⟨v, H3, I3.tok _, rz, q3⟩
/-! ### t[::-1], t being a tuple -/
theorem sliceApplied_rev {prog : Program} {w : World} {A : Around} {E : Value → Shared → Prop} {s : Shared} {sl : Addr} {vl vu vs : Value} {n : Nat} {Q : Int × Int × Nat → Shared → Prop} (hs : s.heap.IsSliceOf sl vl vu vs) (pl : IsPart vl none) (pu : IsPart vu none) (ps : IsPart vs (some (-1)))
    (h : Q ((n : Int) - 1, -1, n) s) : wpAny (model prog w) A (Builtin.Slice.sliceApplied (.ref sl) (pure (n : Int))) Q E s := by
  obtain ⟨os, hos, hcs, hds⟩ := id hs
  unfold Builtin.Slice.sliceApplied Builtin.Slice.sliceFields
  refine wpAny_bind (wpAny_bind (wpAny_field hos hds (x := vl) rfl (wpAny_bind (wpAny_field hos hds (x := vu) rfl (wpAny_bind (wpAny_field hos hds (x := vs) rfl (wpAny_pure ?_)))))))
  refine wpAny_bind (HT.slicePart_ ps ?_)
  show wpAny _ _ (if ((-1 : Int) == 0) = true then _ else _) _ _ s
  rw [if_neg (by decide)]
  refine wpAny_bind (HT.slicePart_ pl (wpAny_bind (HT.slicePart_ pu (wpAny_bind (wpAny_pure ?_)))))
  show wpAny _ _ (match Builtin.Slice.sliceAdjust none none (-1) (n : Int) with | (lo, hi) => pure (lo, (-1 : Int), Builtin.Slice.slicePlaces lo hi (-1))) _ _ s
  have e1 : Builtin.Slice.sliceAdjust none none (-1) (n : Int) = ((n : Int) - 1, -1) := rfl
  rw [e1]
  show wpAny _ _ (pure ((n : Int) - 1, (-1 : Int), Builtin.Slice.slicePlaces ((n : Int) - 1) (-1) (-1))) _ _ s
  have e2 : Builtin.Slice.slicePlaces ((n : Int) - 1) (-1) (-1) = n := by
    unfold Builtin.Slice.slicePlaces
    have h1 : ¬ ((-1 : Int) > 0) := by decide
    simp only [h1, if_false]
    split
    · rw [show (- -1 : Int) = 1 by decide, Int.ediv_one]
      omega
    · omega
  rw [e2]
  exact wpAny_pure h
theorem fm_congr {α β : Type} {f g : α → Option β} : ∀ {l : List α}, (∀ x ∈ l, f x = g x) → l.filterMap f = l.filterMap g
  | [], _ => rfl
  | x :: l, h => by
    rw [List.filterMap_cons, List.filterMap_cons, h x List.mem_cons_self, fm_congr fun y hy => h y (List.mem_cons_of_mem _ hy)]
theorem pick_rev (xs : Array Value) : ((List.range xs.size).filterMap fun (m : Nat) => xs[(((xs.size : Int) - 1) + (m : Int) * -1).toNat]?).toArray = xs.toList.reverse.toArray := by
  have e : ((List.range xs.size).filterMap fun (m : Nat) => xs[(((xs.size : Int) - 1) + (m : Int) * -1).toNat]?) = ((List.range xs.size).map fun k => xs.size - 1 - k).filterMap (xs[·]?) := by
    rw [List.filterMap_map]
    refine fm_congr fun m hm => ?_
    have := List.mem_range.mp hm
    show xs[_]? = xs[_]?
    rw [show (((xs.size : Int) - 1) + (m : Int) * -1).toNat = xs.size - 1 - m by omega]
  rw [e, PySem.W.krv_range, List.filterMap_reverse, PySem.W.krv_all]
theorem getItem_tuple_rev {prog : Program} {w : World} {A : Around} {E : Value → Shared → Prop} {s : Shared} {t sl : Addr} {items : Array Value} {vl vu vs : Value} {Q : Value → Shared → Prop} (ht : IsTup s.heap t items) (hs : s.heap.IsSliceOf sl vl vu vs) (pl : IsPart vl none) (pu : IsPart vu none) (ps : IsPart vs (some (-1)))
    (h : Q (.ref s.heap.objs.size) { s with heap := s.heap.push { cls := .type "tuple", data := .seq items.toList.reverse.toArray } })
    (hsz : items.size ≤ sizeLine) : wpAny (model prog w) A (getItem (.ref t) (.ref sl)) Q E s := by
  have htake : sizeOk (.seq items.toList.reverse.toArray) := by
    show items.toList.reverse.toArray.size ≤ sizeLine
    rw [List.size_toArray, List.length_reverse, Array.length_toList]
    exact hsz
  obtain ⟨os, hos, hcs, hds⟩ := id hs
  have hTs : s.TypeIs (.ref sl) "slice" := ⟨os, hos, hcs⟩
  unfold getItem
  try with_reducible refine wpAny_holding ?_
  first | refine wpAny_bind (wpAny_pure ?_) | skip
  refine wpAny_bind (wpAny_sequenceKey ht.typeIs (by decide) ?_)
  refine wpAny_bind (wpAny_callSpecial?_slot (name := Str.ofString "__getitem__") ht.typeIs PyProof.Rows.slot_tuple_getitem
    (wpAny_call_entry PyProof.Rows.slot_tuple_getitem ht.typeIs entry_tuple_getitem ?_ (args_tuple_getitem _ _)))
  show wpAny _ _ (Builtin.Tuple.tupleItemsOf (.ref t) >>= _) _ _ s
  refine wpAny_bind (tupleItemsOf_ ht ?_)
  refine wpAny_bind (wpAny_typeOf hTs ?_)
  rw [if_pos (by decide)]
  refine wpAny_bind (sliceApplied_rev hs pl pu ps ?_)
  have hno : ¬ ((((items.size : Int) - 1) == 0 && (-1 : Int) == 1 && items.size == items.size) = true) := by
    intro q
    rw [Bool.and_eq_true, Bool.and_eq_true] at q
    exact absurd (eq_of_beq q.1.2) (by decide)
  show wpAny _ _ (if (((items.size : Int) - 1) == 0 && (-1 : Int) == 1 && items.size == items.size) = true then _ else _) _ _ s
  rw [if_neg hno, pick_rev]
  first
    | exact wpAny_bind (m := Builtin.Tuple.tupleExact _) (wpAny_newObj_type (wpAny_pure ⟨_, rfl, wpAny_pure h⟩) htake)
    | exact wpAny_bind (m := Builtin.Tuple.tupleExact _) (wpAny_newObj_type (wpAny_bind (wpAny_pure (wpAny_pure ⟨_, rfl, wpAny_pure h⟩))) htake)
    | exact wpAny_bind (wpAny_bind (m := Builtin.Tuple.tupleExact _) (wpAny_newObj_type (wpAny_pure (wpAny_pure ⟨_, rfl, wpAny_pure h⟩)) htake))
    | exact wpAny_bind (wpAny_bind (m := Builtin.Tuple.tupleExact _) (wpAny_newObj_type (wpAny_pure ⟨_, rfl, wpAny_pure h⟩) htake))
def tRevT (K : PySem.W.Frag) (te ts : TE) : TE := fun σ H Q => te σ H fun x H1 => tPart ts σ H1 fun o H2 => ∃ (a : Addr) (xs : List V), x = .ref a ∧ SqT K H2 a xs ∧ o = some (-1) ∧ ∀ p, H2 p = none → Q (.ref p) (upd H2 p (.tup xs.reverse))
theorem pe_revT {X : Cx} {e es : Expr} {te ts : TE} {p3 pos : Pos} (he : PE X e te) (hs : PE X es ts)
    (hsub : ∀ (a l : Addr), subscripted (.Slice none none (some es) p3) false (.ref a) (.ref l) = operate [.ref a, .ref l] (getItem (.ref a) (.ref l)) := by intro _ _; with_unfolding_all rfl) : PE X (.Subscript e (.Slice none none (some es) p3) pos) (tRevT X.K te ts) := by
  refine ⟨fun pins s σ H Q I h => ?_⟩
  refine Subscript_ (thn (he.run pins s σ H _ I h) fun v s1 ⟨x, H1, I1, r1, q1⟩ => ?_)
  refine wpAny_Slice (thn (po_none.run pins s1 σ H1 (fun o H2 => o = none ∧ H2 = H1) I1 ⟨rfl, rfl⟩) fun vl s2 ⟨l, H2, I2, pl, el, e2⟩ => ?_)
  subst el e2
  refine thn (po_none.run pins s2 σ H2 (fun o H3 => o = none ∧ H3 = H2) I2 ⟨rfl, rfl⟩) fun vu s3 ⟨u, H3, I3, pu, eu, e3⟩ => ?_
  subst eu e3
  have hst : PO X (some es) (tPart ts) := po_some hs
  refine thn (hst.run pins s3 σ H3 _ I3 q1) fun vs s4 ⟨o, H4, I4, ps, a, xs, ex, hx, eo, q⟩ => ?_
  subst ex
  cases r1
  subst eo
  have I5 : Inv X pins σ H4 { s4 with heap := s4.heap.push { cls := .type "slice", data := .fields #[vl, vu, vs] } } := I4.kept (t' := s4.toks) fun b ob q => Heap.get?_push_of_some _ q
  obtain ⟨its, r, ht, hz⟩ := I5.tuple hx
  have hlen := r.length
  show wpAny (model X.prog X.w) X.A (subscriptTail e (.Slice none none (some es) p3) (.ref a) (.ref s4.heap.objs.size)) (EP X pins σ Q) X.xe { s4 with heap := s4.heap.push { cls := .type "slice", data := .fields #[vl, vu, vs] } }
  refine tail_any (ops := [.ref a, .ref s4.heap.objs.size]) ht.typeIs (PyProof.Rows.slot_tuple_getitem.lookup) ?_ (hsub _ _)
  refine getItem_tuple_rev ht (Heap.IsSliceOf.new _ vl vu vs) pl pu ps ?_ (by rw [List.size_toArray]; omega)
  refine ⟨.ref _, _, I5.laid (t' := s4.toks) (o := .tup xs.reverse) (fun b ob q => Heap.get?_push_of_some _ q) (Nat.le_refl _) ?_, rfl, q _ (I5.hok.fresh (Nat.le_refl _))⟩
  exact ⟨by rw [List.length_reverse]; exact hz, _, r.reverse, ⟨_, Heap.get?_push_size _ rfl, rfl, _, rfl⟩⟩
/-! ### parts of tuples, and tuples behind one another, whatever is the whole -/
theorem sl_toG {K : PySem.W.Frag} {H : Hp} {Z : VK} {p : Addr} {xs : List V} {j : Nat} (hp : H p = some (.tup xs)) (z : ∀ (t : Addr) (H' : Hp), Ex H H' → H' t = some (.tup (xs.take j)) → Z (.ref t) H') : rSlAny K (.ref p) none (some (j : Int)) H Z := by
  refine .inr (.inl ⟨p, _, rfl, st_of hp, fun hz => ?_, fun hz t ht => ?_⟩)
  · have h1 := hz.2
    rw [HT.sIx_nat] at h1
    refine z p H (Ex.refl _) ?_
    rw [List.take_of_length_le (by omega)]
    exact hp
  · rw [cut_to]
    generalize hq2 : upd H t _ = H2
    obtain ⟨e2, h2⟩ := gen1 hq2 ht
    exact z t _ e2 h2
theorem sl_fromG {K : PySem.W.Frag} {H : Hp} {Z : VK} {p : Addr} {xs : List V} {j : Nat} (hp : H p = some (.tup xs)) (z : ∀ (t : Addr) (H' : Hp), Ex H H' → H' t = some (.tup (xs.drop j)) → Z (.ref t) H') : rSlAny K (.ref p) (some (j : Int)) none H Z := by
  refine .inr (.inl ⟨p, _, rfl, st_of hp, fun hz => ?_, fun hz t ht => ?_⟩)
  · have h1 := hz.1
    rw [HT.sIx_nat] at h1
    refine z p H (Ex.refl _) ?_
    have : j = 0 ∨ xs.length = 0 := by omega
    rcases this with rfl | h
    · exact hp
    · rw [List.drop_of_length_le (by omega)]
      rw [List.length_eq_zero_iff.mp h] at hp
      exact hp
  · rw [cut_from]
    generalize hq2 : upd H t _ = H2
    obtain ⟨e2, h2⟩ := gen1 hq2 ht
    exact z t _ e2 h2
theorem cat_G {K : PySem.W.Frag} {H : Hp} {Z : VK} {a b : Addr} {xs ys : List V} (ha : H a = some (.tup xs)) (hb : H b = some (.tup ys)) (hl : xs.length + ys.length ≤ 1000) (z : ∀ (t : Addr) (H' : Hp), Ex H H' → H' t = some (.tup (xs ++ ys)) → Z (.ref t) H') : rAdd K (.ref a) (.ref b) H Z := by
  refine .inr (.inr (.inr ⟨a, b, xs, ys, rfl, rfl, st_of ha, st_of hb, Nat.le_trans hl (by show 1000 ≤ sizeLine; decide), fun e => ?_, fun _ e => ?_, fun _ _ t ht => ?_⟩))
  · refine z b H (Ex.refl _) ?_
    rw [e, List.nil_append]
    exact hb
  · refine z a H (Ex.refl _) ?_
    rw [e, List.append_nil]
    exact ha
  · generalize hq2 : upd H t _ = H2
    obtain ⟨e2, h2⟩ := gen1 hq2 ht
    exact z t _ e2 h2
def rMulT (K : PySem.W.Frag) : R2 := fun x y H Z => rMul x y H Z ∨ rRepT K x y H Z
theorem opMulT {X : Cx} : OpR X (binaryOp .Mult) (rMulT X.K) := OpR.or opMul op_repT
theorem flat_one {α : Type} (x : α) : ∀ n : Nat, (List.replicate n [x]).flatten = List.replicate n x
  | 0 => rfl
  | n + 1 => by
    rw [List.replicate_succ, List.flatten_cons, flat_one x n]
    rfl
theorem DaAll.rep {H : Hp} {v : V} {d : PyData} (h : Da H v d) : ∀ n : Nat, DaAll H (List.replicate n v) (List.replicate n d)
  | 0 => .nil
  | n + 1 => .cons h (DaAll.rep h n)
end Own

namespace Own
open PySem PySem.Spec PyProof.Rows L2 Evl
/-- a statement that is never reached -/
theorem ps_dead {X : Cx} {st : Stmt} : PS X st (fun _ _ _ => False) := ⟨fun _ _ _ _ _ _ z => z.elim⟩
/-- a class whose instances are made by an __init__ with sp -/
structure MakG (P : Program) (w : World) (K : PySem.W.Frag) (mg : Str → Option Value) (base : Heap) (k : Nat) (x : Str) (C : Addr) (sp : Sp) : Prop where
  at_ : mg x = some (.ref C)
  ex : ∃ (f : Addr) (fd : FuncData) (ps : List Str), FnG P w K mg base k f fd ps sp ∧ Mk K C f ∧ Binds K fd ps []
/-- a method with sp -/
structure MetG (P : Program) (w : World) (K : PySem.W.Frag) (mg : Str → Option Value) (base : Heap) (k : Nat) (C : Addr) (m : Str) (sp : Sp) : Prop where
  cl : Cls K C
  ex : ∃ (f : Addr) (fd : FuncData) (ps : List Str), FnG P w K mg base k f fd ps sp ∧ Meth K C m f ∧ Binds K fd ps []
section
variable {X : Cx} {pk : List (Addr × Obj)} {τ : L2.St} {H : Hp} {s : Shared} {k j : Nat} {sp : Sp} {f C : Addr} {fd : FuncData} {ps : List Str} {Z : VK} {us : List Value} {vs : List V} {x m : Str} {p pos apos : Pos} {e o : Expr} {es : List Expr} {t : TA} {ta : TE}
theorem run_mkG (M : Mk X.K C f) (F : FnG X.prog X.w X.K X.mg X.base k f fd ps sp) (hr : Room (k + 1) X.A) (hg : X.A.guards = some []) (hbd : Binds X.K fd ps []) (I : Inv X pk τ H s) (r : Vals vs us)
    (h : ∀ y d, H y = none → H d = none → d ≠ y → sp (.ref y :: vs) (upd (upd H d (.own y)) y (.ins C d [])) (fun v H2 => v = .non ∧ Z (.ref y) H2) E0) : wpAny (model X.prog X.w) X.A (call (.ref C) us) (EP X pk τ Z) X.xe s := by
  have q0 := h (s.heap.objs.size + 1) s.heap.objs.size (I.hok.fresh (Nat.le_succ _)) (I.hok.fresh (Nat.le_refl _)) (Nat.ne_of_lt (Nat.lt_succ_self _))
  have J := Inv.made (C := C) I
  obtain ⟨n, hn⟩ : ∃ n : Addr, s.heap.objs.size + 1 = n := ⟨_, rfl⟩
  have rr : Vals (V.ref (s.heap.objs.size + 1) :: vs) (Value.ref (s.heap.objs.size + 1) :: us) := .cons rfl r
  have hl : ((Value.ref (s.heap.objs.size + 1) :: us) ++ []).length = ps.length := by
    rw [List.append_nil, ← rr.length]
    exact F.len _ _ _ _ q0
  have hb := hbd _ (Value.ref (s.heap.objs.size + 1) :: us) J.kIn hl
  rw [List.append_nil] at hb
  have run := F.run (X.A.under (.builtin "type.__call__" ⟨.ref C :: us, []⟩)) X.stack _ _ ⟨Value.ref (s.heap.objs.size + 1) :: us, []⟩ _ _ _ E0 (hr.make C us []) hg (J.env0.make C us []) hb rr q0
  refine wpAny_call (make_map (f := f) I.kIn M.makes M.init (beq_iff_eq.mp M.fn) (codeAny_mono run fun res s' hsq => ?_))
  match res, hsq with
  | .error _, hsq => exact (show False from hsq).elim
  | .ok (.ret u), hsq =>
    obtain ⟨v, H4, J4, rv, ev, q4⟩ := J.after hsq
    subst ev
    exact ⟨rv, ⟨V.ref (s.heap.objs.size + 1), H4, J4, rfl, q4⟩⟩
  | .ok .next, hsq => exact False.elim hsq
  | .ok .brk, hsq => exact False.elim hsq
  | .ok .cont, hsq => exact False.elim hsq
theorem pe_mkG (c : MakG X.prog X.w X.K X.mg X.base k x C sp) (hr : Room j X.A) (hg0 : X.A.guards = some []) (hkp : k + 1 ≤ j) (hg : Gl X x) (ha : PA X (e :: es) t)
    (hdb : (x == ("__debug__" : Str)) = false := by decide) (hes : starEach (e :: es) X.env = (false, eval e X.env) :: starEach es X.env := by rfl) (hpl : (backTo pos (starEach es X.env)).any (·.1) = false := by rfl) :
    PE X (.Call (.Name x p) (e :: es) [] pos) (tMake C sp [] E0 t) := by
  obtain ⟨f, fd, ps, F, M, b⟩ := c.ex
  refine ⟨fun pk s τ H Z I h => ?_⟩
  refine wpAny_Call_Name_kw (ld_glob I hg c.at_ ?_ hdb)
  refine PySem.W.callWith_K (h₀ := X.base) I.ok.mod.kin M.kp (thn (ha.run pos pk s τ H _ I h) fun us st1 ⟨vs, H1, I1, r, q⟩ => ⟨I1.kIn, ?_⟩) hes hpl
  refine run_mkG M F (hr.mono hkp) hg0 b I1 r fun y d h1 h2 h3 => ?_
  have q := q y d h1 h2 h3
  rw [List.append_nil] at q
  exact q
theorem pe_mtG0 {pl : Sem Bool} (c : MetG X.prog X.w X.K X.mg X.base k C m sp) (he : PE X o ta) (hr : Room j X.A) (hg0 : X.A.guards = some []) (hkp : k ≤ j)
    (hte : eval (.Call (.Attribute o m apos) [] [] pos) X.env = (do
      let ov ← eval o X.env
      standAt apos.atName
      let (g, first) ← holding [ov] (getMethod ov m pl)
      callWith pos g first (backTo pos (starEach [] X.env)) (backToKw pos (keywordEach [] X.env))) := by rfl) :
    PE X (.Call (.Attribute o m apos) [] [] pos) (tMeth C m sp [] E0 ta tNil) := by
  obtain ⟨f, fd, ps, F, M, b⟩ := c.ex
  refine ⟨fun pk s τ H Z I h => PySem.W.methodCall_KW (pl := pl) (thn (he.run pk s τ H _ I h) fun u st1 ⟨y, H1, I1, ry, a, d, fs, ey, ea, l, q⟩ => ?_) hte⟩
  subst ey
  have eu : u = Value.ref a := ry
  subst eu
  refine getmeth_ok I1 ea c.cl M l (PySem.W.callWith_K0 (first := [.ref a]) I1.kIn M.kp ?_)
  exact run_fnG (us := [.ref a]) (vs := [.ref a]) F (hr.mono hkp) hg0 b I1 (.cons rfl .nil) q
theorem pe_mtG {pl : Sem Bool} (c : MetG X.prog X.w X.K X.mg X.base k C m sp) (he : PE X o ta) (hr : Room j X.A) (hg0 : X.A.guards = some []) (hkp : k ≤ j) (ha : PA X (e :: es) t)
    (hes : starEach (e :: es) X.env = (false, eval e X.env) :: starEach es X.env := by rfl) (hpl : (backTo pos (starEach es X.env)).any (·.1) = false := by rfl)
    (hte : eval (.Call (.Attribute o m apos) (e :: es) [] pos) X.env = (do
      let ov ← eval o X.env
      standAt apos.atName
      let (g, first) ← holding [ov] (getMethod ov m pl)
      callWith pos g first (backTo pos (starEach (e :: es) X.env)) (backToKw pos (keywordEach [] X.env))) := by rfl) :
    PE X (.Call (.Attribute o m apos) (e :: es) [] pos) (tMeth C m sp [] E0 ta t) := by
  obtain ⟨f, fd, ps, F, M, b⟩ := c.ex
  refine ⟨fun pk s τ H Z I h => PySem.W.methodCall_KW (pl := pl) (thn (he.run pk s τ H _ I h) fun u st1 ⟨y, H1, I1, ry, a, d, fs, ey, ea, l, q⟩ => ?_) hte⟩
  subst ey
  have eu : u = Value.ref a := ry
  subst eu
  refine getmeth_ok I1 ea c.cl M l ?_
  refine PySem.W.callWith_K (first := [.ref a]) (h₀ := X.base) I1.ok.mod.kin M.kp (thn (ha.run pos pk st1 τ H1 _ I1 q) fun us st2 ⟨vs, H2, I2, r, q2⟩ => ⟨I2.kIn, ?_⟩) hes hpl
  have q2 : sp (.ref a :: (vs ++ [])) H2 Z E0 := q2
  rw [List.append_nil] at q2
  exact run_fnG (us := .ref a :: us) (vs := .ref a :: vs) F (hr.mono hkp) hg0 b I2 (.cons rfl r) q2
end
end Own

namespace Own
open PySem PySem.Spec PyProof.Rows L2 Evl
/-! ### methods: the name and the long name -/
section
variable {P : Program} {w : World} {K : PySem.W.Frag} {mg : Str → Option Value} {base : Heap}
theorem fn_mkQ {x q : Str} {f : Addr} {fd : FuncData} {st : Stmt} {N ps : List Str} {k : Nat} {sp : Sp} (F : Fun K x q st f fd) (S : FnScope N ps (defScope st))
    (len : ∀ vs H Z EE, sp vs H Z EE → vs.length = ps.length)
    (hbody : ∀ (cdv : Value) (A : Around) (outer : List Env) (s : Shared) (H : Hp) (vs : List V) (Z : VK) (EE : XK), Room k (A.deeper (envOfC q (defScope st) s.heap.objs.size f cdv)) → (A.deeper (envOfC q (defScope st) s.heap.objs.size f cdv)).guards = some [] → sp vs H Z EE →
      ∃ t, PSs (cxOf CX0 P w K mg base N q (defScope st) f cdv A outer s H EE).nox (defBody st) t ∧ t { nx := fun _ H' => Z .non H', rt := Z } (start N vs) H) : FnG P w K mg base (k + 1) f fd ps sp := by
  obtain ⟨oc, od, kV, doc, pm, an, cdv, ct, sl, rfl, lkp, hcd⟩ := F.ex
  refine ⟨len, fun A outer s H args us vs Z EE hr hg e0 hbt r hsp => ?_⟩
  have body : ∀ (A : Around) (outer : List Env) (s : Shared) (H : Hp) (vs : List V) (Z : VK) (EE : XK), Room k (A.deeper (envOfC q (defScope st) s.heap.objs.size f cdv)) → A.guards = some [] → sp vs H Z EE →
      ∃ t, PSs (cxOf CX0 P w K mg base N q (defScope st) f cdv A outer s H EE) (defBody st) t ∧ t { nx := fun _ H' => Z .non H', rt := Z } (start N vs) H := fun A outer s H vs Z EE hr hg hsp => by
    obtain ⟨t, h, qq⟩ := hbody cdv A outer s H vs Z EE hr hg hsp
    exact ⟨t, h.nox, qq⟩
  have hlen := len _ _ _ _ hsp
  have KI : K.In s.heap := e0.mod.kin.keeps fun b o e => (e0.bs b o e).1
  have nlm : s.heap.NoLimit := e0.mod.nolimit.keeps fun b o e => (e0.bs b o e).1
  have hkind : ∀ y ∈ ps.zip us, (defScope st).names.lookup y.1 = some .local ∨ ((defScope st).names.lookup y.1 = some .cell ∧ ((cellsFrom (s.heap.objs.size + 1) (defScope st).names []).lookup y.1).isSome = true) := fun ⟨n, v⟩ hyy => by
    rcases S.par n (List.of_mem_zip hyy).1 with qq | qq
    · exact .inl qq
    · exact .inr ⟨qq, PySem.W.cellsFrom_some _ _ _ (.inl qq)⟩
  refine codeAny_call_function hr.depth (KI _ _ lkp) rfl S.co S.gen rfl (PySem.W.codeRec_of KI hcd) (hbt _ _ _ _ ?_)
  refine wpAny_newFunctionEnv_cells S.kind hkind fun env hes st1 xx => ?_
  subst hes
  refine ⟨nlm.keeps xx.toInCall.keep, codeAny_func ?_⟩
  obtain ⟨t, ht, hsq⟩ := body A outer s H vs Z EE (hr.deeper _) hg hsp
  have I : Inv (cxOf CX0 P w K mg base N q (defScope st) f cdv A outer s H EE) [] (start N vs) H st1 := inv_start S hr.hd e0 hlen r xx
  refine wpAny_mono (ht.run [] st1 (start N vs) H _ I hsq) (fun fl s' hst => ?_) fun e s' hst => hst
  have ready : ∀ {τ' : L2.St} {H' : Hp} {v : V} {u : Value}, Inv (cxOf CX0 P w K mg base N q (defScope st) f cdv A outer s H EE) [] τ' H' s' → RelV v u → Z v H' → CE outer P w H s Z u s' :=
    fun {τ' H' v u} J rv qq => ⟨v, H', J.os, J.bare, J.base, J.hok, rv, qq⟩
  cases fl with
  | ret u =>
    obtain ⟨v, τ', H', J, rv, qq⟩ := hst
    exact ready J rv qq
  | next =>
    obtain ⟨τ', H', J, qq⟩ := hst
    exact ready (v := V.non) (u := Value.none) J rfl qq
  | brk =>
    obtain ⟨_, _, _, qq⟩ := hst
    exact False.elim qq
  | cont =>
    obtain ⟨_, _, _, qq⟩ := hst
    exact False.elim qq
end
/-- the type of a value beside an own object -/
inductive TyE (H : Hp) : V → Value → Prop where
  | non : TyE H .non (.type "NoneType")
  | int (i : Int) : TyE H (.int i) (.type "int")
  | lst {a : Addr} {xs : List V} (e : H a = some (.lst xs)) : TyE H (.ref a) (.type "list")
  | tup {a : Addr} {xs : List V} (e : H a = some (.tup xs)) : TyE H (.ref a) (.type "tuple")
  | ins {a C d : Addr} {fs : List (Str × V)} (e : H a = some (.ins C d fs)) : TyE H (.ref a) (.ref C)
section
variable {X : Cx} {pk : List (Addr × Obj)} {τ : L2.St} {H : Hp} {s : Shared} {M : Model} {v : V} {u tb : Value} {k j : Nat} {C : Addr} {sp : Sp}
theorem TyE.looks (I : Inv X pk τ H s) (r : RelV v u) (t : TyE H v tb) : PySem.W.Looks M s.heap (typeOf u) tb := by
  cases t with
  | non => cases (show u = Value.none from r); exact .now
  | int i => obtain ⟨t, q⟩ := (show ∃ t, u = Value.int i t from r); cases q; exact .now
  | @lst a xs ea =>
    cases (show u = Value.ref a from r)
    obtain ⟨_, _, n, _, h1⟩ := (show ObjOk X.prog X.w H s.heap a (.lst xs) from I.hok a _ ea)
    exact (PySem.W.Looks.ld h1).andThen .now
  | @tup a xs ea =>
    cases (show u = Value.ref a from r)
    obtain ⟨_, _, _, p⟩ := (show ObjOk X.prog X.w H s.heap a (.tup xs) from I.hok a _ ea)
    obtain ⟨o, h1, h2, _⟩ := p
    exact h2 ▸ (PySem.W.Looks.ld h1).andThen .now
  | @ins a C d fs ea =>
    cases (show u = Value.ref a from r)
    obtain ⟨mA, J, _⟩ := ins_get I.hok ea
    obtain ⟨od, J, _⟩ := J.look
    exact J.type
def rOwn (K : PySem.W.Frag) (C : Addr) (sp : Sp) : R2 := fun x y H Q => ∃ (a d : Addr) (fs : List (Str × V)) (tb : Value), x = .ref a ∧ H a = some (.ins C d fs) ∧ TyE H y tb ∧ PySem.W.notFirst K C tb = true ∧ sp [x, y] H (fun v H' => (∃ b, v = .bl b) ∧ Q v H') E0
theorem op_own (c : MetG X.prog X.w X.K X.mg X.base k C "__eq__" sp) (hr : Room j X.A) (hg0 : X.A.guards = some []) (hkp : k ≤ j) : OpR X (compareOp .Eq) (rOwn X.K C sp) := by
  intro pins s σ H x y u v Q I rx ry hq
  obtain ⟨f, fd, ps, F, M, b⟩ := c.ex
  obtain ⟨a, d, fs, tb, rfl, ha, ht, hn, q⟩ := hq
  cases rx
  show wpAny (model X.prog X.w) X.A (richCompare .Eq (.ref a) v) (EP X pins σ Q) X.xe s
  obtain ⟨mA, J, _⟩ := ins_get I.hok ha
  obtain ⟨od, J, _⟩ := J.look
  obtain ⟨m, hF⟩ := I.fr
  refine PySem.W.cmp_K (op := .Eq) (tb := tb) hr.units0 hF I.ok.mod.kin J (ht.looks I ry) hn M.at_ M.fn ?_
  refine wpAny_mono (run_fnG (us := [.ref a, v]) (vs := [.ref a, y]) F (hr.mono hkp) hg0 b I (.cons rfl (.cons ry .nil)) q) (fun w s' z => ?_) (fun _ _ e => e)
  obtain ⟨z, H', I', rz, ⟨bb, eb⟩, q'⟩ := z
  subst eb
  cases rz
  exact ⟨.bl bb, H', I', rfl, q'⟩
end
section
variable {prog : Program} {w : World} {A : Around} {E : Value → Shared → Prop} {s : Shared} {K : PySem.W.Frag} {x C L f : Addr} {h₀ : Heap} {m : Str → Option Value} {ox : Obj} {od : Option Obj} {b tb : Value}
theorem ifBound_B {M : Model} {name : Str} {id : String} {args : List Value} {Q : Option Value → Shared → Prop} (X : K.In s.heap) (I : PySem.W.InstAt s.heap x ox C od) (hs : PySem.W.findIn K (.ref C) name = some (some (.builtin id)))
    (hbd : ∀ self, bindSpecial (.builtin id) self = pure (.builtin id, [self]))
    (h : wpAny M A (call (.builtin id) (.ref x :: args)) (fun v => Q (some v)) E s) : wpAny M A (callSpecialIfBound? (.ref x) name args) Q E s := by
  simp only [callSpecialIfBound?, bindSpecialIfBound?]
  refine wpAny_holding (wpAny_bind (wpAny_bind (wpAny_bind (I.type.here ((PySem.W.looks_findIn X hs).here ?_)))))
  simp only [hbd]
  refine wpAny_bind (wpAny_askSetting (wpAny_ite ?_))
  have fin : wpAny M A (call (.builtin id) ([.ref x] ++ args) >>= fun v => pure (some v)) Q E s := wpAny_bind (wpAny_mono h (fun v s' h' => wpAny_pure h') fun _ _ h' => h')
  split
  · exact wpAny_bind (wpAny_pure (wpAny_pure fin))
  · exact wpAny_tryCatch (wpAny_bind (wpAny_pure (wpAny_pure fin)))
theorem ne_entry {Q : Fin → Shared → Prop} (X : K.In s.heap) (I : PySem.W.InstAt s.heap x ox C od) (hs : PySem.W.findIn K (.ref C) "__eq__" = some (some (.ref f))) (hf : PySem.W.isFn K (.ref f) = true) (hu : A.units < cLine)
    (hcall : wpAny (model prog w) A (call (.ref f) [.ref x, b]) (fun v s' => ∃ r, v = .bool r ∧ Q (.done (.ret (.bool (!r)))) s') E s) :
    wpAny (model prog w) A (Builtin.«object.__ne__» ⟨[.ref x, b], []⟩) Q E s := by
  obtain ⟨h, g, d, t, os⟩ := s
  unfold Builtin.«object.__ne__»
  repeat (first
    | with_reducible refine wpAny_cRoomFor hu ?_
    | (refine wpAny_bind (m := callSpecialIfBound? (.ref x) (Str.ofString "__eq__") [b])
        (PySem.W.ifBound_K X I hs hf (wpAny_mono hcall (fun r s' hr => by
          obtain ⟨b, rfl, hq⟩ := hr
          repeat (first | exact hq | exact wpAny_pure hq | exact wpAny_truthy_bool hq | (refine wpAny_bind (m := truthy (.bool _)) (wpAny_truthy_bool ?_)) | wp_step)) fun _ _ e => e)))
    | wp_step)
theorem ne_K {Q : Value → Shared → Prop} (hu : A.units + 1 < cLine) (F : Fr h₀ L s.heap m) (X₀ : K.In h₀) (I : PySem.W.InstAt s.heap x ox C od) (hb : PySem.W.Looks (model prog w) s.heap (typeOf b) tb) (hn : PySem.W.notFirst K C tb = true)
    (hne : PySem.W.findIn K (.ref C) "__ne__" = some (some (.builtin "object.__ne__"))) (hob : PySem.W.subIn K (.ref C) (.type "object") = some true)
    (hs : PySem.W.findIn K (.ref C) "__eq__" = some (some (.ref f))) (hf : PySem.W.isFn K (.ref f) = true)
    (h : wpAny (model prog w) A.in1 (call (.ref f) [.ref x, b]) (fun v s' => ∃ r, v = .bool r ∧ Q (.bool (!r)) s') E s) : wpAny (model prog w) A (richCompare .NotEq (.ref x) b) Q E s := by
  have X := X₀.keeps F.keep
  have one : wpAny (model prog w) A (tryCompare (.ref x) (cmpInfo .NotEq).2.1 b) (fun r s' => ∃ v, r = some v ∧ Q v s') E s := by
    unfold tryCompare
    refine wpAny_bind (ifBound_B X I (name := (cmpInfo .NotEq).2.1) hne (fun self => PySem.F.cmp_object.ne.bind self) (wpAny_call (codeAny_call_builtin PySem.F.cmp_object.ne.plain PySem.F.cmpEntry_ne
      (PySem.W.check_slot PySem.F.cmpKind_ne PySem.F.cmpSplit_ne (I.type.andThen (PySem.W.looks_subIn X hob)) (PySem.F.cmpArgs_ne _ _) (ne_entry (A := A.in1) X I hs hf (Nat.lt_of_succ_le hu) (wpAny_mono h (fun v s' hv => ?_) fun _ _ e => e))))))
    obtain ⟨r, rfl, q⟩ := hv
    first | exact ⟨r, rfl, ⟨_, rfl, q⟩⟩ | exact ⟨r, rfl, wpAny_pure ⟨_, rfl, q⟩⟩ | exact ⟨r, rfl, wpAny_pure (wpAny_pure ⟨_, rfl, q⟩)⟩
  unfold richCompare
  simp only [oneThing_ref]
  refine wpAny_holding (wpAny_bind (wpAny_cRoomFor (Nat.lt_of_succ_lt hu) ?_))
  refine wpAny_bind (I.type.here (wpAny_bind (hb.here ?_)))
  split
  · rename_i q
    have e : PySem.W.subIn K tb (.ref C) = some false := by
      rcases Bool.or_eq_true_iff.mp hn with e | e
      · rw [beq_iff_eq.mp e] at q; simp at q
      · exact beq_iff_eq.mp e
    refine wpAny_bind ((PySem.W.looks_subIn X e).here ?_)
    simp only [Bool.false_eq_true, if_false]
    refine wpAny_bind (wpAny_mono one (fun r s' z => ?_) fun _ _ e => e)
    obtain ⟨v, rfl, hq⟩ := z
    exact wpAny_pure hq
  · refine wpAny_bind (wpAny_pure ?_)
    simp only [Bool.false_eq_true, if_false]
    refine wpAny_bind (wpAny_mono one (fun r s' z => ?_) fun _ _ e => e)
    obtain ⟨v, rfl, hq⟩ := z
    exact wpAny_pure hq
end
/-- what of the text != by an own == wants -/
structure NeOwn (K : PySem.W.Frag) (C : Addr) : Prop where
  ne : PySem.W.findIn K (.ref C) "__ne__" = some (some (.builtin "object.__ne__"))
  ob : PySem.W.subIn K (.ref C) (.type "object") = some true
section
variable {X : Cx} {k j : Nat} {C : Addr} {sp : Sp}
def rOwnN (K : PySem.W.Frag) (C : Addr) (sp : Sp) : R2 := fun x y H Q => ∃ (a d : Addr) (fs : List (Str × V)) (tb : Value), x = .ref a ∧ H a = some (.ins C d fs) ∧ TyE H y tb ∧ PySem.W.notFirst K C tb = true ∧ sp [x, y] H (fun v H' => ∃ b, v = .bl b ∧ Q (.bl (!b)) H') E0
theorem op_ownN (c : MetG X.prog X.w X.K X.mg X.base k C "__eq__" sp) (N : NeOwn X.K C) (hr : Room j X.A) (hg0 : X.A.guards = some []) (hkp : k + 1 ≤ j) : OpR X (compareOp .NotEq) (rOwnN X.K C sp) := by
  intro pins s σ H x y u v Q I rx ry hq
  obtain ⟨f, fd, ps, F, M, b⟩ := c.ex
  obtain ⟨a, d, fs, tb, rfl, ha, ht, hn, q⟩ := hq
  cases rx
  show wpAny (model X.prog X.w) X.A (richCompare .NotEq (.ref a) v) (EP X pins σ Q) X.xe s
  obtain ⟨mA, J, _⟩ := ins_get I.hok ha
  obtain ⟨od, J, _⟩ := J.look
  obtain ⟨m, hF⟩ := I.fr
  have r1 : Room (k + 1) X.A := hr.mono hkp
  refine ne_K (tb := tb) (by have z := r1.un; omega) hF I.ok.mod.kin J (ht.looks I ry) hn N.ne N.ob M.at_ M.fn ?_
  have hq' : sp [.ref a, y] H (fun v H' => ∃ b, v = .bl b ∧ Q (.bl (!b)) H') E0 := q
  have hlen : [Value.ref a, v].length = ps.length := F.len _ _ _ _ hq'
  refine wpAny_call (codeAny_mono (F.run X.A.in1 X.stack s H ⟨[.ref a, v], []⟩ [.ref a, v] [.ref a, y] _ E0 r1.in1 hg0 I.env0.in1 (by have q := b s [.ref a, v] I.kIn hlen; exact q) (.cons rfl (.cons ry .nil)) hq') fun r s' hsq => ?_)
  cases r with
  | error e => exact (show False from hsq).elim
  | ok fl =>
    cases fl with
    | ret u =>
      obtain ⟨z, H', I', rz, bb, eb, q'⟩ := I.after hsq
      subst eb
      cases rz
      exact ⟨bb, rfl, .bl (!bb), H', I', rfl, q'⟩
    | next => exact False.elim hsq
    | brk => exact False.elim hsq
    | cont => exact False.elim hsq
end
end Own

namespace Own
open PySem PySem.Spec PyProof.Rows L2 Evl
/-! ### defs that may raise, called where no container is being shown -/
structure FnX (P : Program) (w : World) (K : PySem.W.Frag) (mg : Str → Option Value) (base : Heap) (k : Nat) (f : Addr) (fd : FuncData) (ps : List Str) (sp : Sp) : Prop where
  len : ∀ vs H Z EE, sp vs H Z EE → vs.length = ps.length
  run : ∀ (A : Around) (outer : List Env) (s : Shared) (H : Hp) (args : Args) (us : List Value) (vs : List V) (Z : VK) (EE : XK), Room k A → A.guards = some [] → Env0 P w K mg base A outer s H → BindsTo s fd args (ps.zip us) → Vals vs us → sp vs H Z EE →
    codeAny (model P w) A (.call (.ref f) args) (CR (L2.CX P w) outer P w H s Z EE) s
section
variable {P : Program} {w : World} {K : PySem.W.Frag} {mg : Str → Option Value} {base : Heap}
theorem fn_mkX {x q : Str} {f : Addr} {fd : FuncData} {st : Stmt} {N ps : List Str} {k : Nat} {sp : Sp} (F : Fun K x q st f fd) (S : FnScope N ps (defScope st))
    (len : ∀ vs H Z EE, sp vs H Z EE → vs.length = ps.length)
    (hbody : ∀ (cdv : Value) (A : Around) (outer : List Env) (s : Shared) (H : Hp) (vs : List V) (Z : VK) (EE : XK), Room k (A.deeper (envOfC q (defScope st) s.heap.objs.size f cdv)) → (A.deeper (envOfC q (defScope st) s.heap.objs.size f cdv)).guards = some [] → sp vs H Z EE →
      ∃ t, PSs (cxOf (L2.CX P w) P w K mg base N q (defScope st) f cdv A outer s H EE) (defBody st) t ∧ t { nx := fun _ H' => Z .non H', rt := Z } (start N vs) H) : FnX P w K mg base (k + 1) f fd ps sp := by
  obtain ⟨oc, od, kV, doc, pm, an, cdv, ct, sl, rfl, lkp, hcd⟩ := F.ex
  refine ⟨len, fun A outer s H args us vs Z EE hr hg e0 hbt r hsp => ?_⟩
  have body : ∀ (A : Around) (outer : List Env) (s : Shared) (H : Hp) (vs : List V) (Z : VK) (EE : XK), Room k (A.deeper (envOfC q (defScope st) s.heap.objs.size f cdv)) → A.guards = some [] → sp vs H Z EE →
      ∃ t, PSs (cxOf (L2.CX P w) P w K mg base N q (defScope st) f cdv A outer s H EE) (defBody st) t ∧ t { nx := fun _ H' => Z .non H', rt := Z } (start N vs) H := fun A outer s H vs Z EE hr hg hsp => by
    obtain ⟨t, h, qq⟩ := hbody cdv A outer s H vs Z EE hr hg hsp
    exact ⟨t, h, qq⟩
  have hlen := len _ _ _ _ hsp
  have KI : K.In s.heap := e0.mod.kin.keeps fun b o e => (e0.bs b o e).1
  have nlm : s.heap.NoLimit := e0.mod.nolimit.keeps fun b o e => (e0.bs b o e).1
  have hkind : ∀ y ∈ ps.zip us, (defScope st).names.lookup y.1 = some .local ∨ ((defScope st).names.lookup y.1 = some .cell ∧ ((cellsFrom (s.heap.objs.size + 1) (defScope st).names []).lookup y.1).isSome = true) := fun ⟨n, v⟩ hyy => by
    rcases S.par n (List.of_mem_zip hyy).1 with qq | qq
    · exact .inl qq
    · exact .inr ⟨qq, PySem.W.cellsFrom_some _ _ _ (.inl qq)⟩
  refine codeAny_call_function hr.depth (KI _ _ lkp) rfl S.co S.gen rfl (PySem.W.codeRec_of KI hcd) (hbt _ _ _ _ ?_)
  refine wpAny_newFunctionEnv_cells S.kind hkind fun env hes st1 xx => ?_
  subst hes
  refine ⟨nlm.keeps xx.toInCall.keep, codeAny_func ?_⟩
  obtain ⟨t, ht, hsq⟩ := body A outer s H vs Z EE (hr.deeper _) hg hsp
  have I : Inv (cxOf (L2.CX P w) P w K mg base N q (defScope st) f cdv A outer s H EE) [] (start N vs) H st1 := inv_start S hr.hd e0 hlen r xx
  refine wpAny_mono (ht.run [] st1 (start N vs) H _ I hsq) (fun fl s' hst => ?_) fun e s' hst => hst
  have ready : ∀ {τ' : L2.St} {H' : Hp} {v : V} {u : Value}, Inv (cxOf (L2.CX P w) P w K mg base N q (defScope st) f cdv A outer s H EE) [] τ' H' s' → RelV v u → Z v H' → CE outer P w H s Z u s' :=
    fun {τ' H' v u} J rv qq => ⟨v, H', J.os, J.bare, J.base, J.hok, rv, qq⟩
  cases fl with
  | ret u =>
    obtain ⟨v, τ', H', J, rv, qq⟩ := hst
    exact ready J rv qq
  | next =>
    obtain ⟨τ', H', J, qq⟩ := hst
    exact ready (v := V.non) (u := Value.none) J rfl qq
  | brk =>
    obtain ⟨_, _, _, qq⟩ := hst
    exact False.elim qq
  | cont =>
    obtain ⟨_, _, _, qq⟩ := hst
    exact False.elim qq
end
/-- a class whose instances are made by an __init__ with sp that may raise -/
structure MakX (P : Program) (w : World) (K : PySem.W.Frag) (mg : Str → Option Value) (base : Heap) (k : Nat) (x : Str) (C : Addr) (sp : Sp) : Prop where
  at_ : mg x = some (.ref C)
  ex : ∃ (f : Addr) (fd : FuncData) (ps : List Str), FnX P w K mg base k f fd ps sp ∧ Mk K C f ∧ Binds K fd ps []
/-- a method with sp that may raise -/
structure MetX (P : Program) (w : World) (K : PySem.W.Frag) (mg : Str → Option Value) (base : Heap) (k : Nat) (C : Addr) (m : Str) (sp : Sp) : Prop where
  cl : Cls K C
  ex : ∃ (f : Addr) (fd : FuncData) (ps : List Str), FnX P w K mg base k f fd ps sp ∧ Meth K C m f ∧ Binds K fd ps []
/-- a def with sp that may raise -/
structure CalX (P : Program) (w : World) (K : PySem.W.Frag) (mg : Str → Option Value) (base : Heap) (k : Nat) (x : Str) (sp : Sp) : Prop where
  ex : ∃ (f : Addr) (fd : FuncData) (ps : List Str), FnX P w K mg base k f fd ps sp ∧ mg x = some (.ref f) ∧ PySem.W.keepIn K (.ref f) = true ∧ Binds K fd ps []
def tMakeX (C : Addr) (sp : Sp) (E : L2.St → XK) (t : TA) : TE := fun σ H Q => t σ H fun vs H1 => ∀ x dx, H1 x = none → H1 dx = none → dx ≠ x → sp (.ref x :: vs) (upd (upd H1 dx (.own x)) x (.ins C dx [])) (fun v H2 => v = .non ∧ Q (.ref x) H2) (E σ)
def tMethX (C : Addr) (m : Str) (sp : Sp) (E : L2.St → XK) (ta : TE) (t : TA) : TE := fun σ H Q => ta σ H fun x H1 => ∃ a d fs, x = .ref a ∧ H1 a = some (.ins C d fs) ∧ fs.lookup m = none ∧ t σ H1 fun vs H2 => sp (.ref a :: vs) H2 Q (E σ)
section
variable {X : Cx} {pk : List (Addr × Obj)} {τ : L2.St} {H : Hp} {s : Shared} {k j : Nat} {sp : Sp} {f C : Addr} {fd : FuncData} {ps : List Str} {Z : VK} {us : List Value} {vs : List V} {x m : Str} {p pos apos : Pos} {e o : Expr} {es : List Expr} {t : TA} {ta : TE} {E : L2.St → XK}
theorem run_fnX (F : FnX X.prog X.w X.K X.mg X.base k f fd ps sp) (hr : Room k X.A) (hg : X.A.guards = some []) (hbd : Binds X.K fd ps []) (hx : PassesAt (L2.CX X.prog X.w) X τ (E τ))
    (I : Inv X pk τ H s) (r : Vals vs us) (h : sp vs H Z (E τ)) : wpAny (model X.prog X.w) X.A (call (.ref f) us) (EP X pk τ Z) X.xe s := by
  have hlen : us.length = ps.length := by rw [← r.length]; exact F.len _ _ _ _ h
  refine wpAny_call (codeAny_mono (F.run X.A X.stack s H ⟨us, []⟩ us vs Z (E τ) hr hg I.env0 (by have q := hbd s us I.kIn (by rw [List.append_nil]; exact hlen); rw [List.append_nil] at q; exact q) r h) fun r s' hsq => ?_)
  cases r with
  | error e => exact hx pk H s e s' I hsq
  | ok fl =>
    cases fl with
    | ret u => exact I.after hsq
    | next => exact False.elim hsq
    | brk => exact False.elim hsq
    | cont => exact False.elim hsq
theorem run_mkX (M : Mk X.K C f) (F : FnX X.prog X.w X.K X.mg X.base k f fd ps sp) (hr : Room (k + 1) X.A) (hg : X.A.guards = some []) (hbd : Binds X.K fd ps []) (hx : PassesAt (L2.CX X.prog X.w) X τ (E τ)) (I : Inv X pk τ H s) (r : Vals vs us)
    (h : ∀ y d, H y = none → H d = none → d ≠ y → sp (.ref y :: vs) (upd (upd H d (.own y)) y (.ins C d [])) (fun v H2 => v = .non ∧ Z (.ref y) H2) (E τ)) : wpAny (model X.prog X.w) X.A (call (.ref C) us) (EP X pk τ Z) X.xe s := by
  have q0 := h (s.heap.objs.size + 1) s.heap.objs.size (I.hok.fresh (Nat.le_succ _)) (I.hok.fresh (Nat.le_refl _)) (Nat.ne_of_lt (Nat.lt_succ_self _))
  have J := Inv.made (C := C) I
  have rr : Vals (V.ref (s.heap.objs.size + 1) :: vs) (Value.ref (s.heap.objs.size + 1) :: us) := .cons rfl r
  have hl : ((Value.ref (s.heap.objs.size + 1) :: us) ++ []).length = ps.length := by
    rw [List.append_nil, ← rr.length]
    exact F.len _ _ _ _ q0
  have hb := hbd _ (Value.ref (s.heap.objs.size + 1) :: us) J.kIn hl
  rw [List.append_nil] at hb
  have run := F.run (X.A.under (.builtin "type.__call__" ⟨.ref C :: us, []⟩)) X.stack _ _ ⟨Value.ref (s.heap.objs.size + 1) :: us, []⟩ _ _ _ (E τ) (hr.make C us []) hg (J.env0.make C us []) hb rr q0
  refine wpAny_call (make_map (f := f) I.kIn M.makes M.init (beq_iff_eq.mp M.fn) (codeAny_mono run fun res s' hsq => ?_))
  match res, hsq with
  | .error e, hsq => exact hx pk _ _ e s' J hsq
  | .ok (.ret u), hsq =>
    obtain ⟨v, H4, J4, rv, ev, q4⟩ := J.after hsq
    subst ev
    exact ⟨rv, ⟨V.ref (s.heap.objs.size + 1), H4, J4, rfl, q4⟩⟩
  | .ok .next, hsq => exact False.elim hsq
  | .ok .brk, hsq => exact False.elim hsq
  | .ok .cont, hsq => exact False.elim hsq
theorem pe_mkX (c : MakX X.prog X.w X.K X.mg X.base k x C sp) (hr : Room j X.A) (hg0 : X.A.guards = some []) (hkp : k + 1 ≤ j) (hx : ∀ σ, PassesAt (L2.CX X.prog X.w) X σ (E σ)) (hg : Gl X x) (ha : PA X (e :: es) t)
    (hdb : (x == ("__debug__" : Str)) = false := by decide) (hes : starEach (e :: es) X.env = (false, eval e X.env) :: starEach es X.env := by rfl) (hpl : (backTo pos (starEach es X.env)).any (·.1) = false := by rfl) :
    PE X (.Call (.Name x p) (e :: es) [] pos) (tMakeX C sp E t) := by
  obtain ⟨f, fd, ps, F, M, b⟩ := c.ex
  refine ⟨fun pk s τ H Z I h => ?_⟩
  refine wpAny_Call_Name_kw (ld_glob I hg c.at_ ?_ hdb)
  refine PySem.W.callWith_K (h₀ := X.base) I.ok.mod.kin M.kp (thn (ha.run pos pk s τ H _ I h) fun us st1 ⟨vs, H1, I1, r, q⟩ => ⟨I1.kIn, ?_⟩) hes hpl
  exact run_mkX M F (hr.mono hkp) hg0 b (hx τ) I1 r q
theorem pe_cX (c : CalX X.prog X.w X.K X.mg X.base k x sp) (hr : Room j X.A) (hg0 : X.A.guards = some []) (hkp : k ≤ j) (hx : ∀ σ, PassesAt (L2.CX X.prog X.w) X σ (E σ)) (hg : Gl X x) (ha : PA X (e :: es) t)
    (hdb : (x == ("__debug__" : Str)) = false := by decide) (hes : starEach (e :: es) X.env = (false, eval e X.env) :: starEach es X.env := by rfl) (hpl : (backTo pos (starEach es X.env)).any (·.1) = false := by rfl) :
    PE X (.Call (.Name x p) (e :: es) [] pos) (tCallS sp E t) := by
  obtain ⟨f, fd, ps, F, hmg, kp, b⟩ := c.ex
  refine ⟨fun pk s τ H Z I h => ?_⟩
  refine wpAny_Call_Name_kw (ld_glob I hg hmg ?_ hdb)
  refine PySem.W.callWith_K (h₀ := X.base) I.ok.mod.kin kp (thn (ha.run pos pk s τ H _ I h) fun us st1 ⟨vs, H1, I1, r, q⟩ => ⟨I1.kIn, ?_⟩) hes hpl
  exact run_fnX F (hr.mono hkp) hg0 b (hx τ) I1 r q
theorem pe_mtX {pl : Sem Bool} (c : MetX X.prog X.w X.K X.mg X.base k C m sp) (he : PE X o ta) (hr : Room j X.A) (hg0 : X.A.guards = some []) (hkp : k ≤ j) (hx : ∀ σ, PassesAt (L2.CX X.prog X.w) X σ (E σ)) (ha : PA X (e :: es) t)
    (hes : starEach (e :: es) X.env = (false, eval e X.env) :: starEach es X.env := by rfl) (hpl : (backTo pos (starEach es X.env)).any (·.1) = false := by rfl)
    (hte : eval (.Call (.Attribute o m apos) (e :: es) [] pos) X.env = (do
      let ov ← eval o X.env
      standAt apos.atName
      let (g, first) ← holding [ov] (getMethod ov m pl)
      callWith pos g first (backTo pos (starEach (e :: es) X.env)) (backToKw pos (keywordEach [] X.env))) := by rfl) :
    PE X (.Call (.Attribute o m apos) (e :: es) [] pos) (tMethX C m sp E ta t) := by
  obtain ⟨f, fd, ps, F, M, b⟩ := c.ex
  refine ⟨fun pk s τ H Z I h => PySem.W.methodCall_KW (pl := pl) (thn (he.run pk s τ H _ I h) fun u st1 ⟨y, H1, I1, ry, a, d, fs, ey, ea, l, q⟩ => ?_) hte⟩
  subst ey
  have eu : u = Value.ref a := ry
  subst eu
  refine getmeth_ok I1 ea c.cl M l ?_
  refine PySem.W.callWith_K (first := [.ref a]) (h₀ := X.base) I1.ok.mod.kin M.kp (thn (ha.run pos pk st1 τ H1 _ I1 q) fun us st2 ⟨vs, H2, I2, r, q2⟩ => ⟨I2.kIn, ?_⟩) hes hpl
  exact run_fnX (us := .ref a :: us) (vs := .ref a :: vs) F (hr.mono hkp) hg0 b (hx τ) I2 (.cons rfl r) q2
end
/-- isinstance of the caught error of an own class, whatever its dict: what the class must say -/
structure ExcD (K : PySem.W.Frag) (D : Addr) : Prop where
  hc : (PySem.W.clsIn K D).isSome = true
  hg : PySem.W.findIn K (.ref D) "__getattribute__" = some (some (.builtin "BaseException.__getattribute__"))
  hk : PySem.W.findIn K (.ref D) "__getattr__" = some none
  hs : PySem.W.subIn K (.ref D) (.type "BaseException") = some true
  ha : PySem.W.findIn K (.ref D) "__class__" = some (some (.builtin "object.__class__"))
  hn : PySem.W.specialIn K (.builtin "object.__class__") "__get__" = some (some (.builtin "getset_descriptor.__get__"))
  ht : PySem.W.takesIn K (.builtin "object.__class__") = some true
  hm : PySem.W.mroIn K D (.type "object") = some true
theorem call_isD {X : Cx} {a D : Addr} {oe : Obj} {cls : Value} {d : Option Addr} {pn : List (Addr × Obj)} (hcls : cls = .ref D) (dd : Addr) (fs : List (Str × V)) (hd : d = some dd) (C : ExcD X.K D) (hz : Zc cls d oe) (hf : ∃ vs, oe.data = .fields vs) :
    CallR (X.suite a ((a, oe) :: pn)) (.builtin "isinstance") (fun xs H Q => H dd = some (.xd fs) ∧ rIsE X.K D a xs H Q) := by
  intro pins s σ H xs us Q I r h
  subst hcls hd
  obtain ⟨hx, c, cv, b, rfl, hcv, e, q⟩ := h
  cases r with
  | cons rx rr =>
    cases rr with
    | cons rt rr =>
      cases rr
      cases rx
      have ec := hcv _ rt
      subst ec
      obtain ⟨hget, _⟩ := I.pin (a, oe) (List.mem_append.mpr (.inl List.mem_cons_self))
      obtain ⟨vs, hv⟩ := hf
      have hx : ObjOk X.prog X.w H s.heap dd (.xd fs) := I.hok dd _ hx
      obtain ⟨mA, hns, hr⟩ := hx
      obtain ⟨od, ho, hl⟩ := lookIn_ns hns
      have J : PySem.W.InstAt s.heap a oe D (some od) := ⟨hget, hz.1, by unfold PySem.W.notCls; rw [hv] <;> rfl, by rw [hz.2]; exact ho⟩
      exact PySem.W.kia_one (PySem.W.kitx_exc C.hc C.hg C.hk C.hs C.ha C.hn C.ht C.hm) I.kIn J e (fun z => nomatch z) fun tk => ⟨.bl b, H, I.kept (t' := tk) fun _ _ z => z, rfl, q⟩
end Own

namespace Own
open PySem PySem.Spec PyProof.Rows L2 Evl L2H
/-! ### comprehensions where an exception is handled -/
abbrev hctx (X : Cx) (st : Shared) (G : Hp) (sco : Scope) (cen : Env) (fa : List Addr) : Cx := { X.blk st G sco cen fa with pn := X.pn }
section
variable {X : Cx} {st st' : Shared} {G G' : Hp} {sco : Scope} {cen : Env} {fa : List Addr} {τ τ' : L2.St} {pk pk' : List (Addr × Obj)}
theorem ok_hot (o : (X.blk st G sco cen fa).Ok) : (hctx X st G sco cen fa).Ok := ⟨o.mod, o.kind, o.glob, o.blt, o.above, o.inj, o.has, o.cab, o.hd, o.frames, o.stk, o.exf, o.bs, o.bsz, o.noex, o.exfs, o.funs, o.frf⟩
theorem ok_cool (o : (hctx X st G sco cen fa).Ok) : (X.blk st G sco cen fa).Ok := ⟨o.mod, o.kind, o.glob, o.blt, o.above, o.inj, o.has, o.cab, o.hd, o.frames, o.stk, o.exf, o.bs, o.bsz, o.noex, o.exfs, o.funs, o.frf⟩
theorem inv_hot (I0 : Inv X pk τ G st) (I : Inv (X.blk st G sco cen fa) [] τ' G' st') (hfa : ∀ b ∈ fa, ∀ p ∈ X.pn ++ pk, p.1 ≠ b) : Inv (hctx X st G sco cen fa) [] τ' G' st' := by
  refine ⟨ok_hot I.ok, I.os, I.bare, I.base, I.loc, I.cell, I.free, I.freeC, fun p hp => ?_, I.hok, I.len⟩
  have hp : p ∈ X.pn := by simpa using hp
  have hp2 := List.mem_append_left pk hp
  obtain ⟨z1, z2, z3, z4, z5⟩ := I0.pin p hp2
  have nf : p.1 ∉ frs X.stack := fun hm => (List.mem_cons.mp (I0.stkSub p.1 hm)).elim z3 z4
  have ne : p.1 ∉ fa := fun hm => hfa p.1 hm p hp2 rfl
  exact ⟨I.base.keep p.1 p.2 z1 z2 nf ne, I.base.free p.1 p.2 z1 z2 ne, Nat.ne_of_lt (Nat.lt_of_lt_of_le (Heap.lt_size z1) I.ok.above), nf, z5⟩
theorem inv_cool (I : Inv (hctx X st G sco cen fa) pk' τ' G' st') : Inv (X.blk st G sco cen fa) pk' τ' G' st' :=
  ⟨ok_cool I.ok, I.os, I.bare, I.base, I.loc, I.cell, I.free, I.freeC, fun p hp => I.pin p (List.mem_append_right _ (by simpa using hp)), I.hok, I.len⟩
theorem hotC_h (c : HotC X) : HotC (hctx X st G sco cen fa) := c
theorem pe_lcH {elt tg src : Expr} {conds : List Expr} {own : List (Str × Nat)} {pos : Pos} {wi : TI} {g : TG} {tt : TT} {te : TE} (hot : HotC X) (nd : X.N.Nodup) (hi : PIH X tg src wi) (ok : BlkOk X.N X.env.scope sco own)
    (hg : ∀ (s1 : Shared) (H1 : Hp) (c1 : Addr) (l1 : List (Str × Addr)) (b1 : List Addr), PG (X.blk s1 H1 sco (compEnvC sco l1 c1 X.env) b1) tg g)
    (ht : ∀ (s1 : Shared) (H1 : Hp) (c1 : Addr) (l1 : List (Str × Addr)) (b1 : List Addr), PTs (X.blk s1 H1 sco (compEnvC sco l1 c1 X.env) b1) conds tt)
    (he : ∀ (s1 : Shared) (H1 : Hp) (c1 : Addr) (l1 : List (Str × Addr)) (b1 : List Addr), PE (X.blk s1 H1 sco (compEnvC sco l1 c1 X.env) b1) elt te) (hsrc : ∀ x, foldedSetIterable src X.env x = pure x := by intro _; rfl) :
    PE X (.ListComp elt [⟨tg, src, conds, 0⟩] sco pos) (tLc wi g tt te (own.map (·.2))) := by
  refine ⟨fun pk s0 τ H0 Q I0 h0 => ?_⟩
  rw [eval_ListComp]
  have hcl : ∀ y ∈ sco.names, y.2 = .free → ∃ c, X.env.cells.lookup y.1 = some c := fun y hy e => (ok.free y hy e).elim (fun z => I0.ok.has _ (.inl z)) (fun z => I0.ok.has _ (.inr z))
  refine wpAny_comprehension_free (use := none) rfl hsrc (closure_ok hcl) ok.kind (fun y hy e => by rw [ok.uniq y hy, e]) (thn (hi.run pk s0 τ H0 _ I0 h0) fun xv sA hxv => thn hxv fun itv sB hB => ?_)
  obtain ⟨it, fa, tn, J, HB, e, IB, T, tB, fB, q⟩ := hB
  subst e
  refine wpAny_newObj_type (newEnv_comp ?_) (by show 0 ≤ sizeLine; decide)
  generalize hL : sB.heap.objs.size = L
  have nL : HB L = none := IB.hok.fresh (Nat.le_of_eq hL)
  obtain ⟨W, ⟨mm, wm⟩, turn⟩ := q L nL
  generalize hsC : ({ sB with heap := sB.heap.push { cls := .type "list", data := .seq ([] : List Value).toArray } } : Shared) = sC
  have IC : Inv X pk τ (upd HB L (.lst [])) sC := by
    rw [← hsC]
    refine IB.laid (t' := sB.toks) (fun _ _ z => Heap.get?_push_of_some _ z) (Nat.le_of_eq hL) ⟨Nat.zero_le _, [], 0, .nil, ?_⟩
    rw [← hL]
    exact Heap.get?_push_size _ rfl
  have hpC : sC.heap = sB.heap.push { cls := .type "list", data := .seq ([] : List Value).toArray } := by rw [← hsC]
  have below : ∀ b ∈ fa, b < sB.heap.objs.size := fun b hb => let ⟨_, z, _⟩ := T.obj _ _ tB b hb; Heap.lt_size z
  have fC : ∀ b ∈ fa, FpOk X pk (upd HB L (.lst [])) b ∧ b < sC.heap.objs.size := fun b hb => by
    have lt := below b hb
    refine ⟨⟨?_, (fB b hb).2⟩, by rw [hpC, Heap.size_push]; exact Nat.lt_succ_of_lt lt⟩
    rw [upd_ne (by rw [← hL]; exact Nat.ne_of_lt lt)]
    exact (fB b hb).1
  have tC : tn 0 sC.heap := T.keep _ _ _ tB fun b _ o z => by rw [hpC]; exact Heap.get?_push_of_some _ z
  have ID := block_start IC ok nd fC
  have Pg := hg sC (upd HB L (.lst [])) sC.heap.objs.size (cellsFrom (sC.heap.objs.size + 1) sco.names (cloFrom X.env.cells sco.names [])) fa
  have Pt := ht sC (upd HB L (.lst [])) sC.heap.objs.size (cellsFrom (sC.heap.objs.size + 1) sco.names (cloFrom X.env.cells sco.names [])) fa
  have Pe := he sC (upd HB L (.lst [])) sC.heap.objs.size (cellsFrom (sC.heap.objs.size + 1) sco.names (cloFrom X.env.cells sco.names [])) fa
  show codeAny _ _ (.compStart (.ListComp elt [⟨tg, src, conds, 0⟩] sco pos) 0 (.ref it) (.ref L) (compEnvC sco (cellsFrom (sC.heap.objs.size + 1) sco.names (cloFrom X.env.cells sco.names [])) sC.heap.objs.size X.env)) (compPost (model X.prog X.w) X.A X.xe none _ (.ref L) sC.heap.objs.size) { sC with heap := pushCells (sC.heap.push { cls := .type "dict", data := .dict #[] }) sco.names }
  have nofa : ∀ b ∈ fa, (upd HB L (.lst [])) b = none := fun b hb => (fC b hb).1.1
  have pinfa : ∀ b ∈ fa, ∀ p ∈ X.pn ++ pk, p.1 ≠ b := fun b hb => (fC b hb).1.2.2.2.2.2
  generalize hcen : compEnvC sco (cellsFrom (sC.heap.objs.size + 1) sco.names (cloFrom X.env.cells sco.names [])) sC.heap.objs.size X.env = cen at ID Pg Pt Pe ⊢
  have lcen : cen.locals = sC.heap.objs.size := by subst hcen; rfl
  generalize hHC : upd HB L (.lst []) = HC at IC ID Pg Pt Pe wm nofa fC
  generalize hsD : ({ sC with heap := pushCells (sC.heap.push { cls := .type "dict", data := .dict #[] }) sco.names } : Shared) = sD at ID ⊢
  have tD : tn 0 sD.heap := T.keep _ _ _ tC fun b _ o z => by rw [← hsD]; exact pushCells_keeps _ _ _ _ (Heap.get?_push_of_some _ z)
  have still : ∀ {τ' : L2.St} {H' : Hp} {s' : Shared}, Inv (X.blk sC HC sco cen fa) [] τ' H' s' → (∀ b ∈ fa, H' b = none) → ∀ b ∈ fa, FpOk (X.blk sC HC sco cen fa) [] H' b := fun {τ' H' s'} I' hn b hb =>
    ⟨hn b hb, (I'.ok.exf b hb).1, I'.ok.exfs b hb, .inl hb, fun x c z => (I'.ok.exf b hb).2 x c z, fun p hp => absurd (show p ∈ ([] : List (Addr × Obj)) ++ [] from hp) (by simp)⟩
  have stillH : ∀ {τ' : L2.St} {H' : Hp} {s' : Shared}, Inv (X.blk sC HC sco cen fa) [] τ' H' s' → (∀ b ∈ fa, H' b = none) → ∀ b ∈ fa, FpOk (hctx X sC HC sco cen fa) [] H' b := fun {τ' H' s'} I' hn b hb =>
    ⟨hn b hb, (I'.ok.exf b hb).1, I'.ok.exfs b hb, .inl hb, fun x c z => (I'.ok.exf b hb).2 x c z, fun p hp => pinfa b hb p (List.mem_append_left _ (by simpa using hp))⟩
  have run : codeAny (model X.prog X.w) X.A (.compLoop (.ListComp elt [⟨tg, src, conds, 0⟩] sco pos) 0 (.ref it) (.ref L) cen) (compPost (model X.prog X.w) X.A X.xe none (EP X pk τ Q) (.ref L) sC.heap.objs.size) sD := by
    refine compLoop_any (fun n s' => ∃ i H', Inv (X.blk sC HC sco cen fa) [] (wipe τ (own.map (·.2))) H' s' ∧ tn i s'.heap ∧ (∀ b ∈ fa, H' b = none) ∧ W i n H') ?_ mm ⟨0, HC, ID, tD, nofa, wm⟩
    rintro n sE ⟨i, HE, IE, tE, nE, wE⟩
    rcases turn i n HE wE with ⟨stop, qq⟩ | ⟨go, Nx, hNx, step⟩
    · have td := T.done (hctx X sC HC sco cen fa) rfl rfl rfl (hotC_h hot) i [] sE _ HE (fun _ _ => False) (inv_hot IC IE pinfa) (stillH IE nE) tE stop
      refine thnF td fun r sF ⟨hr, IFh⟩ => ?_
      have IF := inv_cool IFh
      subst hr
      have IX : Inv X pk τ HE sF := IC.call' (ch := fa) IF.os IF.base IF.hok IF.bare fun b hb => ⟨(fC b hb).1.2.2.2.1, (fC b hb).1.2.1, (fC b hb).1.2.2.2.2.1, (fC b hb).1.2.2.2.2.2⟩
      have nC : HE sC.heap.objs.size = none := by
        have z : HE cen.locals = none := IF.free
        rw [lcen] at z
        exact z
      obtain ⟨m, hn, _⟩ := IF.loc
      have hn : sF.heap.Ns cen.locals m := hn
      rw [lcen] at hn
      refine ⟨m, hn, fun h'' sb => ?_⟩
      obtain ⟨_, f1, f2, f3, f4, f5⟩ := IC.fpOk (Nat.le_refl _) nC
      exact ⟨.ref L, HE, IX.turned (t' := sF.toks) (fun b o hb z => (sb.2 b hb).trans z) nC f1 f3 f4 f5, rfl, qq⟩
    · have ti := T.item (hctx X sC HC sco cen fa) rfl rfl rfl (hotC_h hot) i [] sE _ HE (fun _ _ => False) (inv_hot IC IE pinfa) (stillH IE nE) tE go
      refine thnF ti fun r sF ⟨u, hr, hF⟩ => ?_
      subst hr
      refine thnF hF fun _ sG ⟨x, HG, IGh, rG, yG, tG, nG⟩ => ?_
      have IG := inv_cool IGh
      have IG' := IG.pinned (still IG nG) (T.obj _ _ tG)
      refine thnF (Pg.run _ sG _ HG x u _ IG' rG (step x HG yG)) fun _ sK ⟨τK, HK, IK, wK, qK⟩ => ?_
      refine thnF (Pt.run _ sK τK HK _ IK qK) fun b sM ⟨HM, IM, qM⟩ => ?_
      have last : ∀ {s' : Shared} {H' : Hp}, Inv (X.blk sC HC sco cen fa) ([] ++ pinsAt fa sG.heap) τK H' s' → Nx H' → ∃ m, m < n ∧ ∃ i H', Inv (X.blk sC HC sco cen fa) [] (wipe τ (own.map (·.2))) H' s' ∧ tn i s'.heap ∧ (∀ b ∈ fa, H' b = none) ∧ W i m H' := fun {s' H'} I' nx => by
        obtain ⟨m', hm, w'⟩ := hNx H' nx
        have kept : ∀ b ∈ fa, ∀ o, sG.heap.get? b = some o → s'.heap.get? b = some o ∧ H' b = none := fun b hb o z =>
          let y := I'.pin (b, o) (List.mem_append_right _ (List.mem_append_right _ (mem_pinsAt hb z)))
          ⟨y.1, y.2.1⟩
        have hlen : (wipe τ (own.map (·.2))).length = τK.length := by rw [← wK, wipe_length]
        refine ⟨m', hm, i + 1, H', (I'.unpinned (pins := [])).weak hlen (fun j v z => ?_), T.keep _ _ _ tG fun b hb o z => (kept b hb o z).1, fun b hb => ?_, w'⟩
        · rw [← wK] at z
          exact (wipe_some z).1
        · obtain ⟨o, z, _⟩ := T.obj _ _ tG b hb
          exact (kept b hb o z).2
      cases b with
      | false =>
        rw [if_neg Bool.false_ne_true] at qM
        exact last IM qM
      | true =>
        rw [if_pos rfl] at qM
        refine thnF (Pe.run _ sM τK HM _ IM qM) fun z sN ⟨yv, HN, IN, rN, acc, hLN, hz, nx⟩ => ?_
        exact app_ok (X := X.blk sC HC sco cen fa) IN hLN hz rN fun sO IO => last IO nx
  exact codeAny_compStart_list run (T.self X.A 0 _ _ _ tD run)
end
end Own

namespace Own
open PySem PySem.Spec PyProof.Rows L2 Evl L2H
/-! ### defs that are called with the error in hand, in its except suite: what they keep speaks of the error's object -/
abbrev SpP := Addr × Obj → Sp
structure FnP (P : Program) (w : World) (K : PySem.W.Frag) (mg : Str → Option Value) (base : Heap) (k : Nat) (f : Addr) (fd : FuncData) (ps : List Str) (sp : SpP) : Prop where
  len : ∀ ob vs H Z EE, sp ob vs H Z EE → vs.length = ps.length
  run : ∀ (A : Around) (outer : List Env) (s : Shared) (H : Hp) (args : Args) (us : List Value) (vs : List V) (Z : VK) (EE : XK) (ob : Addr × Obj), RoomH k A → Hot1 A ob → PinOk outer H s ob → Env0 P w K mg base A outer s H → BindsTo s fd args (ps.zip us) → Vals vs us → sp ob vs H Z EE →
    codeAny (model P w) A (.call (.ref f) args) (CR CX0 outer P w H s Z EE) s
section
variable {P : Program} {w : World} {K : PySem.W.Frag} {mg : Str → Option Value} {base : Heap}
theorem fn_mkP {x q : Str} {f : Addr} {fd : FuncData} {st : Stmt} {N ps : List Str} {k : Nat} {sp : SpP} (F : Fun K x q st f fd) (S : FnScope N ps (defScope st))
    (len : ∀ ob vs H Z EE, sp ob vs H Z EE → vs.length = ps.length)
    (hbody : ∀ (cdv : Value) (A : Around) (outer : List Env) (s : Shared) (H : Hp) (vs : List V) (Z : VK) (EE : XK) (ob : Addr × Obj), Hot1 A ob → RoomH k (A.deeper (envOfC q (defScope st) s.heap.objs.size f cdv)) → sp ob vs H Z EE →
      ∃ t, PSs (cxH CX0 P w K mg base N q (defScope st) f cdv A outer s H EE ob) (defBody st) t ∧ t { nx := fun _ H' => Z .non H', rt := Z } (start N vs) H) : FnP P w K mg base (k + 1) f fd ps sp := by
  obtain ⟨oc, od, kV, doc, pm, an, cdv, ct, sl, rfl, lkp, hcd⟩ := F.ex
  refine ⟨len, fun A outer s H args us vs Z EE ob hr hot hpi e0 hbt r hsp => ?_⟩
  have hlen := len _ _ _ _ _ hsp
  have KI : K.In s.heap := e0.mod.kin.keeps fun b o e => (e0.bs b o e).1
  have nlm : s.heap.NoLimit := e0.mod.nolimit.keeps fun b o e => (e0.bs b o e).1
  have hkind : ∀ y ∈ ps.zip us, (defScope st).names.lookup y.1 = some .local ∨ ((defScope st).names.lookup y.1 = some .cell ∧ ((cellsFrom (s.heap.objs.size + 1) (defScope st).names []).lookup y.1).isSome = true) := fun ⟨n, v⟩ hyy => by
    rcases S.par n (List.of_mem_zip hyy).1 with qq | qq
    · exact .inl qq
    · exact .inr ⟨qq, PySem.W.cellsFrom_some _ _ _ (.inl qq)⟩
  refine codeAny_call_function hr.depth (KI _ _ lkp) rfl S.co S.gen rfl (PySem.W.codeRec_of KI hcd) (hbt _ _ _ _ ?_)
  refine wpAny_newFunctionEnv_cells S.kind hkind fun env hes st1 xx => ?_
  subst hes
  refine ⟨nlm.keeps xx.toInCall.keep, codeAny_func ?_⟩
  obtain ⟨t, ht, hsq⟩ := hbody cdv A outer s H vs Z EE ob hot (hr.deeper _) hsp
  have I : Inv (cxH CX0 P w K mg base N q (defScope st) f cdv A outer s H EE ob) [] (start N vs) H st1 := inv_startH S hpi e0 hlen r xx
  refine wpAny_mono (ht.run [] st1 (start N vs) H _ I hsq) (fun fl s' hst => ?_) fun e s' hst => hst
  have ready : ∀ {τ' : L2.St} {H' : Hp} {v : V} {u : Value}, Inv (cxH CX0 P w K mg base N q (defScope st) f cdv A outer s H EE ob) [] τ' H' s' → RelV v u → Z v H' → CE outer P w H s Z u s' :=
    fun {τ' H' v u} J rv qq => ⟨v, H', J.os, J.bare, J.base, J.hok, rv, qq⟩
  cases fl with
  | ret u =>
    obtain ⟨v, τ', H', J, rv, qq⟩ := hst
    exact ready J rv qq
  | next =>
    obtain ⟨τ', H', J, qq⟩ := hst
    exact ready (v := V.non) (u := Value.none) J rfl qq
  | brk =>
    obtain ⟨_, _, _, qq⟩ := hst
    exact False.elim qq
  | cont =>
    obtain ⟨_, _, _, qq⟩ := hst
    exact False.elim qq
end
structure CalP (P : Program) (w : World) (K : PySem.W.Frag) (mg : Str → Option Value) (base : Heap) (k : Nat) (x : Str) (sp : SpP) : Prop where
  ex : ∃ (f : Addr) (fd : FuncData) (ps : List Str), FnP P w K mg base k f fd ps sp ∧ mg x = some (.ref f) ∧ PySem.W.keepIn K (.ref f) = true ∧ Binds K fd ps []
def tCallP (sp : Sp) (t : TA) : TE := fun σ H Q => t σ H fun vs H1 => sp vs H1 Q (fun _ _ _ => False)
section
variable {X : Cx} {pk : List (Addr × Obj)} {τ : L2.St} {H : Hp} {s : Shared} {k j : Nat} {sp : SpP} {f : Addr} {fd : FuncData} {ps : List Str} {Z : VK} {us : List Value} {vs : List V} {x m : Str} {p pos : Pos} {e : Expr} {es : List Expr} {t : TA} {ob : Addr × Obj}
theorem run_fnP (F : FnP X.prog X.w X.K X.mg X.base k f fd ps sp) (hr : RoomH k X.A) (hot : Hot1 X.A ob) (hob : ob ∈ X.pn) (hbd : Binds X.K fd ps [])
    (I : Inv X pk τ H s) (r : Vals vs us) (h : sp ob vs H Z (fun _ _ _ => False)) : wpAny (model X.prog X.w) X.A (call (.ref f) us) (EP X pk τ Z) X.xe s := by
  have hlen : us.length = ps.length := by rw [← r.length]; exact F.len _ _ _ _ _ h
  obtain ⟨z1, z2, z3, z4, z5⟩ := I.pin ob (List.mem_append_left _ hob)
  have hpi : PinOk X.stack H s ob := ⟨z1, z2, fun hm => (List.mem_cons.mp (I.stkSub ob.1 hm)).elim z3 z4, z5⟩
  refine wpAny_call (codeAny_mono (F.run X.A X.stack s H ⟨us, []⟩ us vs Z _ ob hr hot hpi I.env0 (by have q := hbd s us I.kIn (by rw [List.append_nil]; exact hlen); rw [List.append_nil] at q; exact q) r h) fun r s' hsq => ?_)
  cases r with
  | error e => exact absurd hsq (by intro q; exact q.elim)
  | ok fl =>
    cases fl with
    | ret u => exact I.after hsq
    | next => exact False.elim hsq
    | brk => exact False.elim hsq
    | cont => exact False.elim hsq
theorem pe_cP (c : CalP X.prog X.w X.K X.mg X.base k x sp) (hr : RoomH k X.A) (hot : Hot1 X.A ob) (hob : ob ∈ X.pn) (hg : Gl X x) (ha : PA X (e :: es) t)
    (hdb : (x == ("__debug__" : Str)) = false := by decide) (hes : starEach (e :: es) X.env = (false, eval e X.env) :: starEach es X.env := by rfl) (hpl : (backTo pos (starEach es X.env)).any (·.1) = false := by rfl) :
    PE X (.Call (.Name x p) (e :: es) [] pos) (tCallP (sp ob) t) := by
  obtain ⟨f, fd, ps, F, hmg, kp, b⟩ := c.ex
  refine ⟨fun pk s τ H Z I h => ?_⟩
  refine wpAny_Call_Name_kw (ld_glob I hg hmg ?_ hdb)
  refine PySem.W.callWith_K (h₀ := X.base) I.ok.mod.kin kp (thn (ha.run pos pk s τ H _ I h) fun us st1 ⟨vs, H1, I1, r, q⟩ => ⟨I1.kIn, ?_⟩) hes hpl
  exact run_fnP F hr hot hob b I1 r q
end
/-! ### the error in hand -/
/-- what is known of the error's object -/
structure ErO (ob : Addr × Obj) (D : Addr) (d : Option Addr) : Prop where
  cls : ob.2.cls = .ref D
  dct : ob.2.dict = d
  dat : ∃ vs, ob.2.data = .fields vs
/-- its fields, where it has some -/
def ErD (H : Hp) (d : Option Addr) : Prop := d = none ∨ ∃ dd fs, d = some dd ∧ H dd = some (.xd fs)
theorem inst_of {X : Cx} {pk : List (Addr × Obj)} {τ : L2.St} {H : Hp} {s : Shared} {ob : Addr × Obj} {D : Addr} {d : Option Addr} (I : Inv X pk τ H s) (hob : ob ∈ X.pn) (O : ErO ob D d) (hd : ErD H d) : ∃ od, PySem.W.InstAt s.heap ob.1 ob.2 D od := by
  obtain ⟨hget, _⟩ := I.pin ob (List.mem_append_left _ hob)
  obtain ⟨h1, h2, vs, h3⟩ := O
  rcases hd with rfl | ⟨dd, fs, rfl, hx⟩
  · refine ⟨none, hget, h1, by unfold PySem.W.notCls; rw [h3] <;> rfl, by rw [h2]; trivial⟩
  · have hx : ObjOk X.prog X.w H s.heap dd (.xd fs) := I.hok dd _ hx
    obtain ⟨mA, hns, hr⟩ := hx
    obtain ⟨od, ho, hl⟩ := lookIn_ns hns
    exact ⟨some od, hget, h1, by unfold PySem.W.notCls; rw [h3] <;> rfl, by rw [h2]; exact ho⟩
theorem call_isP {X : Cx} {ob : Addr × Obj} {D : Addr} {d : Option Addr} (C : ExcC X.K D) (hob : ob ∈ X.pn) (O : ErO ob D d) : CallR X (.builtin "isinstance") (fun xs H Q => ErD H d ∧ rIsE X.K D ob.1 xs H Q) := by
  intro pk s τ H xs us Q I r h
  obtain ⟨hd, c, cv, b, rfl, hcv, e, q⟩ := h
  cases r with
  | cons rx rr =>
    cases rr with
    | cons rt rr =>
      cases rr
      cases rx
      have ec := hcv _ rt
      subst ec
      obtain ⟨od, J⟩ := inst_of I hob O hd
      have hc : (PySem.W.clsIn X.K D).isSome = true := by
        obtain ⟨cd, hc, _⟩ := PySem.W.any_some C.hd
        rw [hc]
        rfl
      have fin : ∀ tk, EP X pk τ Q (.bool b) { s with toks := tk } := fun tk => ⟨.bl b, H, I.kept (t' := tk) fun _ _ z => z, rfl, q⟩
      cases od with
      | none => exact PySem.W.kia_one (PySem.W.handS_kitx_exc C.hg C.hk C.hs C.hd C.ha C.hn C.ht C.hm) I.kIn J e (fun z => nomatch z) fin
      | some od => exact PySem.W.kia_one (PySem.W.kitx_exc hc C.hg C.hk C.hs C.ha C.hn C.ht C.hm) I.kIn J e (fun z => nomatch z) fin
theorem pe_xfP {X : Cx} {ob : Addr × Obj} {D : Addr} {d : Option Addr} {e : Expr} {te : TE} {pos : Pos} {n : Str} (C : ExcC X.K D) (hno : PySem.W.findIn X.K (.ref D) n = some none) (hob : ob ∈ X.pn) (O : ErO ob D d) (he : PE X e te)
    (hb : attributeBase e n X.env (eval e X.env) = eval e X.env := by rfl) : PE X (.Attribute e n pos) (tXf ob.1 (.ref D) d D n te) := by
  refine ⟨fun pk s τ H Q I h => ?_⟩
  refine attr_of hb (thn (he.run pk s τ H _ I h) fun u sA hh => ?_)
  obtain ⟨x, HA, IA, rx, ex, _, dd, fs, v, ed, ea, l, q⟩ := hh
  subst ex
  obtain rfl : u = Value.ref ob.1 := rx
  obtain ⟨hget, _⟩ := IA.pin ob (List.mem_append_left _ hob)
  obtain ⟨h1, h2, vs, h3⟩ := O
  have hx : ObjOk X.prog X.w HA sA.heap dd (.xd fs) := IA.hok dd _ ea
  obtain ⟨mA, hns, hr⟩ := hx
  obtain ⟨od, ho, hl⟩ := lookIn_ns hns
  obtain ⟨u, hu, ru⟩ := RelO.some_of (v := v) (o := mA n) (by rw [← l]; exact hr n)
  have J : PySem.W.InstAt sA.heap ob.1 ob.2 D (some od) := ⟨hget, h1, by unfold PySem.W.notCls; rw [h3] <;> rfl, by rw [h2, ed]; exact ho⟩
  exact HandSPX.exc_get IA.kIn J C.hg C.hk C.hs (PySem.W.findObj_own C.hd hno rfl (by rw [hl, hu])) (handed_of ru) ⟨v, HA, IA.tok _, ru, q⟩
/-! ### lists of the very same things are equal -/
def plV : V → Bool | .non => true | .bl _ => true | .int _ => true | .str _ => true | .ref _ => true | _ => false
def rEqS (K : PySem.W.Frag) : R2 := fun x y H Q => ∃ (a b : Addr) (xs : List V), x = .ref a ∧ y = .ref b ∧ SqL K H a xs ∧ SqL K H b xs ∧ xs.all plV = true ∧ Q (.bl true) H
theorem same_at {P : Program} {w : World} {s : Shared} {v : V} {u u' : Value} (h : plV v = true) (r : RelV v u) (r' : RelV v u') : PySem.W.EqTree P w s 0 u u' true := by
  cases v with
  | non => cases r; cases r'; exact .same
  | bl b => cases r; cases r'; exact .same
  | ref a => cases r; cases r'; exact .same
  | int i =>
    obtain ⟨t, rfl⟩ := r
    obtain ⟨t', rfl⟩ := r'
    refine .leaf fun A _ => ?_
    have z := PySem.SeqAt.EqAt.int_int (A := A) (s := s) i t i t'
    rw [beq_self_eq_true] at z
    exact z
  | str i =>
    obtain ⟨t, rfl⟩ := r
    obtain ⟨t', rfl⟩ := r'
    refine .leaf fun A _ => ?_
    have z := PySem.SeqAt.EqAt.str_str (A := A) (s := s) i t i t'
    rw [beq_self_eq_true] at z
    exact z
  | _ => cases h
theorem op_eqS {X : Cx} (hu : X.A.units + 64 < cLine) : OpR X (compareOp .Eq) (rEqS X.K) := by
  intro pk s τ H x y v u Q I rx ry h
  obtain ⟨a, b, xs, rfl, rfl, ha, hb, hpl, q⟩ := h
  cases rx
  cases ry
  obtain ⟨ua, ra, la, _⟩ := I.list ha
  obtain ⟨ub, rb, lb, _⟩ := I.list hb
  have hsz : ua.toArray.size = ub.toArray.size := by rw [List.size_toArray, List.size_toArray, ← ra.length, ← rb.length]
  refine PySem.W.eq_listsT (n := 0) (e := fun _ => true) la.isList lb.isList hsz (fun j h1 h2 => ?_) (by omega) ⟨.bl true, H, I, ?_, q⟩
  · have hj : j < xs.length := by rw [ra.length]; simpa using h1
    obtain ⟨u1, e1, r1⟩ := ra.get (x := xs[j]) (List.getElem?_eq_getElem hj)
    obtain ⟨u2, e2, r2⟩ := rb.get (x := xs[j]) (List.getElem?_eq_getElem hj)
    have p1 : ua.toArray[j] = u1 := by
      have z : ua[j]? = some (ua.toArray[j]) := by simp
      rw [z] at e1
      exact Option.some.inj e1
    have p2 : ub.toArray[j] = u2 := by
      have z : ub[j]? = some (ub.toArray[j]) := by simp
      rw [z] at e2
      exact Option.some.inj e2
    rw [p1, p2]
    exact same_at (List.all_eq_true.mp hpl _ (List.getElem_mem hj)) r1 r2
  · show Value.bool _ = Value.bool true
    congr 1
    exact List.all_eq_true.mpr fun _ _ => rfl
end Own

namespace Own
open PySem PySem.Spec PyProof.Rows L2 Evl L2H
/-! ### defs that may raise, the error's context being told to be None -/
structure FnN (P : Program) (w : World) (K : PySem.W.Frag) (mg : Str → Option Value) (base : Heap) (k : Nat) (f : Addr) (fd : FuncData) (ps : List Str) (sp : Sp) : Prop where
  len : ∀ vs H Z EE, sp vs H Z EE → vs.length = ps.length
  run : ∀ (A : Around) (outer : List Env) (s : Shared) (H : Hp) (args : Args) (us : List Value) (vs : List V) (Z : VK) (EE : XK), Room k A → A.guards = some [] → Env0 P w K mg base A outer s H → BindsTo s fd args (ps.zip us) → Vals vs us → sp vs H Z EE →
    codeAny (model P w) A (.call (.ref f) args) (CR (L2N.CX P w) outer P w H s Z EE) s
structure CalN (P : Program) (w : World) (K : PySem.W.Frag) (mg : Str → Option Value) (base : Heap) (k : Nat) (x : Str) (sp : Sp) : Prop where
  ex : ∃ (f : Addr) (fd : FuncData) (ps : List Str), FnN P w K mg base k f fd ps sp ∧ mg x = some (.ref f) ∧ PySem.W.keepIn K (.ref f) = true ∧ Binds K fd ps []
section
variable {P : Program} {w : World} {K : PySem.W.Frag} {mg : Str → Option Value} {base : Heap}
theorem fn_mkN {x q : Str} {f : Addr} {fd : FuncData} {st : Stmt} {N ps : List Str} {k : Nat} {sp : Sp} (F : Fun K x q st f fd) (S : FnScope N ps (defScope st))
    (len : ∀ vs H Z EE, sp vs H Z EE → vs.length = ps.length)
    (hbody : ∀ (cdv : Value) (A : Around) (outer : List Env) (s : Shared) (H : Hp) (vs : List V) (Z : VK) (EE : XK), Room k (A.deeper (envOfC q (defScope st) s.heap.objs.size f cdv)) → (A.deeper (envOfC q (defScope st) s.heap.objs.size f cdv)).guards = some [] → sp vs H Z EE →
      ∃ t, PSs (cxOf (L2N.CX P w) P w K mg base N q (defScope st) f cdv A outer s H EE) (defBody st) t ∧ t { nx := fun _ H' => Z .non H', rt := Z } (start N vs) H) : FnN P w K mg base (k + 1) f fd ps sp := by
  obtain ⟨oc, od, kV, doc, pm, an, cdv, ct, sl, rfl, lkp, hcd⟩ := F.ex
  refine ⟨len, fun A outer s H args us vs Z EE hr hg e0 hbt r hsp => ?_⟩
  have hlen := len _ _ _ _ hsp
  have KI : K.In s.heap := e0.mod.kin.keeps fun b o e => (e0.bs b o e).1
  have nlm : s.heap.NoLimit := e0.mod.nolimit.keeps fun b o e => (e0.bs b o e).1
  have hkind : ∀ y ∈ ps.zip us, (defScope st).names.lookup y.1 = some .local ∨ ((defScope st).names.lookup y.1 = some .cell ∧ ((cellsFrom (s.heap.objs.size + 1) (defScope st).names []).lookup y.1).isSome = true) := fun ⟨n, v⟩ hyy => by
    rcases S.par n (List.of_mem_zip hyy).1 with qq | qq
    · exact .inl qq
    · exact .inr ⟨qq, PySem.W.cellsFrom_some _ _ _ (.inl qq)⟩
  refine codeAny_call_function hr.depth (KI _ _ lkp) rfl S.co S.gen rfl (PySem.W.codeRec_of KI hcd) (hbt _ _ _ _ ?_)
  refine wpAny_newFunctionEnv_cells S.kind hkind fun env hes st1 xx => ?_
  subst hes
  refine ⟨nlm.keeps xx.toInCall.keep, codeAny_func ?_⟩
  obtain ⟨t, ht, hsq⟩ := hbody cdv A outer s H vs Z EE (hr.deeper _) hg hsp
  have I : Inv (cxOf (L2N.CX P w) P w K mg base N q (defScope st) f cdv A outer s H EE) [] (start N vs) H st1 := inv_start S hr.hd e0 hlen r xx
  refine wpAny_mono (ht.run [] st1 (start N vs) H _ I hsq) (fun fl s' hst => ?_) fun e s' hst => hst
  have ready : ∀ {τ' : L2.St} {H' : Hp} {v : V} {u : Value}, Inv (cxOf (L2N.CX P w) P w K mg base N q (defScope st) f cdv A outer s H EE) [] τ' H' s' → RelV v u → Z v H' → CE outer P w H s Z u s' :=
    fun {τ' H' v u} J rv qq => ⟨v, H', J.os, J.bare, J.base, J.hok, rv, qq⟩
  cases fl with
  | ret u =>
    obtain ⟨v, τ', H', J, rv, qq⟩ := hst
    exact ready J rv qq
  | next =>
    obtain ⟨τ', H', J, qq⟩ := hst
    exact ready (v := V.non) (u := Value.none) J rfl qq
  | brk =>
    obtain ⟨_, _, _, qq⟩ := hst
    exact False.elim qq
  | cont =>
    obtain ⟨_, _, _, qq⟩ := hst
    exact False.elim qq
theorem cal_mkN {x : Str} {st : Stmt} {N ps : List Str} {k : Nat} {sp : Sp} (D : Df K mg x st) (S : FnScope N ps (defScope st))
    (hbd : ∀ (kV doc pm : Value) (an : Option Addr) (cdv ct : Value) (us : List Value), us.length = ps.length → bindArgs (PySem.W.fnOf x x (defArgs st) (defBody st) (defScope st) .none kV doc pm an cdv ct) ⟨us, []⟩ = pure (ps.zip us))
    (len : ∀ vs H Z EE, sp vs H Z EE → vs.length = ps.length)
    (hbody : ∀ (f : Addr) (cdv : Value) (A : Around) (outer : List Env) (s : Shared) (H : Hp) (vs : List V) (Z : VK) (EE : XK), Room k (A.deeper (envOfC x (defScope st) s.heap.objs.size f cdv)) → (A.deeper (envOfC x (defScope st) s.heap.objs.size f cdv)).guards = some [] → sp vs H Z EE →
      ∃ t, PSs (cxOf (L2N.CX P w) P w K mg base N x (defScope st) f cdv A outer s H EE) (defBody st) t ∧ t { nx := fun _ H' => Z .non H', rt := Z } (start N vs) H) : CalN P w K mg base (k + 1) x sp := by
  obtain ⟨f, fd, hmg, F⟩ := D.ex
  exact ⟨f, fd, ps, fn_mkN F S len (hbody f), hmg, F.kp, F.binds hbd⟩
theorem cal_mkP {x : Str} {st : Stmt} {N ps : List Str} {k : Nat} {sp : SpP} (D : Df K mg x st) (S : FnScope N ps (defScope st))
    (hbd : ∀ (kV doc pm : Value) (an : Option Addr) (cdv ct : Value) (us : List Value), us.length = ps.length → bindArgs (PySem.W.fnOf x x (defArgs st) (defBody st) (defScope st) .none kV doc pm an cdv ct) ⟨us, []⟩ = pure (ps.zip us))
    (len : ∀ ob vs H Z EE, sp ob vs H Z EE → vs.length = ps.length)
    (hbody : ∀ (f : Addr) (cdv : Value) (A : Around) (outer : List Env) (s : Shared) (H : Hp) (vs : List V) (Z : VK) (EE : XK) (ob : Addr × Obj), Hot1 A ob → RoomH k (A.deeper (envOfC x (defScope st) s.heap.objs.size f cdv)) → sp ob vs H Z EE →
      ∃ t, PSs (cxH CX0 P w K mg base N x (defScope st) f cdv A outer s H EE ob) (defBody st) t ∧ t { nx := fun _ H' => Z .non H', rt := Z } (start N vs) H) : CalP P w K mg base (k + 1) x sp := by
  obtain ⟨f, fd, hmg, F⟩ := D.ex
  exact ⟨f, fd, ps, fn_mkP F S len (hbody f), hmg, F.kp, F.binds hbd⟩
end
section
variable {X : Cx} {pk : List (Addr × Obj)} {τ : L2.St} {H : Hp} {s : Shared} {k j : Nat} {sp : Sp} {f C : Addr} {fd : FuncData} {ps : List Str} {Z : VK} {us : List Value} {vs : List V} {x m : Str} {p pos apos : Pos} {e o : Expr} {es : List Expr} {t : TA} {ta : TE} {E : L2.St → XK}
theorem run_fnN (F : FnN X.prog X.w X.K X.mg X.base k f fd ps sp) (hr : Room k X.A) (hg : X.A.guards = some []) (hbd : Binds X.K fd ps []) (hx : PassesAt (L2N.CX X.prog X.w) X τ (E τ))
    (I : Inv X pk τ H s) (r : Vals vs us) (h : sp vs H Z (E τ)) : wpAny (model X.prog X.w) X.A (call (.ref f) us) (EP X pk τ Z) X.xe s := by
  have hlen : us.length = ps.length := by rw [← r.length]; exact F.len _ _ _ _ h
  refine wpAny_call (codeAny_mono (F.run X.A X.stack s H ⟨us, []⟩ us vs Z (E τ) hr hg I.env0 (by have q := hbd s us I.kIn (by rw [List.append_nil]; exact hlen); rw [List.append_nil] at q; exact q) r h) fun r s' hsq => ?_)
  cases r with
  | error e => exact hx pk H s e s' I hsq
  | ok fl =>
    cases fl with
    | ret u => exact I.after hsq
    | next => exact False.elim hsq
    | brk => exact False.elim hsq
    | cont => exact False.elim hsq
theorem pe_cN (c : CalN X.prog X.w X.K X.mg X.base k x sp) (hr : Room j X.A) (hg0 : X.A.guards = some []) (hkp : k ≤ j) (hx : ∀ σ, PassesAt (L2N.CX X.prog X.w) X σ (E σ)) (hg : Gl X x) (ha : PA X (e :: es) t)
    (hdb : (x == ("__debug__" : Str)) = false := by decide) (hes : starEach (e :: es) X.env = (false, eval e X.env) :: starEach es X.env := by rfl) (hpl : (backTo pos (starEach es X.env)).any (·.1) = false := by rfl) :
    PE X (.Call (.Name x p) (e :: es) [] pos) (tCallS sp E t) := by
  obtain ⟨f, fd, ps, F, hmg, kp, b⟩ := c.ex
  refine ⟨fun pk s τ H Z I h => ?_⟩
  refine wpAny_Call_Name_kw (ld_glob I hg hmg ?_ hdb)
  refine PySem.W.callWith_K (h₀ := X.base) I.ok.mod.kin kp (thn (ha.run pos pk s τ H _ I h) fun us st1 ⟨vs, H1, I1, r, q⟩ => ⟨I1.kIn, ?_⟩) hes hpl
  exact run_fnN F (hr.mono hkp) hg0 b (hx τ) I1 r q
end
/-! ### errors made -/
section
variable {X : Cx} {x : Str} {C : Addr} {p pos : Pos}
theorem pmk_oexN {CX : CXT} {e : Expr} {es : List Expr} {ta : TA} {fi : Addr} {k : Nat} {fd : FuncData} {ps : List Str} {sp : Sp} (T : OexC X.K C) (iC : PySem.W.findIn X.K (.ref C) "__init__" = some (some (.ref fi))) (tI : PySem.W.typeIn X.K (.ref fi) = some (.type "function"))
    (F1 : FnOk X.prog X.w X.K X.mg X.base CX k fi fd ps sp) (hr : Room (k + 1) X.A) (hb : Binds X.K fd ps []) (hx : Passes CX X (fun _ _ _ => False)) (hg : Gl X x) (hm : X.mg x = some (.ref C)) (ha : PA X (e :: es) ta)
    (hdb : (x == ("__debug__" : Str)) = false := by decide) (hes : starEach (e :: es) X.env = (false, eval e X.env) :: starEach es X.env := by rfl) (hpl : (backTo pos (starEach es X.env)).any (·.1) = false := by rfl) :
    L2N.PMk X (.Call (.Name x p) (e :: es) [] pos) (tMkO C sp [] ta) := by
  intro pk s τ H Q I h
  obtain ⟨_, _, _, _, tl, _, _, _, _, _, _, _, _, _, _, lC, hbm⟩ := T.cls
  refine wpAny_Call_Name_kw (ld_glob I hg hm ?_ hdb)
  refine PySem.W.callWith_K (h₀ := X.base) I.ok.mod.kin T.kC (thn (ha.run pos pk s τ H _ I h) fun us sA ⟨vs, HA, IA, rA, hz, qA⟩ => ⟨IA.kIn, ?_⟩) hes hpl
  show wpAny _ _ (call (.ref C) us) _ _ _
  obtain ⟨hA, gA, dA, tA, oA⟩ := sA
  generalize hn0 : hA.objs.size = n0
  have hle : hA.objs.size ≤ n0 + 1 := by rw [hn0]; exact Nat.le_succ _
  have hfr : HA (n0 + 1) = none := IA.hok.fresh hle
  have qB := qA (n0 + 1) hfr
  rw [List.append_nil] at qB
  generalize hhB : (hA.push (PySem.W.kdv_tup us)).push (PySem.HandSPX.excO C n0) = hB
  have kB : ∀ b o, hA.get? b = some o → hB.get? b = some o := fun b o z => by rw [← hhB]; exact Heap.get?_push_of_some _ (Heap.get?_push_of_some _ z)
  have gB : hB.get? (n0 + 1) = some (PySem.HandSPX.excO C n0) := by
    rw [← hhB, ← hn0]
    heap_get
  have IB : Inv X pk τ (upd HA (n0 + 1) (exo (n0 + 1) C none)) ⟨hB, gA, dA, tA, oA⟩ := IA.laid (t' := tA) (a := n0 + 1) (o := exo (n0 + 1) C none) (h' := hB) kB hle (exo_ok gB)
  have rB : Vals (V.ref (n0 + 1) :: vs) (Value.ref (n0 + 1) :: us) := .cons rfl rA
  have hlen : (Value.ref (n0 + 1) :: us ++ []).length = ps.length := by
    have z := rB.length
    rw [F1.len _ _ _ _ qB] at z
    rw [List.append_nil]
    exact z.symm
  have hus : us.length ≤ sizeLine := by
    rw [← Paired.length rA, sizeLine_eq]
    omega
  have bB := hb _ (Value.ref (n0 + 1) :: us) IB.kIn hlen
  rw [List.append_nil] at bB
  have run := F1.run (X.A.under (.builtin "type.__call__" ⟨.ref C :: us, []⟩)) X.stack _ _ ⟨Value.ref (n0 + 1) :: us, []⟩ (Value.ref (n0 + 1) :: us) _ _ (fun _ _ _ => False) (hr.make C us []) (IB.env0.make C us []) bB rB qB
  subst hn0 hhB
  refine wpAny_call (PySem.HandSPX.call_own F.excBase_ValueError (fun Y => PySem.HandSPX.refsVE_contains Y tl hbm) (IA.kIn _ _ lC) (PySem.W.looks_findIn IA.kIn iC) (fun self => PySem.W.bind_fn IA.kIn self tI) hus (codeAny_mono run fun r s' hst => ?_))
  cases r with
  | error er => exact hx pk τ _ _ er s' IB hst
  | ok fl =>
    cases fl with
    | ret u =>
      obtain ⟨v, HC, oC, bC, uC, hokC, rv, ev, d, fs, ea, ed, hdn, qC⟩ := hst
      subst ev
      obtain ⟨hC, gC, dC, tC, oC'⟩ := s'
      obtain ⟨t0, G, J, kG, ge, hoe, na⟩ := mk_end0 (d2 := dC) (t2 := tC) IA hle kB uC hokC oC bC ea ed hdn
      exact ⟨rv, ⟨hA.objs.size + 1, _, _, ⟨G, gC, dC, tC, oC'⟩, _, .ref C, some d, rfl, J, kG, ge, hoe, ⟨rfl, rfl, fun vs hv => by cases hv; rfl⟩, rfl, rfl, na, rfl, bC, raises_own T.exC T.tyC, qC⟩⟩
    | next => exact False.elim hst
    | brk => exact False.elim hst
    | cont => exact False.elim hst
theorem pmk_own0N {bmB : List Value} {B newId initId : String} (F : ExcBaseFacts B newId initId bmB) (q : PySem.W.excIn X.K C bmB newId = true) (gC : X.mg x = some (.ref C)) (kC : PySem.W.keepIn X.K (.ref C) = true) (r : Raises X (.ref C)) (hg : Gl X x)
    (hdb : (x == ("__debug__" : Str)) = false := by decide) : L2N.PMk X (.Call (.Name x p) [] [] pos) (fun _ H Q => Q (.ref C) none H) := by
  intro pk s τ H Q I h
  refine wpAny_Call_Name_kw (ld_glob I hg gC ?_ hdb)
  refine PySem.W.callWith_K0 I.kIn kC ?_
  obtain ⟨bm, N, nm, qn, bs, hdct, sn, sub, ab, col, dd, k0, k1, k2, k3, k5, mN, hC, hN, hni, T⟩ := exc_obj I.kIn q
  refine wpAny_call_exc_subT F T hC hN hni (fun h' e hm => ?_) (Nat.zero_le _)
  exact L2N.mk_of I hm r h (I.hok.gone hm.new)
end
end Own

namespace Own
open PySem PySem.Spec PyProof.Rows L2 Evl
/-! ### sets of texts -/
/-- the set at a holds just the texts l; it can be walked -/
def SetX (P : Program) (w : World) (h : Heap) (a : Addr) (l : List Str) : Prop :=
  ∃ D : Froz.SD, h.get? a = some (Froz.sObj "set" D) ∧ Froz.TxOk P w D l ∧ l.Nodup ∧ Ris D.2.2.place.toList ∧ (w.params.followText "set-order" = true ∨ D.2.2.led = true)
theorem tail_ris {ep : Nat} {es : Array (Int × Value)} {t : SetTable} {b : Bool} (r : Ris t.place.toList) : Ris (Froz.tailTx ep es t b).2.2.place.toList := by
  unfold Froz.tailTx
  split
  · exact relayAll_ris _ _ _
  · exact r
theorem tail_led {ep : Nat} {es : Array (Int × Value)} {t : SetTable} {b : Bool} : (Froz.tailTx ep es t b).2.2.led = t.led := by
  unfold Froz.tailTx
  split
  · exact relayAll_led _ _ _
  · rfl
theorem add_ris {D : Froz.SD} {hh : Int} {v : Value} (r : Ris D.2.2.place.toList) : Ris (Froz.addTx hh v D).2.2.place.toList := by
  unfold Froz.addTx
  refine tail_ris ?_
  have z := layNew_ris D.2.2 D.1 hh v r
  split
  · exact z
  · exact z
theorem add_led {D : Froz.SD} {hh : Int} {v : Value} : (Froz.addTx hh v D).2.2.led = D.2.2.led := by
  unfold Froz.addTx
  rw [tail_led]
  have z := layNew_led D.2.2 D.1 hh v
  split
  · exact z
  · exact z
section
variable {P : Program} {w : World} {A : Around} {E : Value → Shared → Prop} {s : Shared} {h h' : Heap} {a : Addr} {l : List Str}
theorem SetX.at (R : SetX P w h a l) (k : ∀ o, h.get? a = some o → h'.get? a = some o) : SetX P w h' a l := by
  obtain ⟨D, ho, r⟩ := R
  exact ⟨D, k _ ho, r⟩
theorem SetX.fresh (ho : h.get? a = some { cls := .type "set", dict := none, data := .set #[] 0 (.fresh 0 0 (!w.params.followText "set-order")) }) : SetX P w h a [] := by
  refine ⟨(#[], 0, .fresh 0 0 (!w.params.followText "set-order")), ho, .nil rfl, .nil, List.Pairwise.nil, ?_⟩
  show _ ∨ (!w.params.followText "set-order") = true
  cases w.params.followText "set-order"
  · exact .inr rfl
  · exact .inl rfl
/-- a text is put in, if it is not there -/
theorem setX_add {k : Str} {u : Tok} {Q : Bool → Shared → Prop} (R : SetX P w s.heap a l) (room : l.length + 1 < scanBound)
    (hQ : ∀ b hp l', Heap.SameBut a s.heap hp → SetX P w hp a l' → (∀ z, z ∈ l' ↔ z ∈ l ∨ z = k) → l'.length ≤ l.length + 1 → Q b { s with heap := hp }) :
    wpAny (model P w) A (setAddHashed a (.str k u) (hashStr w k)) Q E s := by
  obtain ⟨D, ho, F, nd, r, ld⟩ := R
  by_cases hk : k ∈ l
  · obtain ⟨es, ep, t⟩ := D
    have dd : (Froz.sObj "set" (es, ep, t)).data = .set es ep t := rfl
    have ff : t.fits es.size = true := F.fit
    have fe : ElemsOf (strKind P w) es.toList := F.el
    have fs : es.size = l.length := F.sz
    have small : es.size < scanBound := by omega
    have key : (strKind P w).is k (.str k u) = true := Froz.is_str k u
    unfold setAddHashed setAddHashedIn
    refine wpAny_holding (wpAny_bind (wpAny_setState_of ho dd ff ?_))
    dsimp only
    rw [byScan_of rfl small fe]
    simp only [↓reduceIte]
    unfold setAddByScan
    refine wpAny_bind (wpAny_bind (wpAny_rule (wpAny_bind (wpAny_setScan_of (knd := strKind P w) (k := k) key ho dd ff fe ?_))))
    cases hfi : List.findIdx? (fun e => (strKind P w).is k e.2) es.toList with
    | none =>
      obtain ⟨e, he, hb⟩ := (F.mem k).mp hk
      have z := List.findIdx?_eq_none_iff.mp hfi e he
      rw [hb] at z
      cases z
    | some j =>
      dsimp only
      refine wpAny_pure (wpAny_pure ?_)
      exact hQ _ s.heap l (Heap.SameBut.refl a s.heap) ⟨(es, ep, t), ho, F, nd, r, ld⟩ (fun z => ⟨.inl, fun q => q.elim id (fun e => e ▸ hk)⟩) (Nat.le_succ _)
  · refine Froz.add_x ho F hk room (hQ true _ (k :: l) ⟨Heap.size_after_update .., fun b hb => Heap.get?_update_other _ _ (Ne.symm hb)⟩ ⟨Froz.addTx (hashStr w k) (.str k u) D, ?_, Froz.add_ok u F, List.nodup_cons.mpr ⟨hk, nd⟩, add_ris r, ld.imp id fun z => add_led.trans z⟩ (fun z => ?_) (Nat.le_refl _))
    · exact Froz.get_upd _ ho rfl
    · rw [List.mem_cons]
      exact Or.comm
theorem setX_loop {it : Addr} {fa wa : List Addr} {G : Array GenState → Array GenState → Prop} {n : Nat} {Pv : Nat → Value → Prop} {St : Nat → Shared → Prop} {R : Result → Shared → Prop}
    (W : WalksS P w A.in1 it fa wa G n Pv St) (hfa : a ∉ fa) (zs : List Str) (hn : n = zs.length) (hb : zs.length + 1 < scanBound) (hv : ∀ i v, Pv i v → ∃ z t, zs[i]? = some z ∧ v = .str z t) :
    ∀ (m i : Nat) (l : List Str) (s : Shared), n - i = m → i ≤ n → St i s → l.length ≤ i → (∀ z, z ∈ l ↔ z ∈ zs.take i) → SetX P w s.heap a l →
      (∀ s' l', Moved (a :: wa) G s s' → l'.length ≤ n → (∀ z, z ∈ l' ↔ z ∈ zs) → SetX P w s'.heap a l' → R (.ok (.ret .none)) s') →
      codeAny (model P w) A (.builtin "set.update.loop" ⟨[.ref a, .ref it], []⟩) R s := by
  have hwa : a ∉ wa := fun q => hfa (W.sub _ q)
  have more : ∀ b ∈ wa, b ∈ a :: wa := fun b q => List.mem_cons_of_mem _ q
  intro m
  induction m with
  | zero =>
    intro i l s hm hi hst hl hz hX hR
    have ei : i = n := by omega
    subst ei
    refine codeAny_builtin F.entry_set_update_loop ?_
    rw [Around.under_plainId F.plain_set_update_loop _]
    show wpAny _ A.in1 (pyNext (.ref it) >>= _) _ _ s
    refine wpAny_bind (W.done s _ _ hst fun s' mv => ?_)
    show wpAny _ A.in1 (ret Value.none) _ _ s'
    rw [List.take_of_length_le (show zs.length ≤ i by omega)] at hz
    exact wpAny_pure (hR s' l (mv.mono more) hl hz (hX.at fun o e => mv.heap a o hwa e))
  | succ m ih =>
    intro i l s hm hi hst hl hz hX hR
    have lt : i < n := by omega
    refine codeAny_builtin F.entry_set_update_loop ?_
    rw [Around.under_plainId F.plain_set_update_loop _]
    show wpAny _ A.in1 (pyNext (.ref it) >>= _) _ _ s
    refine wpAny_bind (W.item i s _ _ lt hst fun v s' pv hst' mv => ?_)
    obtain ⟨z, t, hzi, rfl⟩ := hv i v pv
    have hX' : SetX P w s'.heap a l := hX.at fun o e => mv.heap a o hwa e
    show wpAny _ A.in1 (holding [Value.str z t] (setAdd a (.str z t)) >>= _) _ _ s'
    refine wpAny_bind (wpAny_holding ?_)
    unfold setAdd
    refine wpAny_holding ?_
    refine wpAny_bind ((strKind P w).pyHash (k := z) (Froz.is_str z t) ?_)
    refine setX_add (s := { s' with toks := s'.toks + 1 }) hX' (by omega) fun b hp l' sb hX2 hz2 hl2 => ?_
    have hz3 : ∀ y, y ∈ l' ↔ y ∈ zs.take (i + 1) := fun y => by
      rw [hz2, List.take_add_one, hzi, List.mem_append, hz]
      show _ ↔ _ ∨ y ∈ [z]
      rw [List.mem_singleton]
    refine wpAny_pure ⟨plainId_quiet F.plain_set_update_loop _, ih (i + 1) l' _ (by omega) lt (W.frame _ s' _ _ hst' (Nat.le_succ _) fun b hb2 o e => ?_) (by omega) hz3 hX2 fun s2 l2 mv2 c2 z2 X2 => ?_⟩
    · rw [sb.2 b (fun q : b = a => hfa (by rw [← q]; exact hb2))]
      exact e
    · refine hR s2 l2 (Moved.trans W.gtrans ((mv.mono more).then_heap (Nat.le_succ _) fun b o hb2 e => ?_) mv2) c2 z2 X2
      rw [sb.2 b (fun q : b = a => hb2 (by rw [q]; exact List.mem_cons_self))]
      exact e
set_option maxRecDepth 100000 in
set_option maxHeartbeats 3200000 in
theorem setX_call {p : Addr} {items : Array Value} (zs : List Str) {Q : Value → Shared → Prop} (hh : A.handled = none) (hp : s.heap.IsList p items) (are : StrsAre items.toList zs) (hb : zs.length + 1 < scanBound)
    (fin : ∀ (hp' : Heap) (tk : Nat) (l : List Str), SetX P w hp' s.heap.objs.size l → l.length ≤ zs.length → (∀ z, z ∈ l ↔ z ∈ zs) → (∀ b o, s.heap.get? b = some o → hp'.get? b = some o) → Q (.ref s.heap.objs.size) { s with heap := hp', toks := tk }) :
    wpAny (model P w) A (call (.type "set") [.ref p]) Q E s := by
  have size : items.size = zs.length := by rw [← StrsAre.len_eq are, Array.length_toList]
  obtain ⟨c, tl, hmro⟩ := F.called_set.mro
  have hmade := F.called_set.made
  have hsub := F.called_set.sub
  refine wpAny_call (codeAny_of_tree ?_)
  show wpAny _ _ (callAny (.type "set") _) _ _ _
  refine wpAny_pure ⟨Code.quiet_builtin _ (by decide +kernel), codeAny_builtin F.entry_type_call ?_⟩
  rw [Around.under_plain (weight_type_call_type "set" [.ref p] []) rfl]
  have q1 := F.called_set.notType
  have q2 := F.called_set.canCreate
  have q3 := F.typeCall_set_1 (.ref p)
  repeat (any_goals (first | assumption | wp_step))
  refine codeAny_mono (code_set_led1 (.ref p) (E := E) (Q₁ := fun ob s1 => ob = .ref s.heap.objs.size ∧ s1 = { s with heap := s.heap.push { cls := .type "set", dict := none, data := .set #[] 0 (.fresh 0 0 (!w.params.followText "set-order")) } }) ⟨rfl, rfl⟩) fun r s1 hr => ?_
  cases r with
  | error e => exact hr
  | ok fl =>
    cases fl with
    | ret ob =>
      obtain ⟨rfl, rfl⟩ := hr
      have gS : (s.heap.push { cls := .type "set", dict := none, data := .set #[] 0 (.fresh 0 0 (!w.params.followText "set-order")) }).get? s.heap.objs.size = some { cls := .type "set", dict := none, data := .set #[] 0 (.fresh 0 0 (!w.params.followText "set-order")) } := Heap.get?_push_size _ rfl
      have tS : Shared.TypeIs { s with heap := s.heap.push { cls := .type "set", dict := none, data := .set #[] 0 (.fresh 0 0 (!w.params.followText "set-order")) } } (.ref s.heap.objs.size) "set" := ⟨_, gS, rfl⟩
      have q4 := F.called_set.init.lookup
      have q5 := F.called_set.init.bind (.ref s.heap.objs.size)
      repeat (any_goals (first | assumption | wp_step))
      refine codeAny_mono (codeAny_call_builtin (R := wants (fun r s2 => r = .none ∧ ∃ hp' tk l, s2 = { s with heap := hp', toks := tk } ∧ SetX P w hp' s.heap.objs.size l ∧ l.length ≤ zs.length ∧ (∀ z, z ∈ l ↔ z ∈ zs) ∧
          (∀ b o, s.heap.get? b = some o → hp'.get? b = some o)) E) F.called_set.init.plain F.entry_set_init (check_set_init_1 tS ?_)) fun r2 s2 hr2 => ?_
      · obtain ⟨⟨oc, od, oda, osl⟩, hol, hcl, nl, hdl⟩ := hp
        simp only at hcl hdl
        subst hcl hdl
        have hol' : (s.heap.push { cls := .type "set", dict := none, data := .set #[] 0 (.fresh 0 0 (!w.params.followText "set-order")) }).get? p = some { cls := .type "list", dict := od, data := .seq items nl, slots := osl } := Heap.get?_push_of_some _ hol
        have q6 := F.sub_list_set
        have q7 := F.sub_list_frozenset
        have q8 : (Value.type "list" == Value.type "dict") = false := by decide
        have hl1 : (s.heap.push { cls := .type "set", dict := none, data := .set #[] 0 (.fresh 0 0 (!w.params.followText "set-order")) }).IsList p items := ⟨_, hol', rfl, nl, rfl⟩
        unfold Builtin.«set.__init__» noKeywords Builtin.Frozenset.updateFrom
        generalize hPI : pyIter = PI
        wp_walk
        subst hPI
        refine wpAny_pyIter_list hl1 ?_
        refine wpAny_bind (wpAny_runValue ?_)
        have lt : p < s.heap.objs.size := Heap.lt_size hol
        have calm3 : A.in1.in1.in1.handled = none := by simp [hh]
        have neI : p ≠ (s.heap.push { cls := .type "set", dict := none, data := .set #[] 0 (.fresh 0 0 (!w.params.followText "set-order")) }).objs.size := by
          rw [Heap.size_push]
          exact Nat.ne_of_lt (Nat.lt_succ_of_lt lt)
        have notin : s.heap.objs.size ∉ [(s.heap.push { cls := .type "set", dict := none, data := .set #[] 0 (.fresh 0 0 (!w.params.followText "set-order")) }).objs.size, p] := by
          rw [Heap.size_push]
          simp only [List.mem_cons, List.mem_singleton, List.not_mem_nil, or_false, not_or]
          exact ⟨Nat.ne_of_lt (Nat.lt_succ_self _), Nat.ne_of_gt lt⟩
        have each : ∀ (i : Nat) (v : Value), items[i]? = some v → ∃ z t, zs[i]? = some z ∧ v = .str z t := fun i v hv => by
          have hi : i < zs.length := by rw [← size]; exact (Array.getElem?_eq_some_iff.mp hv).1
          obtain ⟨t, e⟩ := SS.strs_at are i v (by rw [Array.getElem?_toList]; exact hv)
          refine ⟨zs[i], t, List.getElem?_eq_getElem hi, ?_⟩
          rw [e, List.getD_eq_getElem?_getD, List.getElem?_eq_getElem hi]
          rfl
        refine setX_loop ((Walks.list calm3 _ p neI items).toS) notin zs size hb each (items.size - 0) 0 [] _ (by omega) (Nat.zero_le _) ⟨⟨_, Heap.get?_push_size _ rfl, rfl, rfl⟩, (hl1.push _)⟩ (Nat.le_refl _) (fun z => by simp) (SetX.fresh ?_) (fun s' l' mv c2 z2 X2 => ?_)
        · exact Heap.get?_push_of_some _ gS
        · obtain ⟨hp', g2, d2, tk, o2⟩ := s'
          have eg : g2 = s.gens := mv.gens
          have ed : d2 = s.drawn := mv.drawn
          have eo : o2 = s.os := mv.os
          subst eg ed eo
          show wpAny _ _ _ _ _ _
          refine wpAny_pure ?_
          show wpAny _ _ (ret Value.none) _ _ _
          rw [size] at c2
          refine wpAny_pure ⟨rfl, hp', tk, l', rfl, X2, c2, z2, fun b o e => ?_⟩
          have b0 : b < s.heap.objs.size := Heap.lt_size e
          have b2 : b ≠ (s.heap.push { cls := .type "set", dict := none, data := .set #[] 0 (.fresh 0 0 (!w.params.followText "set-order")) }).objs.size := by
            rw [Heap.size_push]
            exact Nat.ne_of_lt (Nat.lt_succ_of_lt b0)
          exact mv.heap b o (by simp only [List.mem_cons, List.mem_singleton, List.not_mem_nil, or_false, not_or]; exact ⟨Nat.ne_of_lt b0, b2⟩) (Heap.get?_push_of_some _ (Heap.get?_push_of_some _ e))
      · cases r2 with
        | error e => exact hr2
        | ok fl2 =>
          cases fl2 with
          | ret r =>
            obtain ⟨rfl, hp', tk, l', rfl, X2, c2, z2, kk⟩ := hr2
            repeat (any_goals (first | assumption | wp_step))
            exact fin _ _ _ X2 c2 z2 kk
          | _ => exact hr2.elim
    | _ => exact hr.elim
end
end Own

namespace Own
open PySem PySem.Spec PyProof.Rows L2 Evl
/-! ### sorted(set(texts)) -/
theorem perm_of {α : Type} [DecidableEq α] : ∀ (l ys : List α), l.Nodup → (∀ z, z ∈ l → z ∈ ys) → ys.length = l.length → ys.Perm l
  | [], ys, _, _, hl => by
    have e : ys = [] := List.eq_nil_of_length_eq_zero hl
    rw [e]
  | x :: r, ys, nd, sub, hl => by
    obtain ⟨n1, n2⟩ := List.nodup_cons.mp nd
    have hx := sub x List.mem_cons_self
    have p1 := List.perm_cons_erase hx
    have hl2 : (ys.erase x).length = r.length := by
      rw [List.length_erase_of_mem hx, hl]
      rfl
    have sub2 : ∀ z, z ∈ r → z ∈ ys.erase x := fun z hz => (List.mem_erase_of_ne (fun e : z = x => n1 (by rw [← e]; exact hz))).mpr (sub z (List.mem_cons_of_mem _ hz))
    exact p1.trans (List.Perm.cons x (perm_of r _ n2 sub2 hl2))
def leS (a b : Str) : Prop := ltCps b.cps.toList a.cps.toList = false
theorem rising_mem : ∀ (p : Str) (r : List Str), risingS p r = true → (∀ a b : Str, ∀ c, leS a b → leS b c → leS a c) → ∀ z ∈ r, leS p z
  | p, [], _, _, z, hz => by cases hz
  | p, x :: r, h, tr, z, hz => by
    have h : (!ltCps x.cps.toList p.cps.toList && risingS x r) = true := h
    rw [Bool.and_eq_true] at h
    have px : leS p x := by
      have q := h.1
      unfold leS
      cases c : ltCps x.cps.toList p.cps.toList with
      | false => rfl
      | true => rw [c] at q; cases q
    rcases List.mem_cons.mp hz with e | hz
    · rw [e]
      exact px
    · exact tr p x z px (rising_mem x r h.2 tr z hz)
theorem rising_tail : ∀ {p : Str} {r : List Str}, risingS p r = true → sortedS r = true
  | _, [], _ => rfl
  | p, x :: r, h => by
    have h : (!ltCps x.cps.toList p.cps.toList && risingS x r) = true := h
    rw [Bool.and_eq_true] at h
    exact h.2
theorem sorted_unique (tr : ∀ a b c : Str, leS a b → leS b c → leS a c) (an : ∀ a b : Str, leS a b → leS b a → a = b) : ∀ (xs ys : List Str), sortedS xs = true → sortedS ys = true → xs.Nodup → ys.Nodup → (∀ z, z ∈ xs ↔ z ∈ ys) → xs = ys
  | [], [], _, _, _, _, _ => rfl
  | [], y :: r, _, _, _, _, m => by cases (m y).mpr List.mem_cons_self
  | x :: r, [], _, _, _, _, m => by cases (m x).mp List.mem_cons_self
  | x :: r, y :: t, h1, h2, d1, d2, m => by
    have e : x = y := by
      rcases List.mem_cons.mp ((m x).mp List.mem_cons_self) with q | q
      · exact q
      · rcases List.mem_cons.mp ((m y).mpr List.mem_cons_self) with q2 | q2
        · exact q2.symm
        · exact an x y (rising_mem x r h1 tr y q2) (rising_mem y t h2 tr x q)
    subst e
    obtain ⟨a1, a2⟩ := List.nodup_cons.mp d1
    obtain ⟨b1, b2⟩ := List.nodup_cons.mp d2
    congr 1
    refine sorted_unique tr an r t (rising_tail h1) (rising_tail h2) a2 b2 fun z => ?_
    have q := m z
    rw [List.mem_cons, List.mem_cons] at q
    constructor
    · intro hz
      rcases q.mp (.inr hz) with e | h
      · exact absurd (e ▸ hz) a1
      · exact h
    · intro hz
      rcases q.mpr (.inr hz) with e | h
      · exact absurd (e ▸ hz) b1
      · exact h
/-- ys: the texts of zs, each once, ascending -/
structure Srt (zs ys : List Str) : Prop where
  so : sortedS ys = true
  nd : ys.Nodup
  me : ∀ z, z ∈ ys ↔ z ∈ zs
theorem leS_iff (a b : Str) : leS a b ↔ a.cps.toList ≤ b.cps.toList := by
  unfold leS
  rw [ltCps_eq, decide_eq_false_iff_not]
  exact Iff.rfl
theorem leS_tr (a b c : Str) (h1 : leS a b) (h2 : leS b c) : leS a c := (leS_iff a c).mpr (List.le_trans ((leS_iff a b).mp h1) ((leS_iff b c).mp h2))
theorem leS_an (a b : Str) (h1 : leS a b) (h2 : leS b a) : a = b := PyProof.Rows.ext_toList (List.le_antisymm ((leS_iff a b).mp h1) ((leS_iff b a).mp h2))
theorem Srt.one {zs zs' ys ys' : List Str} (h : Srt zs ys) (h' : Srt zs' ys') (m : ∀ z, z ∈ zs ↔ z ∈ zs') : ys = ys' := sorted_unique leS_tr leS_an ys ys' h.so h'.so h.nd h'.nd fun z => (h.me z).trans ((m z).trans (h'.me z).symm)
section
variable {P : Program} {w : World} {A : Around} {E : Value → Shared → Prop} {s : Shared} {a : Addr} {l : List Str}
theorem txt_el {D : Froz.SD} (F : Froz.TxOk P w D l) : ∀ e ∈ D.1.toList, ∃ k t, e.2 = Value.str k t := fun e he => by
  obtain ⟨⟨k, hk, _⟩, _⟩ := F.el e he
  have hk : Value.isStrOf k e.2 = true := hk
  cases hv : e.2 with
  | str x t => exact ⟨x, t, rfl⟩
  | _ => rw [hv] at hk; cases hk
theorem strs_of : ∀ (vs : List Value), (∀ v ∈ vs, ∃ k t, v = Value.str k t) → StrsAre vs (vs.map strOf)
  | [], _ => .nil
  | v :: r, h => by
    obtain ⟨k, t, e⟩ := h v List.mem_cons_self
    rw [e]
    exact .cons k t (strs_of r fun u hu => h u (List.mem_cons_of_mem _ hu))
theorem sortX {Q : Value → Shared → Prop} (R : SetX P w s.heap a l) (hh : A.handled = none) (hb : l.length < scanBound)
    (fin : ∀ s' p (out : Array Value) (c : Nat) (ys : List Str), (∀ b o, s.heap.get? b = some o → s'.heap.get? b = some o) → s'.gens = s.gens → s'.os = s.os → s.heap.objs.size ≤ p → s'.heap.get? p = some (seqObj "list" out c) → StrsAre out.toList ys → Srt l ys → ys.length = l.length → Q (.ref p) s') :
    wpAny (model P w) A (call (.builtin "sorted") [.ref a]) Q E s := by
  obtain ⟨D, ho, F, nd, r, ld⟩ := R
  obtain ⟨es, ep, t⟩ := D
  have ff : t.fits es.size = true := F.fit
  have fs : es.size = l.length := F.sz
  refine Calls.call_function_entry kind_sorted plain_sorted entry_sorted (args_sorted1 _) ?_
  unfold Builtin.«sorted»
  refine wpAny_bind (m := checkCount "sorted" 1 1 _) (wpAny_pure ?_)
  refine wpAny_bind (collect_set (A := A.in1) hh ⟨_, ho, rfl, rfl⟩ ff (show es.size < scanBound by omega) r ld fun sB vs kB szB gB oB pm => ?_)
  have lenV : vs.length = l.length := by rw [pm.length_eq, List.length_map, Array.length_toList, fs]
  have areV : StrsAre vs (vs.map strOf) := strs_of vs fun v hv => by
    obtain ⟨e, he, q⟩ := List.mem_map.mp (pm.mem_iff.mp hv)
    obtain ⟨k, tk, h1⟩ := txt_el F e he
    exact ⟨k, tk, by rw [← q]; exact h1⟩
  have memV : ∀ z, z ∈ vs.map strOf ↔ z ∈ l := fun z => by
    rw [F.mem z, List.mem_map]
    constructor
    · rintro ⟨v, hv, e⟩
      obtain ⟨x, hx, q⟩ := List.mem_map.mp (pm.mem_iff.mp hv)
      obtain ⟨k, tk, h1⟩ := txt_el F x hx
      have e2 : k = z := by
        rw [← e, ← q, h1]
        rfl
      exact ⟨x, hx, by rw [h1, e2]; exact Froz.is_str z tk⟩
    · rintro ⟨x, hx, q⟩
      obtain ⟨k, tk, h1⟩ := txt_el F x hx
      refine ⟨x.2, pm.mem_iff.mpr (List.mem_map.mpr ⟨x, hx, rfl⟩), ?_⟩
      rw [h1] at q ⊢
      exact (strKind P w).inj (.str k tk) k z (Froz.is_str k tk) q
  have permV : (vs.map strOf).Perm l := perm_of l (vs.map strOf) nd (fun z hz => (memV z).mpr hz) (by rw [List.length_map]; exact lenV)
  refine wpAny_bind (wpAny_newList ?_ (by rw [lenV, sizeLine_eq]; have : scanBound = 4096 := rfl; omega))
  have hoL : (sB.heap.push (seqObj "list" vs.toArray 0)).get? sB.heap.objs.size = some (seqObj "list" vs.toArray 0) := Heap.get?_push_size _ rfl
  refine wpAny_bind (wpAny_holding (wpAny_call_entry slot_list_sort ⟨_, hoL, rfl⟩ entry_list_sort (list_sort_treeKAny strKind_oneLt hoL areV.keysOf (fun v1 v2 rest e => keyKind_strs (by rw [← e]; exact areV)) (by rw [lenV, sizeLine_eq]; have : scanBound = 4096 := rfl; omega) fun st' hp hs => ⟨_, rfl, ?_⟩) (args_list_sort _)))
  obtain ⟨ys, y1, y2, y3⟩ := sorted_out_str areV hp hs
  obtain ⟨c, hc⟩ := sortedHeap_at (vs := vs) (out := (arrOf st').map (·.2)) hoL
  have py := y2.trans permV
  refine wpAny_pure ⟨_, rfl, fin _ sB.heap.objs.size _ c ys (fun b u e => ?_) gB oB szB hc y1 ⟨y3, py.nodup_iff.mpr nd, fun z => py.mem_iff⟩ py.length_eq⟩
  have q := kB b u e
  have lt := Heap.lt_size q
  show (sortedHeap (sB.heap.push (seqObj "list" vs.toArray 0)) sB.heap.objs.size vs _).get? b = some u
  rw [sortedHeap_old (Nat.ne_of_lt lt) (by rw [size_push']; exact Nat.lt_succ_of_lt lt)]
  exact Heap.get?_push_of_some _ q
end
/-- the set of texts at a, tracked -/
def SetXO (P : Program) (w : World) (a : Addr) (l : List Str) : HO := .ext fun h => SetX P w h a l
section
variable {X : Cx}
theorem setXO_new {w : World} {P : Program} {H : Hp} {h : Heap} {a : Addr} {l : List Str} (R : SetX P w h a l) : ObjOk P w H h a (SetXO P w a l) := by
  have ⟨D, ho, _⟩ := R
  exact ⟨R, ⟨_, ho⟩, fun _ _ p k => SetX.at p k⟩
def rSetX (K : PySem.W.Frag) (P : Program) (w : World) : List V → Hp → VK → Prop := fun vs H Q => ∃ (p : Addr) (zs : List Str), vs = [.ref p] ∧ SqL K H p (zs.map V.str) ∧ zs.length ≤ 4000 ∧
  ∀ (a : Addr) (l : List Str), l.length ≤ zs.length → (∀ z, z ∈ l ↔ z ∈ zs) → H a = none → Q (.ref a) (upd H a (SetXO P w a l))
theorem cr_setX (hc : X.calm = true) : CallR X (.type "set") (rSetX X.K X.prog X.w) := by
  intro pk s τ H vs us Q I r h
  obtain ⟨p, zs, rfl, hp, hl, q⟩ := h
  rw [Vals.ref1 r]
  obtain ⟨its, rv, pl, _⟩ := I.list hp
  refine setX_call zs (I.ok.hd hc) pl.isList (by simpa using rv.strs) (by have : scanBound = 4096 := rfl; omega) fun hp' tk l X2 c2 z2 kk => ?_
  exact ⟨.ref _, upd H s.heap.objs.size (SetXO X.prog X.w s.heap.objs.size l), I.laid (t' := tk) kk (Nat.le_refl _) (setXO_new X2), rfl, q _ l c2 z2 (I.hok.fresh (Nat.le_refl _))⟩
def rSortX (P : Program) (w : World) : List V → Hp → VK → Prop := fun vs H Q => ∃ (a : Addr) (l : List Str), vs = [.ref a] ∧ H a = some (SetXO P w a l) ∧ l.length ≤ 4000 ∧
  ∀ (p : Addr) (ys : List Str), Srt l ys → ys.length = l.length → H p = none → Q (.ref p) (upd H p (.lst (ys.map V.str)))
theorem cr_sortX (hc : X.calm = true) : CallR X (.builtin "sorted") (rSortX X.prog X.w) := by
  intro pk s τ H vs us Q I r h
  obtain ⟨a, l, rfl, ha, hl, q⟩ := h
  have R : SetX X.prog X.w s.heap a l := (I.hok a _ ha).1
  rw [Vals.ref1 r]
  refine sortX R (I.ok.hd hc) (by have : scanBound = 4096 := rfl; omega) fun s' p out c ys k g o hp hg are so len => ?_
  have hlen : (ys.map V.str).length ≤ sizeLine := by rw [List.length_map, len, sizeLine_eq]; omega
  have hn : H p = none := I.hok.fresh hp
  have J : Inv X pk τ (upd H p (.lst (ys.map V.str))) { s with heap := s'.heap, gens := s'.gens, drawn := s'.drawn, toks := s'.toks } :=
    I.call (ch := []) (Un.laid k hp hn) (I.hok.laid k hp ⟨hlen, out.toList, c, vals_of_strs are, hg⟩) (by rw [g]; exact I.bare) (fun _ z => nomatch z)
  have e : s' = { s with heap := s'.heap, gens := s'.gens, drawn := s'.drawn, toks := s'.toks } := by
    cases s'
    cases s
    cases o
    rfl
  rw [e]
  exact ⟨.ref p, _, J, rfl, q p ys so len hn⟩
end
end Own

namespace Own
open PySem PySem.Spec PyProof.Rows L2 Evl
/-! ### sum(lists, []) -/
section
variable {P : Program} {w : World} {A : Around} {E : Value → Shared → Prop} {s : Shared}
/-- the lists ys at as -/
def LsAt (h : Heap) (as : List Addr) (xs : List (List Value)) : Prop := ∀ (j : Nat) (a : Addr), as[j]? = some a → ∃ (ys : List Value) (n : Nat), xs[j]? = some ys ∧ PySem.IsL h a ys.toArray n
theorem sumL_loop {it S : Addr} {fa wa : List Addr} {G : Array GenState → Array GenState → Prop} {n : Nat} {Pv : Nat → Value → Prop} {St : Nat → Shared → Prop} {R : Result → Shared → Prop}
    (W : WalksS P w A.in1 it fa wa G n Pv St) (hSf : S ∉ fa) (as : List Addr) (xs : List (List Value)) (hn : n = as.length) (hx : as.length = xs.length) (hv : ∀ i v, Pv i v → ∃ a, as[i]? = some a ∧ v = .ref a) (hz : xs.flatten.length ≤ sizeLine) (lowA : ∀ a ∈ as, a ≠ S ∧ a ∉ wa) (hex : ∀ i s, St i s → ∀ b ∈ wa, b < s.heap.objs.size) (e0 : Addr) (bs : Nat) (hbs : ∃ b ∈ wa, bs ≤ b) :
    ∀ (m i : Nat) (s : Shared) (acc : Addr) (c k : Nat), n - i = m → i ≤ n → St i s → s.heap.get? S = some { cls := .type "list", dict := none, data := .seq #[.ref acc] c, slots := #[] } → acc ≠ S → acc ∉ wa → (acc = e0 ∨ bs ≤ acc) →
      PySem.IsL s.heap acc (xs.take i).flatten.toArray k → LsAt s.heap as xs →
      (∀ s' p c', Moved (S :: wa) G s s' → PySem.IsL s'.heap p xs.flatten.toArray c' → (p = e0 ∨ bs ≤ p) → R (.ok (.ret (.ref p))) s') →
      codeAny (model P w) A (.builtin "sum.loop" ⟨[.ref it, .ref S, rawInt 2, rawInt 0], []⟩) R s := by
  have hSw : S ∉ wa := fun q => hSf (W.sub _ q)
  have more : ∀ b ∈ wa, b ∈ S :: wa := fun b q => List.mem_cons_of_mem _ q
  intro m
  induction m with
  | zero =>
    intro i s acc c k hm hi hst hS nS nw lo hacc hls hR
    have ei : i = n := by omega
    subst ei
    refine codeAny_builtin F.entry_sum_loop ?_
    rw [Around.under_plainId F.plain_sum_loop _]
    show wpAny _ A.in1 (seqItems? (.ref S) >>= _) _ _ s
    refine wpAny_bind (wpAny_seqItems hS rfl ?_)
    show wpAny _ A.in1 (tryCatch (pyNext (.ref it)) _ >>= _) _ _ s
    refine wpAny_bind (wpAny_tryCatch (W.done s _ _ hst fun s' mv => ?_))
    rw [List.take_of_length_le (by omega)] at hacc
    exact wpAny_pure (hR s' acc k (mv.mono more) (mv.heap acc _ nw hacc) lo)
  | succ m ih =>
    intro i s acc c k hm hi hst hS nS nw lo hacc hls hR
    have lt : i < n := by omega
    refine codeAny_builtin F.entry_sum_loop ?_
    rw [Around.under_plainId F.plain_sum_loop _]
    show wpAny _ A.in1 (seqItems? (.ref S) >>= _) _ _ s
    refine wpAny_bind (wpAny_seqItems hS rfl ?_)
    show wpAny _ A.in1 (tryCatch (pyNext (.ref it)) _ >>= _) _ _ s
    refine wpAny_bind (wpAny_tryCatch (W.item i s _ _ lt hst fun v s' pv hst' mv => ?_))
    obtain ⟨a, hai, rfl⟩ := hv i v pv
    obtain ⟨a1, a2⟩ := lowA a (List.mem_of_getElem? hai)
    obtain ⟨ys, ka, hys, hla⟩ := hls i a hai
    have hS' := mv.heap S _ hSw hS
    have hacc' := mv.heap acc _ nw hacc
    have hla' := mv.heap a _ a2 hla
    have tk : (xs.take (i + 1)).flatten = (xs.take i).flatten ++ ys := by
      rw [List.take_add_one, hys, List.flatten_append]
      show _ ++ (ys ++ []) = _
      rw [List.append_nil]
    have small : (xs.take i).flatten.length + ys.length ≤ sizeLine := by
      have q : (xs.take (i + 1)).flatten.length ≤ xs.flatten.length := by
        have z := congrArg (fun l => (List.flatten l).length) (List.take_append_drop (i + 1) xs)
        have z : ((xs.take (i + 1) ++ xs.drop (i + 1)).flatten).length = xs.flatten.length := z
        rw [List.flatten_append, List.length_append] at z
        omega
      rw [tk, List.length_append] at q
      omega
    show wpAny _ A.in1 ((holding [Value.ref a] (binaryOp .Add (.ref acc) (.ref a))).attempt >>= _) _ _ _
    refine wpAny_bind (wpAny_attempt (wpAny_holding (PySem.P.add_list hacc' hla' ?_ (by rw [List.size_toArray, List.size_toArray]; exact small))))
    generalize hnew : s'.heap.objs.size = p
    generalize hh2 : s'.heap.push { cls := .type "list", data := .seq ((xs.take i).flatten.toArray ++ ys.toArray) } = h2
    have k2 : ∀ b o, s'.heap.get? b = some o → h2.get? b = some o := fun b o e => by rw [← hh2]; exact Heap.get?_push_of_some _ e
    have hp2 : PySem.IsL h2 p (xs.take (i + 1)).flatten.toArray 0 := by
      rw [← hh2, ← hnew, tk]
      have e : (xs.take i).flatten.toArray ++ ys.toArray = ((xs.take i).flatten ++ ys).toArray := by simp
      rw [e]
      exact Heap.get?_push_size _ rfl
    have hS2 := k2 _ _ hS'
    have nSp : p ≠ S := by rw [← hnew]; exact Nat.ne_of_gt (Heap.lt_size hS')
    have npw : p ∉ wa := fun q => by
      have z := hex _ _ hst' p q
      rw [hnew] at z
      exact Nat.lt_irrefl _ z
    have lop : bs ≤ p := by
      obtain ⟨b, hb, hle⟩ := hbs
      have z := hex _ _ hst' b hb
      rw [hnew] at z
      exact Nat.le_of_lt (Nat.lt_of_le_of_lt hle z)
    show wpAny _ A.in1 (updateSeq S (fun _ => #[.ref p]) >>= _) _ _ _
    refine wpAny_bind (wpAny_updateSeq hS2 rfl ?_)
    have hS3 := Heap.get?_update_self (Obj.mapSeq fun _ => #[Value.ref p]) hS2 rfl
    refine wpAny_bind (wpAny_letGo ?_)
    have oth : ∀ b o, b ≠ S → h2.get? b = some o → ((h2.update S (Obj.mapSeq fun _ => #[Value.ref p])).update S (Obj.mapSeq fun _ => #[Value.ref p])).get? b = some o := fun b o nb e => (Heap.get?_update_other _ _ (Ne.symm nb)).trans ((Heap.get?_update_other _ _ (Ne.symm nb)).trans e)
    refine wpAny_bind (wpAny_updateSeq hS3 rfl (wpAny_pure ⟨plainId_quiet F.plain_sum_loop _, ih (i + 1) _ p _ 0 (by omega) lt (W.frame _ s' _ _ hst' (Nat.le_refl _) fun b hb o e => ?_) (Heap.get?_update_self _ hS3 rfl) nSp npw (.inr lop) (oth _ _ nSp hp2) (fun j b hj => ?_) fun s2 q c' mv2 X2 lo2 => ?_⟩))
    · exact oth b o (fun q : b = S => hSf (by rw [← q]; exact hb)) (k2 b o e)
    · obtain ⟨zs, kz, h1, h3⟩ := hls j b hj
      obtain ⟨b1, b2⟩ := lowA b (List.mem_of_getElem? hj)
      exact ⟨zs, kz, h1, oth b _ b1 (k2 _ _ (mv.heap b _ b2 h3))⟩
    · refine hR s2 q c' (Moved.trans W.gtrans ((mv.mono more).then_heap (Nat.le_refl _) fun b o hb e => ?_) mv2) X2 lo2
      exact oth b o (fun q : b = S => hb (by rw [q]; exact List.mem_cons_self)) (k2 b o e)
theorem sumL_call {l e0 : Addr} {as : List Addr} {xs : List (List Value)} {Q : Value → Shared → Prop} (hh : A.handled = none) (hl : s.heap.IsList l (as.map Value.ref).toArray) (he : PySem.IsL s.heap e0 #[] 0 ∨ ∃ k, PySem.IsL s.heap e0 #[] k) (hx : as.length = xs.length) (hls : LsAt s.heap as xs) (hz : xs.flatten.length ≤ sizeLine)
    (fin : ∀ h' tk p c, (∀ b o, s.heap.get? b = some o → h'.get? b = some o) → PySem.IsL h' p xs.flatten.toArray c → (p = e0 ∨ s.heap.objs.size ≤ p) → Q (.ref p) { s with heap := h', toks := tk }) : wpAny (model P w) A (call (.builtin "sum") [.ref l, .ref e0]) Q E s := by
  obtain ⟨ke, he⟩ : ∃ k, PySem.IsL s.heap e0 #[] k := he.elim (fun z => ⟨0, z⟩) id
  refine call_function_tree F.kind_sum F.plain_sum F.entry_sum (by unfold argsOk; kernel_rfl) ?_
  unfold Builtin.«sum»
  simp only [List.length_cons, List.length_nil]
  rw [if_neg (by decide)]
  refine wpAny_bind (wpAny_of_eq (show Builtin.Builtins.bindParams "sum" ["start"] 0 ⟨[.ref e0], []⟩ = pure [some (.ref e0)] from rfl) ?_)
  obtain ⟨⟨oc, od, oda, osl⟩, hol, hcl, nl, hdl⟩ := id hl
  have lt : l < s.heap.objs.size := Heap.lt_size hol
  refine wpAny_bind (wpAny_pyIter_list hl ?_)
  generalize hB : s.heap.push { cls := .type "list_iterator", data := .fields #[.ref l, .int 0 0] } = hpB
  have kB : ∀ b o, s.heap.get? b = some o → hpB.get? b = some o := fun b o e => by rw [← hB]; exact Heap.get?_push_of_some _ e
  have heB := kB _ _ he
  have tyB : Shared.TypeIs { s with heap := hpB } (.ref e0) "list" := ⟨_, heB, rfl⟩
  refine wpAny_bind (wpAny_pure ?_)
  simp only [List.forIn_cons, List.forIn_nil]
  refine wpAny_bind (wpAny_bind (wpAny_bind (wpAny_isInstance (T := "list") (b := false) tyB F.sub_list_str ?_)))
  simp only [Bool.false_eq_true, if_false]
  refine wpAny_pure (wpAny_bind (wpAny_bind (wpAny_isInstance (T := "list") (b := false) tyB F.sub_list_bytes ?_)))
  simp only [Bool.false_eq_true, if_false]
  refine wpAny_pure (wpAny_bind (wpAny_bind (wpAny_isInstance (T := "list") (b := false) tyB (by rw [isSubtype_type]; kernel_rfl) ?_)))
  simp only [Bool.false_eq_true, if_false]
  refine wpAny_pure (wpAny_pure ?_)
  refine wpAny_bind (wpAny_newObj_type ?_)
  have hI : hpB.get? s.heap.objs.size = some { cls := .type "list_iterator", data := .fields #[.ref l, .int 0 0] } := by rw [← hB]; exact Heap.get?_push_size _ rfl
  have szB : hpB.objs.size = s.heap.objs.size + 1 := by rw [← hB]; exact Heap.size_push ..
  have calm : A.in1.handled = none := by simp [hh]
  have neI : l ≠ s.heap.objs.size := Nat.ne_of_lt lt
  have W := (Walks.list (prog := P) (w := w) calm s.heap.objs.size l neI (as.map Value.ref).toArray).toS
  have nl0 : ∀ b o, s.heap.get? b = some o → b ≠ s.heap.objs.size ∧ b ≠ hpB.objs.size := fun b o e => by
    have z := Heap.lt_size e
    rw [szB]
    exact ⟨Nat.ne_of_lt z, Nat.ne_of_lt (Nat.lt_succ_of_lt z)⟩
  have st0 := W.frame 0 { s with heap := hpB } (hpB.push { cls := .type "list", data := .seq #[Value.ref e0] }) s.toks ⟨⟨_, hI, rfl, rfl⟩, ⟨_, kB _ _ hol, hcl, nl, hdl⟩⟩ (Nat.le_refl _) fun b _ o e => Heap.get?_push_of_some _ e
  refine wpAny_pure ⟨plainId_quiet F.plain_sum_loop _, sumL_loop W (S := hpB.objs.size) ?_ as xs (by simp) hx (fun i v hv => ?_) hz (fun a ha => ?_) (fun i s2 hst b hb => ?_) e0 s.heap.objs.size ⟨_, List.mem_singleton.mpr rfl, Nat.le_refl _⟩ (as.map Value.ref).toArray.size 0 _ e0 0 ke (by omega) (Nat.zero_le _) st0 (Heap.get?_push_size _ rfl) (nl0 _ _ he).2 ?_ (.inl rfl) (Heap.get?_push_of_some _ heB) (fun j a hj => ?_) (fun s' p c' mv X2 lo2 => ?_)⟩
  · rw [szB]
    simp only [List.mem_cons, List.not_mem_nil, or_false, not_or]
    exact ⟨Nat.ne_of_gt (Nat.lt_succ_self _), Nat.ne_of_gt (Nat.lt_succ_of_lt lt)⟩
  · have hv : (as.map Value.ref).toArray[i]? = some v := hv
    rw [List.getElem?_toArray, List.getElem?_map] at hv
    cases ha : as[i]? with
    | none => rw [ha] at hv; cases hv
    | some a => rw [ha] at hv; cases hv; exact ⟨a, rfl, rfl⟩
  · obtain ⟨j, hj⟩ := List.mem_iff_getElem?.mp ha
    obtain ⟨ys, n, _, hla⟩ := hls j a hj
    obtain ⟨z1, z2⟩ := nl0 _ _ hla
    exact ⟨z2, fun q => z1 (List.mem_singleton.mp q)⟩
  · obtain ⟨⟨o, ho, _⟩, _⟩ := hst
    rw [List.mem_singleton.mp hb]
    exact Heap.lt_size ho
  · exact fun q => (nl0 _ _ he).1 (List.mem_singleton.mp q)
  · obtain ⟨ys, n, h1, h2⟩ := hls j a hj
    exact ⟨ys, n, h1, Heap.get?_push_of_some _ (kB _ _ h2)⟩
  · obtain ⟨h', g2, d2, tk, o2⟩ := s'
    have eg : g2 = s.gens := mv.gens
    have ed : d2 = s.drawn := mv.drawn
    have eo : o2 = s.os := mv.os
    subst eg ed eo
    refine fin h' tk p c' (fun b o e => mv.heap b o ?_ (Heap.get?_push_of_some _ (kB _ _ e))) X2 lo2
    obtain ⟨z1, z2⟩ := nl0 _ _ e
    simp only [List.mem_cons, List.not_mem_nil, or_false, not_or]
    exact ⟨z2, z1⟩
end
section
variable {X : Cx}
theorem ls_of {pk : List (Addr × Obj)} {τ : L2.St} {H : Hp} {s : Shared} (I : Inv X pk τ H s) : ∀ {as : List Addr} {yss : List (List V)}, Paired (fun a ys => H a = some (.lst ys)) as yss → ∃ xs : List (List Value), as.length = xs.length ∧ LsAt s.heap as xs ∧ Vals yss.flatten xs.flatten
  | _, _, .nil => ⟨[], rfl, (by intro j a h; cases h), Paired.nil⟩
  | _, _, .cons (a := a) (b := ys) h t => by
    obtain ⟨xs, e1, e2, e3⟩ := ls_of I t
    obtain ⟨_, its, n, r, _, e⟩ := I.lstM h
    refine ⟨its :: xs, by rw [List.length_cons, List.length_cons, e1], fun j b hj => ?_, r.append e3⟩
    cases j with
    | zero => cases hj; exact ⟨its, n, rfl, e⟩
    | succ j => exact e2 j b hj
theorem refs_eq : ∀ {as : List Addr} {us : List Value}, Vals (as.map V.ref) us → us = as.map Value.ref
  | [], _, h => by cases h; rfl
  | a :: r, _, h => by
    cases h with
    | cons h t =>
      cases h
      rw [refs_eq t]
      rfl
def rSumL (K : PySem.W.Frag) : List V → Hp → VK → Prop := fun vs H Q => ∃ (l e0 : Addr) (as : List Addr) (yss : List (List V)), vs = [.ref l, .ref e0] ∧ SqL K H l (as.map V.ref) ∧ H e0 = some (.lst []) ∧ Paired (fun a ys => H a = some (.lst ys)) as yss ∧ yss.flatten.length ≤ sizeLine ∧
  ∀ p H', Ex H H' → H' p = some (.lst yss.flatten) → Q (.ref p) H'
theorem cr_sumL (hc : X.calm = true) : CallR X (.builtin "sum") (rSumL X.K) := by
  intro pk s τ H vs us Q I r h
  obtain ⟨l, e0, as, yss, rfl, hl, he, hp, hz, q⟩ := h
  cases r with
  | cons r1 r2 =>
    cases r2 with
    | cons r3 r4 =>
      cases r4
      cases r1
      cases r3
      obtain ⟨its, rv, pl, _⟩ := I.list hl
      obtain ⟨_, ie, ne, re, _, ee⟩ := I.lstM he
      cases re
      obtain ⟨xs, e1, e2, e3⟩ := ls_of I hp
      rw [refs_eq rv] at pl
      have hlen := e3.length
      refine sumL_call (I.ok.hd hc) pl.isList (.inr ⟨ne, ee⟩) e1 e2 (by omega) fun h' tk p c kk X2 lo => ?_
      rcases lo with rfl | lo
      · have z := kk _ _ ee
        have X2 : h'.get? p = some { cls := .type "list", dict := none, data := .seq xs.flatten.toArray c, slots := #[] } := X2
        rw [z] at X2
        have z2 : xs.flatten = [] := by
          have q2 := Option.some.inj X2
          injection q2 with _ _ q3 _
          injection q3 with q4 _
          have q5 := congrArg Array.toList q4
          simpa using q5.symm
        have z3 : yss.flatten = [] := by
          rw [z2] at e3
          cases hy : yss.flatten with
          | nil => rfl
          | cons _ _ => rw [hy] at e3; cases e3
        refine ⟨.ref p, H, I.kept (t' := tk) kk, rfl, q p H (Ex.refl _) ?_⟩
        rw [z3]
        exact he
      · have hn : H p = none := I.hok.fresh lo
        exact ⟨.ref p, upd H p (.lst yss.flatten), I.laid (t' := tk) kk lo ⟨hz, xs.flatten, c, e3, X2⟩, rfl, q p _ (Ex.new hn) upd_same⟩
end
end Own

namespace Own
open PySem PySem.Spec PyProof.Rows L2 Evl
/-! ### len of an object with an own __len__; pairs of the very same things -/
section
variable {X : Cx} {pk : List (Addr × Obj)} {τ : L2.St} {H : Hp} {s : Shared} {k j : Nat} {sp : Sp} {f C : Addr} {fd : FuncData} {ps : List Str} {Z : VK} {us : List Value} {vs : List V}
theorem run_fnG1 (F : FnG X.prog X.w X.K X.mg X.base k f fd ps sp) (hr : Room k X.A.in1) (hg : X.A.guards = some []) (hbd : Binds X.K fd ps [])
    (I : Inv X pk τ H s) (r : Vals vs us) (h : sp vs H Z E0) : wpAny (model X.prog X.w) X.A.in1 (call (.ref f) us) (EP X pk τ Z) X.xe s := by
  have hlen : us.length = ps.length := by rw [← r.length]; exact F.len _ _ _ _ h
  have e1 : us ++ [] = us := List.append_nil us
  refine wpAny_call (codeAny_mono (F.run X.A.in1 X.stack s H ⟨us, []⟩ us vs Z E0 hr hg I.env0.in1 (by have q := hbd s us I.kIn (by rw [e1]; exact hlen); rw [e1] at q; exact q) r h) fun r s' hsq => ?_)
  cases r with
  | error e => exact (show False from hsq).elim
  | ok fl =>
    cases fl with
    | ret u => exact I.after hsq
    | next => exact False.elim hsq
    | brk => exact False.elim hsq
    | cont => exact False.elim hsq
end
def rLenO (K : PySem.W.Frag) (C : Addr) (sp : Sp) : List V → Hp → VK → Prop := fun xs H Q => ∃ (a d : Addr) (fs : List (Str × V)), xs = [.ref a] ∧ H a = some (.ins C d fs) ∧ sp [.ref a] H (fun v H' => (∃ n : Nat, v = .int n ∧ n < 1000000) ∧ Q v H') E0
theorem callLenO {X : Cx} {k j : Nat} {C : Addr} {sp : Sp} (c : MetG X.prog X.w X.K X.mg X.base k C "__len__" sp) (hr : Room j X.A) (hg0 : X.A.guards = some []) (hkp : k + 1 ≤ j) : CallR X (.builtin "len") (rLenO X.K C sp) := by
  intro pins s σ H xs us Q I r hq
  obtain ⟨f, fd, ps, F, M, b⟩ := c.ex
  obtain ⟨a, d, fs, rfl, ha, q⟩ := hq
  rw [Vals.ref1 r]
  obtain ⟨mA, J, _⟩ := ins_get I.hok ha
  obtain ⟨od, J, _⟩ := J.look
  obtain ⟨m, hF⟩ := I.fr
  have hr1 : Room k X.A.in1 := (show Room (k + 1) X.A from hr.mono hkp).in1
  refine PySem.W.len_K hF I.ok.mod.kin J M.at_ M.fn ?_
  refine wpAny_mono (run_fnG1 (us := [.ref a]) (vs := [.ref a]) F hr1 hg0 b I (.cons rfl .nil) q) (fun w s' z => ?_) (fun _ _ e => e)
  obtain ⟨z, H', I', rz, ⟨n, en, hn⟩, q'⟩ := z
  subst en
  obtain ⟨t, rfl⟩ := rz
  exact ⟨⟨by omega, by omega⟩, .int n, H', I'.tok _, ⟨_, rfl⟩, q'⟩
/-- pairs whose first are one text, whose second one thing -/
def rEqP (K : PySem.W.Frag) : R2 := fun x y H Q => ∃ (a b : Addr) (xs : List V), x = .ref a ∧ y = .ref b ∧ SqT K H a xs ∧ SqT K H b xs ∧ xs.all plV = true ∧ Q (.bl true) H
theorem op_eqP {X : Cx} (hu : X.A.units + 64 < cLine) : OpR X (compareOp .Eq) (rEqP X.K) := by
  intro pk s τ H x y v u Q I rx ry h
  obtain ⟨a, b, xs, rfl, rfl, ha, hb, hpl, q⟩ := h
  cases rx
  cases ry
  obtain ⟨ua, ra, la, _⟩ := I.tuple ha
  obtain ⟨ub, rb, lb, _⟩ := I.tuple hb
  have hsz : ua.toArray.size = ub.toArray.size := by rw [List.size_toArray, List.size_toArray, ← ra.length, ← rb.length]
  refine PySem.W.eq_tuplesT (n := 0) (e := fun _ => true) la lb (fun j h1 h2 => ?_) (by omega) ⟨.bl true, H, I, ?_, q⟩
  · have hj : j < xs.length := by rw [ra.length]; simpa using h1
    obtain ⟨u1, e1, r1⟩ := ra.get (x := xs[j]) (List.getElem?_eq_getElem hj)
    obtain ⟨u2, e2, r2⟩ := rb.get (x := xs[j]) (List.getElem?_eq_getElem hj)
    have p1 : ua.toArray[j] = u1 := by
      have z : ua[j]? = some (ua.toArray[j]) := by simp
      rw [z] at e1
      exact Option.some.inj e1
    have p2 : ub.toArray[j] = u2 := by
      have z : ub[j]? = some (ub.toArray[j]) := by simp
      rw [z] at e2
      exact Option.some.inj e2
    rw [p1, p2]
    exact same_at (List.all_eq_true.mp hpl _ (List.getElem_mem hj)) r1 r2
  · show Value.bool _ = Value.bool true
    congr 1
    rw [hsz, beq_self_eq_true, Bool.and_true]
    exact List.all_eq_true.mpr fun _ _ => rfl
def rEqX (K : PySem.W.Frag) : R2 := fun x y H Z => rEqA K x y H Z ∨ rEqP K x y H Z
theorem opEqX {X : Cx} {k : Nat} (hr : Room k X.A) : OpR X (compareOp .Eq) (rEqX X.K) := OpR.or (opEq hr) (op_eqP hr.units)
end Own

namespace Own
open PySem PySem.Spec PyProof.Rows L2 Evl
/-! ### a tuple beside a dict; x in o by an own __contains__ -/
theorem tup_no_dict (l b : Addr) (items : Array Value) (n : Nat) (dd dd2 : Option Addr) (dt : Data) (sl sl2 : Array (Option Value)) :
    Meets (Builtin.«tuple.__eq__» ⟨[.ref l, .ref b], []⟩) (fun _ R s => s.heap.get? l = some { cls := .type "tuple", dict := dd, data := .seq items n, slots := sl } ∧ s.heap.get? b = some { cls := .type "dict", dict := dd2, data := dt, slots := sl2 } ∧ R (.ok (.ret .notImplemented)) s) :=
  .of_wp fun prog w A R s h => by obtain ⟨hp, g, d, tk, os⟩ := s; obtain ⟨hl, hb, h⟩ := h; have f1 := PySem.F.sub_dict_tuple; wp_walk using PySem.AutoSeq1.wpAny_loadPart' hl, PySem.AutoSeq1.wpAny_loadPart' hb; exact ⟨_, rfl, h⟩
theorem dict_no_tup (l b : Addr) (items : Array Value) (n : Nat) (dd dd2 : Option Addr) (dt : Data) (sl sl2 : Array (Option Value)) :
    Meets (Builtin.«dict.__eq__» ⟨[.ref b, .ref l], []⟩) (fun _ R s => s.heap.get? l = some { cls := .type "tuple", dict := dd, data := .seq items n, slots := sl } ∧ s.heap.get? b = some { cls := .type "dict", dict := dd2, data := dt, slots := sl2 } ∧ R (.ok (.ret .notImplemented)) s) :=
  .of_wp fun prog w A R s h => by obtain ⟨hp, g, d, tk, os⟩ := s; obtain ⟨hl, hb, h⟩ := h; have f1 := PySem.F.sub_tuple_dict; wp_walk using PySem.AutoSeq1.wpAny_loadPart' hl, PySem.AutoSeq1.wpAny_loadPart' hb; exact ⟨_, rfl, h⟩
section
variable {A : Around} {s : Shared}
theorem rc_tup_dict {l b : Addr} {items : Array Value} (hl : s.heap.IsTuple l items) (hb : s.TypeIs (.ref b) "dict") (hu : A.units < cLine) : PySem.SeqAt.RcAt A s (.ref l) (.ref b) false ∧ l ≠ b := by
  obtain ⟨⟨cls, dd, data, sl⟩, ho, hc, n, hd⟩ := id hl
  obtain ⟨⟨cls2, dd2, data2, sl2⟩, ho2, hc2⟩ := id hb
  simp only at hc hd hc2
  subst hc hd hc2
  have hne : l ≠ b := fun e => by
    rw [e, ho2] at ho
    have z := congrArg Obj.cls (Option.some.inj ho)
    simp at z
  refine ⟨fun prog w E Q h => ?_, hne⟩
  exact (PySem.SeqAt.rc_eq_decline_or (k := false) ⟨_, ho, rfl⟩ ⟨_, ho2, rfl⟩ (by decide) PySem.F.sub_dict_tuple PySem.F.slot_tuple_eq PySem.F.slot_dict_eq_refl
    (fun _ hq => call_meets PySem.F.slot_tuple_eq ⟨_, ho, rfl⟩ PySem.F.entry_tuple_eq (PySem.F.args_tuple_eq_2 _ _) (tup_no_dict l b items n dd dd2 data2 sl sl2) ⟨ho, ho2, hq⟩)
    (fun _ hq => call_meets PySem.F.slot_dict_eq_refl ⟨_, ho2, rfl⟩ PySem.F.entry_dict_eq (PySem.F.args_dict_eq_2 _ _) (dict_no_tup l b items n dd dd2 data2 sl sl2) ⟨ho, ho2, hq⟩)
    (fun _ hq => PySem.SeqAt.wpAny_isSame_ref_other' hne ho ho2 (by simp) hq) (.inr hu) h)
theorem eq_tup_dict {l b : Addr} {items : Array Value} (hl : s.heap.IsTuple l items) (hb : s.TypeIs (.ref b) "dict") (hu : A.units < cLine) : PySem.SeqAt.EqAt A s (.ref l) (.ref b) false := .of_refs (rc_tup_dict hl hb hu).2 (rc_tup_dict hl hb hu).1
end
theorem vals_mem : ∀ {xs : List V} {us : List Value} {u : Value}, Vals xs us → u ∈ us → ∃ x ∈ xs, RelV x u
  | _, _, _, .nil, h => by cases h
  | _, _, _, .cons r rs, h => by
    rcases List.mem_cons.mp h with rfl | h
    · exact ⟨_, List.mem_cons_self, r⟩
    · obtain ⟨x, hx, rx⟩ := vals_mem rs h
      exact ⟨x, List.mem_cons_of_mem _ hx, rx⟩
/-- a dict is in no list of tuples -/
def rInN (K : PySem.W.Frag) : R2 := fun x y H Q => ∃ (b L : Addr) (kvs : List (Key × V)) (us : List V), x = .ref b ∧ H b = some (.dK kvs) ∧ y = .ref L ∧ SqL K H L us ∧ (∀ u ∈ us, ∃ t xs, u = .ref t ∧ SqT K H t xs) ∧ Q (.bl false) H
theorem op_inN {X : Cx} (hu : X.A.units + 64 < cLine) : OpR X (compareOp .In) (rInN X.K) := by
  intro pk s τ H x y v u Q I rx ry h
  obtain ⟨b, L, kvs, us, rfl, hb, rfl, hL, hus, q⟩ := h
  cases rx
  cases ry
  obtain ⟨its, r, hl, _⟩ := I.list hL
  have hd : s.TypeIs (.ref b) "dict" := by
    obtain ⟨_, _, vs, _, dd⟩ := dk_rd I.hok (.inl hb)
    exact dd.typeIs
  refine PySem.SeqAt.in_listAt (fun _ => false) hl.isList (fun y hy => ?_) ⟨.bl false, H, I, ?_, q⟩
  · have hy : y ∈ its := by simpa using hy
    obtain ⟨u, hu1, ru⟩ := vals_mem r hy
    obtain ⟨t, xs, rfl, ht⟩ := hus u hu1
    cases ru
    obtain ⟨ts, _, tp, _⟩ := I.tuple ht
    exact eq_tup_dict tp hd (by show X.A.units + 1 < cLine; omega)
  · show Value.bool _ = Value.bool false
    congr 1
    simp
/-- x in o, by o's own __contains__ -/
def rInO (K : PySem.W.Frag) (C : Addr) (sp : Sp) : R2 := fun x y H Q => ∃ (a d : Addr) (fs : List (Str × V)), y = .ref a ∧ H a = some (.ins C d fs) ∧ sp [.ref a, x] H (fun v H' => (∃ b, v = .bl b) ∧ Q v H') E0
theorem op_inO {X : Cx} {k j : Nat} {C : Addr} {sp : Sp} (c : MetG X.prog X.w X.K X.mg X.base k C "__contains__" sp) (hr : Room j X.A) (hg0 : X.A.guards = some []) (hkp : k ≤ j) : OpR X (compareOp .In) (rInO X.K C sp) := by
  intro pins s σ H x y u v Q I rx ry hq
  obtain ⟨f, fd, ps, F, M, b⟩ := c.ex
  obtain ⟨a, d, fs, rfl, ha, q⟩ := hq
  cases ry
  obtain ⟨mA, J, _⟩ := ins_get I.hok ha
  obtain ⟨od, J, _⟩ := J.look
  obtain ⟨m, hF⟩ := I.fr
  refine PySem.W.in_K hF I.ok.mod.kin J M.at_ M.fn ?_
  refine wpAny_mono (run_fnG (us := [.ref a, u]) (vs := [.ref a, x]) F (hr.mono hkp) hg0 b I (.cons rfl (.cons rx .nil)) q) (fun w s' z => ?_) (fun _ _ e => e)
  obtain ⟨z, H', I', rz, ⟨bb, eb⟩, q'⟩ := z
  subst eb
  cases rz
  exact wpAny_truthy_bool ⟨.bl bb, H', I', rfl, q'⟩
end Own

namespace Own
open PySem PySem.Spec PyProof.Rows L2 Evl
def top (i : Nat) : Stmt := PySem.Challenge.pw_scriptpicks_k20_starts_told.main.body.getD i (.Pass ⟨0, 0, 0, 0⟩)
/-- all but b stands -/
def ExB (b : Addr) (H H' : Hp) : Prop := ∀ a o, a ≠ b → H a = some o → H' a = some o
theorem ExB.refl (b : Addr) (H : Hp) : ExB b H H := fun _ _ _ h => h
theorem ExB.set {b : Addr} {H H' : Hp} {o : HO} (e : ExB b H H') : ExB b H (upd H' b o) := fun a u n h => by
  rw [upd_ne n]
  exact e a u n h
theorem ExB.new {b p : Addr} {H H' : Hp} {o : HO} (e : ExB b H H') (hp : H' p = none) : ExB b H (upd H' p o) := fun a u n h => by
  have q := e a u n h
  rw [upd_ne (ne_of_none q hp)]
  exact q
theorem ints_ne4 {ns : List Int} {i j k : Int} {c : Addr} (z : HO.lst (ns.map V.int) = .lst [.int i, .int j, .int k, .ref c]) : False := by
  have z2 : ns.map V.int = [.int i, .int j, .int k, .ref c] := by injection z
  match ns, z2 with
  | [], z2 => cases z2
  | [_], z2 => cases z2
  | [_, _], z2 => cases z2
  | [_, _, _], z2 => cases z2
  | _ :: _ :: _ :: _ :: _, z2 =>
    simp only [List.map_cons] at z2
    injection z2 with _ z2
    injection z2 with _ z2
    injection z2 with _ z2
    injection z2 with z2 _
    cases z2
theorem first_int (ns : List Int) (lo hi : Option Int) : ∃ z, atI (cutV (ns.map V.int) lo hi ++ [V.int 0]) 0 = some (V.int z) := by
  unfold cutV
  rw [← List.map_drop, ← List.map_take]
  generalize (List.take _ (List.drop _ ns)) = l
  cases l with
  | nil => exact ⟨0, rfl⟩
  | cons a r => exact ⟨a, atI_nat (j := 0) rfl⟩
theorem genB {H H3 H4 : Hp} {b : Addr} {o : HO} (hq : upd H3 b o = H4) (e : ExB b H H3) : ExB b H H4 ∧ H4 b = some o := by
  subst hq
  exact ⟨e.set, upd_same⟩
structure Txt0 (mg : Str → Option Value) : Prop where
  abs : mg "abs" = none
  int : mg "int" = none
  len : mg "len" = none
  tuple : mg "tuple" = none
  list : mg "list" = none
  all : mg "all" = none
  any : mg "any" = none
  zip : mg "zip" = none
  range : mg "range" = none
  repr : mg "repr" = none
  dict : mg "dict" = none
abbrev s_l_bag : Stmt := top 23
theorem sc_l_bag : FnScope ["_law_script", "_law_cell"] ["_law_script"] (defScope s_l_bag) := ⟨rfl, rfl, rfl, by decide +kernel, rfl, by decide +kernel, by decide +kernel⟩
abbrev s_l_take : Stmt := top 24
theorem sc_l_take : FnScope ["_law_bag_here", "_law_many", "_law_cell", "_law_mixed", "_law_value", "_law_begin", "_law_second"] ["_law_bag_here", "_law_many"] (defScope s_l_take) := ⟨rfl, rfl, rfl, by decide +kernel, rfl, by decide +kernel, by decide +kernel⟩
abbrev s_l_some : Stmt := top 26
theorem sc_l_some : FnScope ["_law_bag_here", "_law_things"] ["_law_bag_here", "_law_things"] (defScope s_l_some) := ⟨rfl, rfl, rfl, by decide +kernel, rfl, by decide +kernel, by decide +kernel⟩
section
variable {P : Program} {w : World} {K : PySem.W.Frag} {mg : Str → Option Value} {base : Heap}
/-- the bag as a list -/
def spTakeL : Sp := fun vs H Q _ => ∃ (b c : Addr) (m i j k : Int) (ns : List Int), vs = [.ref b, .int m] ∧ H b = some (.lst [.int i, .int j, .int k, .ref c]) ∧ H c = some (.lst (ns.map V.int)) ∧ ns.length ≤ 63 ∧ 0 < m ∧ m < 1000000000 ∧
  ∀ (H' : Hp) (r i' j' k' : Int), 0 ≤ r → r < m → ExB b H H' → H' b = some (.lst [.int i', .int j', .int k', .ref c]) → Q (.int r) H'
theorem ok_takeL (T : Txt0 mg) (D : Df K mg "_law_take" s_l_take) : CalG P w K mg base 1 "_law_take" spTakeL := by
  refine cal_mk D sc_l_take (fun _ _ _ _ _ _ us hl => match us, hl with | [_, _], _ => rfl) (fun vs H Q E h => ?_) (fun f cdv A outer s H vs Q E hr hG h => ?_)
  · obtain ⟨b, c, m, i, j, k, ns, rfl, _⟩ := h
    rfl
  · obtain ⟨b, c, m, i, j, k, ns, rfl, hb, hc, h63, hm, hm9, q⟩ := h
    have nbc : c ≠ b := ne_of hc hb (fun z => ints_ne4 z)
    refine ⟨_, (Evl.pss_cut (ps_if (pt_cmpR (opEq hr) (pe_ix ixAny (pv 0) pe_int (fun _ _ => rfl)) pe_int (nomark _)) (pss_cons (ps_set (i := 2) sc_l_take.nd rfl (Or.inl rfl) (pe_ix ixAny (pe_op opAdd (pe_slice slAny (pe_ix ixAny (pv 0) pe_int (fun _ _ => rfl)) (po_some (pe_ix ixAny (pv 0) pe_int (fun _ _ => rfl))) po_none) (pe_lst (pa_cons pe_int pa_nil))) pe_int (fun _ _ => rfl)))
      (pss_cons (ps_augS (pv 0) pe_int pgetL pe_int ip_add set_list)
      (Evl.pss_cut (ps_if (pt_cmpR opGe (pv 2) pe_int (nomark _)) (pss_one (ps_asg (pv 2) (pg_sub (pv 0) pe_int set_list))) pss_nil)
      (pss_cons (ps_set (i := 3) sc_l_take.nd rfl (Or.inl rfl) (pe_op opAdd (pe_op opAdd (pe_op opMul (pe_ix ixAny (pv 0) pe_int (fun _ _ => rfl)) pe_int) (pe_op op_mod (pe_callTy call_int1 (by rfl) T.int (by decide +kernel) (pa_cons (pv 2) pa_nil)) pe_int)) (pe_op opMul pe_int (pe_ix ixAny (pv 0) pe_int (fun _ _ => rfl)))))
      (pss_one (ps_asg (pe_op op_mod (pe_callTy call_int1 (by rfl) T.int (by decide +kernel) (pa_cons (pv 3) pa_nil)) pe_int) (pg_sub (pv 0) pe_int set_list))))))) pss_nil)
      (pss_cons (ps_if (pt_cmpR opGt (pe_ix ixAny (pv 0) pe_int (fun _ _ => rfl)) pe_int (nomark _)) (pss_cons (ps_set (i := 4) sc_l_take.nd rfl (Or.inl rfl) (pe_op op_mod (pe_callTy call_int1 (by rfl) T.int (by decide +kernel) (pa_cons (pe_ix ixAny (pv 0) pe_int (fun _ _ => rfl)) pa_nil)) (pv 1)))
      (pss_cons (ps_asg (pe_op op_fdivW (pe_ix ixAny (pv 0) pe_int (fun _ _ => rfl)) (pv 1)) (pg_sub (pv 0) pe_int set_list))
      (pss_one (ps_ret (pv 4))))) pss_nil)
      (pss_cons (ps_set (i := 5) sc_l_take.nd rfl (Or.inl rfl) (pe_op op_mod (pe_callTy call_int1 (by rfl) T.int (by decide +kernel) (pa_cons (pe_op opMul (pe_op opAdd (pe_ix ixAny (pv 0) pe_int (fun _ _ => rfl)) pe_int) pe_int) pa_nil)) pe_int))
      (pss_cons (ps_set (i := 6) sc_l_take.nd rfl (Or.inl rfl) (pe_op op_mod (pe_callTy call_int1 (by rfl) T.int (by decide +kernel) (pa_cons (pe_op opMul (pe_op op_mod (pe_callTy call_int1 (by rfl) T.int (by decide +kernel) (pa_cons (pe_op opMul (pv 5) (pv 5)) pa_nil)) pe_int) pe_int) pa_nil)) pe_int))
      (pss_one (ps_ret (pe_op op_mod (pe_callTy call_int1 (by rfl) T.int (by decide +kernel) (pa_cons (pe_op op_fdivW (pv 6) pe_int) pa_nil)) (pv 1)))))))), ?_⟩
    refine ⟨fun σ' H' => ∃ (i j k : Int) (x2 x3 : Option V), σ' = [some (.ref b), some (.int m), x2, x3, none, none, none] ∧ ExB b H H' ∧ H' b = some (.lst [.int i, .int j, .int k, .ref c]), ?_, ?_⟩
    · refine ⟨_, rfl, .inl ⟨b, _, 0, _, rfl, rfl, sq_of hb, rfl, .inl ⟨rfl, _, rfl, ?_⟩⟩⟩
      refine ite2 (fun _ => ?_) (fun _ => ⟨i, j, k, none, none, rfl, ExB.refl b H, hb⟩)
      -- cell = (bag[3][bag[2]:] + [0])[0]
      refine ⟨_, rfl, .inl ⟨b, _, 3, _, rfl, rfl, sq_of hb, rfl, ⟨_, rfl, .inl ⟨b, _, 2, _, rfl, rfl, sq_of hb, rfl, k, rfl, .inl ⟨c, _, rfl, sq_of hc, fun p hp => ?_⟩⟩⟩⟩⟩
      refine ⟨by show 1 ≤ sizeLine; decide, fun p2 hp2 => .inr (.inr (.inl ⟨p, p2, _, _, rfl, rfl, up_old hp2 upd_same, upd_same, ?_, fun p3 hp3 => ?_⟩))⟩
      · refine sz_of ?_
        have q1 := cutV_length (ns.map V.int) (some k) none
        rw [List.length_map] at q1
        show _ + 1 ≤ 100000
        omega
      obtain ⟨z, hz⟩ := first_int ns (some k) none
      refine .inl ⟨p3, _, 0, _, rfl, rfl, sq_of upd_same, hz, ?_⟩
      have e3 := (((ExB.refl b H).new (o := .lst (cutV (ns.map V.int) (some k) none)) hp).new (o := .lst [V.int 0]) hp2).new (o := .lst (cutV (ns.map V.int) (some k) none ++ [V.int 0])) hp3
      have hb3 := up_old (o := .lst (cutV (ns.map V.int) (some k) none ++ [V.int 0])) hp3 (up_old (o := .lst [V.int 0]) hp2 (up_old (o := .lst (cutV (ns.map V.int) (some k) none)) hp hb))
      generalize upd (upd (upd H p _) p2 _) p3 _ = H3 at e3 hb3 ⊢
      -- bag[2] += 1
      refine ⟨_, rfl, b, _, 2, _, rfl, rfl, sq_of hb3, rfl, k, 1, rfl, rfl, b, _, 2, 2, rfl, rfl, hb3, rfl, ?_⟩
      generalize hq4 : upd H3 b _ = H4
      obtain ⟨e4, hb4⟩ := genB hq4 e3
      -- if cell >= ..: bag[0] = cell
      refine ⟨fun σ' H' => ∃ (i : Int), σ' = [some (.ref b), some (.int m), some (.int z), none, none, none, none] ∧ ExB b H H' ∧ H' b = some (.lst [.int i, .int j, .int (k + 1), .ref c]), ?_, ?_⟩
      · refine ⟨_, rfl, z, _, rfl, rfl, _, rfl, ?_⟩
        refine ite2 (fun _ => ?_) (fun _ => ⟨i, rfl, e4, hb4⟩)
        exact ⟨_, rfl, _, rfl, b, _, 0, 0, rfl, rfl, hb4, rfl, z, rfl, e4.set, upd_same⟩
      · rintro σ5 H5 ⟨i5, rfl, e5, hb5⟩
        -- mixed
        refine ⟨_, rfl, .inl ⟨b, _, 1, _, rfl, rfl, sq_of hb5, rfl, .inl ⟨j, 48271, rfl, rfl, .inr (by decide), ?_⟩⟩⟩
        refine ⟨_, rfl, .inl ⟨z, rfl, ?_⟩⟩
        refine ⟨_, _, rfl, rfl, (show (0 : Int) < 2147483647 by decide), .inl ⟨_, _, rfl, rfl, ?_⟩⟩
        refine ⟨_, rfl, .inl ⟨b, _, 2, _, rfl, rfl, sq_of hb5, rfl, .inl ⟨7919, _, rfl, rfl, .inl (by decide), .inl ⟨_, _, rfl, rfl, ?_⟩⟩⟩⟩
        refine ⟨_, rfl, .inl ⟨_, rfl, ?_⟩⟩
        refine ⟨_, _, rfl, rfl, (show (0 : Int) < 2147483647 by decide), _, rfl, b, _, 1, 1, rfl, rfl, hb5, rfl, ?_⟩
        exact ⟨i5, _, k + 1, _, _, rfl, e5.set, upd_same⟩
    · rintro σ' H' ⟨i, j, k, x2, x3, rfl, e, hb⟩
      refine ⟨_, rfl, .inl ⟨b, _, 0, _, rfl, rfl, sq_of hb, rfl, i, 0, rfl, rfl, _, rfl, ?_⟩⟩
      refine ite2 (fun _ => ?_) (fun _ => ?_)
      · refine ⟨_, rfl, .inl ⟨b, _, 0, _, rfl, rfl, sq_of hb, rfl, .inl ⟨_, rfl, ?_⟩⟩⟩
        refine ⟨_, rfl, _, _, rfl, rfl, hm, ?_⟩
        refine ⟨_, rfl, .inl ⟨b, _, 0, _, rfl, rfl, sq_of hb, rfl, ?_⟩⟩
        refine ⟨_, rfl, _, _, rfl, rfl, wide_div hm (b := 30) (by omega) (by decide) (by decide), ?_⟩
        refine ⟨_, rfl, b, _, 0, 0, rfl, rfl, hb, rfl, ?_⟩
        exact ⟨_, rfl, q _ _ _ _ _ (Int.emod_nonneg _ (by omega)) (Int.emod_lt_of_pos _ hm) e.set upd_same⟩
      · refine ⟨_, rfl, .inl ⟨b, _, 1, _, rfl, rfl, sq_of hb, rfl, .inl ⟨j, 1, rfl, rfl, .inl ⟨_, 39373, rfl, rfl, .inr (by decide), .inl ⟨_, rfl, ?_⟩⟩⟩⟩⟩
        refine ⟨_, _, rfl, rfl, (show (0 : Int) < 1000000007 by decide), ?_⟩
        have h0 : 0 ≤ (j + 1) * 39373 % 1000000007 := Int.emod_nonneg _ (by decide)
        have h1 : (j + 1) * 39373 % 1000000007 < 1000000007 := Int.emod_lt_of_pos _ (by decide)
        refine ⟨_, rfl, _, rfl, .inl ⟨_, _, rfl, rfl, .inl ⟨Int.lt_of_lt_of_le (by decide) h0, Int.lt_trans h1 (by decide)⟩, .inl ⟨_, rfl, ?_⟩⟩⟩
        refine ⟨_, _, rfl, rfl, (show (0 : Int) < 998244353 by decide), .inl ⟨_, 30011, rfl, rfl, .inr (by decide), .inl ⟨_, rfl, ?_⟩⟩⟩
        refine ⟨_, _, rfl, rfl, (show (0 : Int) < 998244353 by decide), ?_⟩
        refine ⟨_, rfl, _, _, rfl, rfl, wide_div (b := 30) (by decide) (by decide) (by decide) (by decide), .inl ⟨_, rfl, ?_⟩⟩
        exact ⟨_, rfl, _, _, rfl, rfl, hm, q _ _ _ _ _ (Int.emod_nonneg _ (by omega)) (Int.emod_lt_of_pos _ hm) e hb⟩
end
/-- the bag, its numbers left open -/
def bagF (b c : Addr) (h : Heap) : Prop := ∃ (i j k : Int) (t u v : Tok) (n : Nat), h.get? b = some { cls := .type "list", data := .seq #[.int i t, .int j u, .int k v, .ref c] n }
def bagO (b c : Addr) : HO := .ext (bagF b c)
def BagAt (H : Hp) (b : Addr) : Prop := ∃ (c : Addr) (ns : List Int), H b = some (bagO b c) ∧ H c = some (.lst (ns.map V.int)) ∧ ns.length ≤ 63
theorem BagAt.ex {H H' : Hp} {b : Addr} (e : Ex H H') (h : BagAt H b) : BagAt H' b := by
  obtain ⟨c, ns, h1, h2, h3⟩ := h
  exact ⟨c, ns, e _ _ h1, e _ _ h2, h3⟩
theorem objOk_swap {P : Program} {w : World} {H H' : Hp} {h : Heap} (ht : ∀ a xs, H a = some (.tup xs) → H' a = some (.tup xs)) (ho : ∀ a x, H a = some (.own x) → H' a = some (.own x)) : ∀ (o : HO) (a : Addr), ObjOk P w H h a o → ObjOk P w H' h a o
  | .lst _, _, q => q
  | .tup _, _, q => q
  | .dK _, _, q => q
  | .dT kvs, a, q => by
    obtain ⟨q1, q2, xs, q3, q4⟩ := q
    exact ⟨q1, q2, xs, Paired.mapP q3 fun x y z => ⟨z.1, ht _ _ z.2.1, z.2.2⟩, q4⟩
  | .set _ _, _, q => q
  | .ins _ _ _, a, q => by
    obtain ⟨q1, q2⟩ := q
    exact ⟨ho _ _ q1, q2⟩
  | .own _, _, q => q
  | .xd _, _, q => q
  | .met _ _, _, q => q
  | .rng _ _, _, q => q
  | .frz o u, a, q => ⟨q.1, objOk_swap ht ho u a q.2⟩
  | .tbl _, _, q => q
  | .ext _, _, q => q
theorem hOk_set {P : Program} {w : World} {H : Hp} {h : Heap} {b : Addr} {o1 o2 : HO} (hk : HOk P w H h) (h1 : H b = some o1) (nt : ∀ xs, o1 ≠ .tup xs) (no : ∀ x, o1 ≠ .own x) (h2 : ObjOk P w (upd H b o2) h b o2) : HOk P w (upd H b o2) h := fun a o e => by
  by_cases ea : a = b
  · subst ea
    rw [upd_same] at e
    cases e
    exact h2
  · rw [upd_ne ea] at e
    refine objOk_swap (fun a' xs q => ?_) (fun a' x q => ?_) o a (hk a o e)
    · have n : a' ≠ b := fun z => by
        rw [z, h1] at q
        exact nt _ (Option.some.inj q)
      rw [upd_ne n]
      exact q
    · have n : a' ≠ b := fun z => by
        rw [z, h1] at q
        exact no _ (Option.some.inj q)
      rw [upd_ne n]
      exact q
def spTake : Sp := fun vs H Q _ => ∃ (b : Addr) (m : Int), vs = [.ref b, .int m] ∧ BagAt H b ∧ 0 < m ∧ m < 1000000000 ∧ ∀ (H' : Hp) (r : Int), 0 ≤ r → r < m → Ex H H' → Q (.int r) H'
section
variable {P : Program} {w : World} {K : PySem.W.Frag} {mg : Str → Option Value} {base : Heap}
theorem bag_shut {P : Program} {w : World} {H : Hp} {h : Heap} {b c : Addr} {i j k : Int} (q : ObjOk P w H h b (.lst [.int i, .int j, .int k, .ref c])) : bagF b c h := by
  obtain ⟨_, its, n, rv, ho⟩ := q
  cases rv with
  | cons r1 rv => cases rv with
    | cons r2 rv => cases rv with
      | cons r3 rv => cases rv with
        | cons r4 rv =>
          cases rv
          obtain ⟨t, rfl⟩ := r1
          obtain ⟨u, rfl⟩ := r2
          obtain ⟨v, rfl⟩ := r3
          cases r4
          exact ⟨i, j, k, t, u, v, n, ho⟩
theorem take_ext (C : CalG P w K mg base 1 "_law_take" spTakeL) : CalG P w K mg base 1 "_law_take" spTake := by
  obtain ⟨f, fd, ps, F, a, kp, bd⟩ := C.ex
  have hps : ps.length = 2 := (F.len [.ref 0, .int 1] (fun x => if x = 0 then some (.lst [.int 0, .int 0, .int 0, .ref 1]) else if x = 1 then some (.lst ([].map V.int)) else none) (fun _ _ => True) (fun _ _ _ => True) ⟨0, 1, 1, 0, 0, 0, [], rfl, rfl, rfl, by decide, by decide, by decide, fun _ _ _ _ _ _ _ _ _ => trivial⟩).symm
  refine ⟨f, fd, ps, ⟨fun vs H Q E h => ?_, fun A outer s H args us vs Q E hr hg e0 hb rv h => ?_⟩, a, kp, bd⟩
  · obtain ⟨b, m, rfl, _⟩ := h
    exact hps.symm
  · obtain ⟨b, m, rfl, ⟨c, ns, h1, h2, h3⟩, hm, hm9, q⟩ := h
    obtain ⟨⟨i, j, k, t, u, v, n, ho⟩, _, _⟩ := e0.hok b _ h1
    have nbc : c ≠ b := ne_of h2 h1 (by intro z; cases z)
    have hok : HOk P w (upd H b (.lst [.int i, .int j, .int k, .ref c])) s.heap := hOk_set e0.hok h1 (fun _ z => by cases z) (fun _ z => by cases z)
      ⟨by show 4 ≤ sizeLine; decide, [.int i t, .int j u, .int k v, .ref c], n, .cons ⟨t, rfl⟩ (.cons ⟨u, rfl⟩ (.cons ⟨v, rfl⟩ (.cons rfl .nil))), ho⟩
    have nb : ∀ x, H x = none → (upd H b (.lst [.int i, .int j, .int k, .ref c])) x = none := fun x e => by
      rw [upd_ne (fun z => by rw [z, h1] at e; cases e)]
      exact e
    have e1 : Env0 P w K mg base A outer s (upd H b (.lst [.int i, .int j, .int k, .ref c])) :=
      ⟨e0.frames, e0.mod, fun x o e => ⟨(e0.bs x o e).1, nb _ (e0.bs x o e).2⟩, e0.bsz, e0.funs, fun x hx => nb _ (e0.frf x hx), hok, e0.bare⟩
    have run := F.run A outer s _ args us [.ref b, .int m] (fun v H'' => (∃ i j k, H'' b = some (.lst [.int i, .int j, .int k, .ref c])) ∧ Q v (upd H'' b (bagO b c))) E hr hg e1 hb rv
      ⟨b, c, m, i, j, k, ns, rfl, upd_same, by rw [upd_ne nbc]; exact h2, h3, hm, hm9, fun H' r i' j' k' r0 r1 e2 hb' => ⟨⟨_, _, _, hb'⟩, q _ r r0 r1 fun x o hx => by
        by_cases ex : x = b
        · rw [ex] at hx ⊢
          rw [upd_same, ← h1]
          exact hx
        · rw [upd_ne ex]
          exact e2 x o ex (by rw [upd_ne ex]; exact hx)⟩⟩
    refine codeAny_mono run fun r s' hq => ?_
    cases r with
    | error e => exact hq
    | ok fl =>
      cases fl with
      | next => exact hq
      | brk => exact hq
      | cont => exact hq
      | ret u' =>
        obtain ⟨v', H'', q1, q2, q3, q4, q5, ⟨i2, j2, k2, q6⟩, q7⟩ := hq
        refine ⟨v', upd H'' b (bagO b c), q1, q2, ⟨?_, ?_, ?_, ?_, ?_, ?_, ?_⟩, ?_, q5, q7⟩
        · exact fun x o e n f g => q3.keep x o e (nb x n) f g
        · exact fun x o e n f g => q3.slot x o e (nb x n) f g
        · intro x o e n g
          have nx : x ≠ b := fun z => by
            rw [z, h1] at n
            cases n
          rw [upd_ne nx]
          exact q3.free x o e (nb x n) g
        · exact q3.there
        · intro x xs e
          have nx : x ≠ b := fun z => by
            rw [z, h1] at e
            cases e
          rw [upd_ne nx]
          exact q3.tups x xs (by rw [upd_ne nx]; exact e)
        · intro x o u e
          have nx : x ≠ b := fun z => by
            rw [z, h1] at e
            cases e
          rw [upd_ne nx]
          exact q3.frzs x o u (by rw [upd_ne nx]; exact e)
        · intro x ps e
          have nx : x ≠ b := fun z => by
            rw [z, h1] at e
            cases e
          rw [upd_ne nx]
          exact q3.tbls x ps (by rw [upd_ne nx]; exact e)
        · refine hOk_set q4 q6 (fun _ z => by cases z) (fun _ z => by cases z) ?_
          have q8 := bag_shut (q4 b _ q6)
          refine ⟨q8, ?_, fun ha hb ⟨i, j, k, t, u, v, n, x⟩ y => ⟨i, j, k, t, u, v, n, y _ x⟩⟩
          obtain ⟨_, _, _, _, _, _, _, x⟩ := q8
          exact ⟨_, x⟩
def spBagL (K : PySem.W.Frag) : Sp := fun vs H Q _ => ∃ (a : Addr) (ns : List Int), vs = [.ref a] ∧ SqL K H a (ns.map V.int) ∧ ns.length ≤ 63 ∧
  ∀ (H' : Hp) (b c : Addr) (ms : List Int), Ex H H' → H' b = some (.lst [.int 0, .int 1234567891, .int 0, .ref c]) → H' c = some (.lst (ms.map V.int)) → ms.length ≤ 63 → H b = none → Q (.ref b) H'
theorem all_ints : ∀ (ys : List V), (∀ (i : Nat) y, ys[i]? = some y → ∃ z : Int, y = .int z) → ∃ ms : List Int, ys = ms.map V.int
  | [], _ => ⟨[], rfl⟩
  | y :: ys, h => by
    obtain ⟨z, rfl⟩ := h 0 y rfl
    obtain ⟨ms, e⟩ := all_ints ys fun i y q => h (i + 1) y q
    exact ⟨z :: ms, by rw [e]; rfl⟩
theorem cut_at {xs : List V} {lo hi : Option Int} {i : Nat} {x : V} (h : (cutV xs lo hi)[i]? = some x) : ∃ j : Nat, xs[j]? = some x := by
  unfold cutV at h
  rw [List.getElem?_take] at h
  split at h
  · rw [List.getElem?_drop] at h
    exact ⟨_, h⟩
  · cases h
theorem map_at {ns : List Int} {i : Nat} {x : V} (h : (ns.map V.int)[i]? = some x) : ∃ z : Int, x = .int z := by
  rw [List.getElem?_map] at h
  cases e : ns[i]? with
  | none => rw [e] at h; cases h
  | some z => rw [e] at h; exact ⟨z, (Option.some.inj h).symm⟩
theorem ok_bagL (T : Txt0 mg) (D : Df K mg "_law_bag" s_l_bag) : CalG P w K mg base 1 "_law_bag" (spBagL K) := by
  refine cal_mk D sc_l_bag (fun _ _ _ _ _ _ us hl => match us, hl with | [_], _ => rfl) (fun vs H Q E h => ?_) (fun f cdv A outer s H vs Q E hr hG h => ?_)
  · obtain ⟨a, ns, rfl, _⟩ := h
    rfl
  · obtain ⟨a, ns, rfl, ha, h63, q⟩ := h
    refine ⟨_, (pss_one (ps_ret (pe_lst (pa_cons pe_int (pa_cons pe_int (pa_cons pe_int (pa_cons (pe_lcO (pe_lc (own := [("_law_cell", 1)]) rfl sc_l_bag.nd (piAny (pe_slice slAny (pv 0) po_none (po_some pe_int))) (blkOk_by (own := [("_law_cell", 1)]) (N := ["_law_script", "_law_cell"]) (sc := defScope s_l_bag) (by first | decide +kernel | kernel_rfl)) (fun _ _ _ _ _ => pg_name (i := 1) sc_l_bag.nd rfl (Or.inl rfl)) (fun _ _ _ _ _ => pts_nil) (fun _ _ _ _ _ => pe_callB call_abs (by rfl) T.abs (by decide +kernel) (pa_cons (pv 1) pa_nil)))) pa_nil))))))), ?_⟩
    refine .inl ⟨_, rfl, 63, rfl, .inl ⟨a, _, rfl, ha, fun p hp => ?_⟩⟩
    generalize hq1 : upd H p _ = H1
    obtain ⟨e1, h1⟩ := gen1 hq1 hp
    have hlen := cutV_length (ns.map V.int) none (some 63)
    rw [List.length_map] at hlen
    refine ⟨p, rfl, ⟨_, sq_of h1⟩, ?_⟩
    refine lcG (walk_list (xs := cutV (ns.map V.int) none (some 63))) (by omega) (sq_of h1) (fun _ _ e h => ex_l e h) yAt_ex (fun i ys _ => ∀ (j : Nat) y, ys[j]? = some y → ∃ z : Int, y = .int z) (fun _ _ _ _ _ h => h) (fun j y z => by simp at z) ?_ ?_
    · rintro i x H2 H3 ys hi e2 ⟨rfl, hx⟩ hp N N0 kN kN0
      obtain ⟨j, hj⟩ := cut_at hx
      obtain ⟨z, rfl⟩ := map_at hj
      refine ⟨rfl, ?_⟩
      refine ⟨_, rfl, z, rfl, ?_⟩
      refine kN _ _ (Ex.refl _) fun j y hy => ?_
      rw [List.getElem?_append] at hy
      split at hy
      · exact hp j y hy
      · rw [List.getElem?_singleton] at hy
        split at hy
        · exact ⟨_, (Option.some.inj hy).symm⟩
        · cases hy
    · intro D H2 ys hD e2 h2 hl hp
      obtain ⟨ms, rfl⟩ := all_ints ys hp
      refine ⟨by show 4 ≤ sizeLine; decide, fun b hb => ?_⟩
      generalize hq3 : upd H2 b _ = H3
      obtain ⟨e3, h3⟩ := gen1 hq3 hb
      rw [List.length_map] at hl
      exact q _ b D ms ((e1.trans e2).trans e3) h3 (e3 _ _ h2) (by omega) (fresh_back (e1.trans e2) hb)
/-- script: any list of ints -/
def spBag (K : PySem.W.Frag) : Sp := fun vs H Q _ => ∃ (a : Addr) (ns : List Int), vs = [.ref a] ∧ SqL K H a (ns.map V.int) ∧ ns.length ≤ 63 ∧ ∀ (H' : Hp) (b : Addr), Ex H H' → BagAt H' b → Q (.ref b) H'
theorem bag_ext (C : CalG P w K mg base 1 "_law_bag" (spBagL K)) : CalG P w K mg base 1 "_law_bag" (spBag K) := by
  obtain ⟨f, fd, ps, F, a, kp, bd⟩ := C.ex
  refine ⟨f, fd, ps, ⟨fun vs H Q E h => ?_, fun A outer s H args us vs Q E hr hg e0 hb rv h => ?_⟩, a, kp, bd⟩
  · obtain ⟨a, ns, rfl, ha, hl, _⟩ := h
    exact F.len [.ref a] H (fun _ _ => True) E ⟨a, ns, rfl, ha, hl, fun _ _ _ _ _ _ _ _ _ => trivial⟩
  · obtain ⟨a, ns, rfl, ha, hl, q⟩ := h
    have run := F.run A outer s _ args us [.ref a] (fun v H'' => ∃ (b c : Addr) (ms : List Int), v = .ref b ∧ Ex H H'' ∧ H'' b = some (.lst [.int 0, .int 1234567891, .int 0, .ref c]) ∧ H'' c = some (.lst (ms.map V.int)) ∧ ms.length ≤ 63 ∧ H b = none) E hr hg e0 hb rv
      ⟨a, ns, rfl, ha, hl, fun H' b c ms e h1 h2 h3 h4 => ⟨b, c, ms, rfl, e, h1, h2, h3, h4⟩⟩
    refine codeAny_mono run fun r s' hq => ?_
    cases r with
    | error e => exact hq
    | ok fl =>
      cases fl with
      | next => exact hq
      | brk => exact hq
      | cont => exact hq
      | ret u' =>
        obtain ⟨v', H'', q1, q2, q3, q4, q5, b, c, ms, rfl, e, h1, h2, h3, h4⟩ := hq
        have nbc : c ≠ b := ne_of h2 h1 (fun z => ints_ne4 z)
        have no : ∀ x o, H x = some o → x ≠ b := fun x o hx z => by
          rw [z, h4] at hx
          cases hx
        refine ⟨.ref b, upd H'' b (bagO b c), q1, q2, ⟨q3.keep, q3.slot, ?_, q3.there, ?_, ?_, ?_⟩, ?_, q5, q _ b (Ex.mut e h4) ⟨c, ms, upd_same, ?_, h3⟩⟩
        · intro x o ho n g
          have z := q3.free x o ho n g
          have nx : x ≠ b := fun y => by
            rw [y, h1] at z
            cases z
          rw [upd_ne nx]
          exact z
        · intro x xs hx
          rw [upd_ne (no _ _ hx)]
          exact q3.tups x xs hx
        · intro x o u hx
          rw [upd_ne (no _ _ hx)]
          exact q3.frzs x o u hx
        · intro x ps hx
          rw [upd_ne (no _ _ hx)]
          exact q3.tbls x ps hx
        · refine hOk_set q4 h1 (fun _ z => by cases z) (fun _ z => by cases z) ?_
          have q8 := bag_shut (q4 b _ h1)
          refine ⟨q8, ?_, fun ha hb ⟨i, j, k, t, u, v, n, x⟩ y => ⟨i, j, k, t, u, v, n, y _ x⟩⟩
          obtain ⟨_, _, _, _, _, _, _, x⟩ := q8
          exact ⟨_, x⟩
        · rw [upd_ne nbc]
          exact h2
def spSome (K : PySem.W.Frag) : Sp := fun vs H Q _ => ∃ (b a : Addr) (xs : List V), vs = [.ref b, .ref a] ∧ BagAt H b ∧ (SqL K H a xs ∨ SqT K H a xs) ∧ xs ≠ [] ∧ xs.length ≤ 100000 ∧
  ∀ (H' : Hp) (i : Nat) (x : V), Ex H H' → xs[i]? = some x → Q x H'
theorem ok_some (T : Txt0 mg) (D : Df K mg "_law_some" s_l_some) (c_l_take : CalG P w K mg base 1 "_law_take" spTake) : CalG P w K mg base 2 "_law_some" (spSome K) := by
  refine cal_mk D sc_l_some (fun _ _ _ _ _ _ us hl => match us, hl with | [_, _], _ => rfl) (fun vs H Q E h => ?_) (fun f cdv A outer s H vs Q E hr hG h => ?_)
  · obtain ⟨b, a, xs, rfl, _⟩ := h
    rfl
  · obtain ⟨b, a, xs, rfl, hb, ha, hne, hl, q⟩ := h
    have hpos : 0 < xs.length := List.length_pos_iff.mpr hne
    refine ⟨_, (pss_one (ps_ret (pe_ix ixAny (pv 1) (pe_cG c_l_take hr hG (by decide) rfl (pa_cons (pv 0) (pa_cons (pe_callB callLen (by rfl) T.len PySem.boot_len (pa_cons (pv 1) pa_nil)) pa_nil))) (fun _ _ => rfl)))), ?_⟩
    refine ⟨_, rfl, _, rfl, _, rfl, .inl ⟨a, xs, rfl, ha, ?_⟩⟩
    refine ⟨b, _, rfl, hb, by omega, by omega, fun H' r r0 r1 e => ?_⟩
    obtain ⟨j, rfl⟩ : ∃ j : Nat, r = (j : Int) := ⟨r.toNat, by omega⟩
    have hj : j < xs.length := by omega
    rcases ha with ha | ha
    · exact .inl ⟨a, xs, _, xs[j], rfl, rfl, ex_l e ha, atI_nat (List.getElem?_eq_getElem hj), q H' j _ e (List.getElem?_eq_getElem hj)⟩
    · exact .inr (.inl ⟨a, xs, _, xs[j], rfl, rfl, ex_t e ha, atI_nat (List.getElem?_eq_getElem hj), q H' j _ e (List.getElem?_eq_getElem hj)⟩)
end
abbrev s_l_names : Stmt := top 27
theorem sc_l_names : FnScope ["_law_bag_here", "_law_many", "_law_letters", "_law_found", "_law_words", "_law_k", "_law_signs", "_law_spin", "_law_at", "_law_rest", "_law_some_here", "_law_one"] ["_law_bag_here", "_law_many"] (defScope s_l_names) := ⟨rfl, rfl, rfl, by decide +kernel, rfl, by decide +kernel, by decide +kernel⟩
section
variable {P : Program} {w : World} {K : PySem.W.Frag} {mg : Str → Option Value} {base : Heap}
/-! ### names -/
def LET : Str := "abcdefghijklmnopqrstuvwxyz"
def WRD : Str := "at as last like all name book goal with turn part drop call copy chain close eq lt gt put"
def WL : List Str := ["at", "as", "last", "like", "all", "name", "book", "goal", "with", "turn", "part", "drop", "call", "copy", "chain", "close", "eq", "lt", "gt", "put"]
def lowc (c : Nat) : Bool := decide (97 ≤ c) && decide (c ≤ 122)
def isNm (z : Str) : Bool := decide (1 ≤ z.length) && decide (z.length ≤ 8) && (TL.tl z).all lowc
theorem wl_split : Txt.split WRD " " = WL := by decide +kernel
theorem wl_nm : WL.all isNm = true := by decide +kernel
theorem let_at : ∀ j : Fin 26, atI LET.cps.toList ((j.val : Nat) : Int) = some (97 + j.val) := by decide +kernel
theorem let_occ : ∀ j : Fin 26, Builtin.Str.occurrences LET (sgn (97 + j.val)) 0 LET.length 1 = [j.val] := by decide +kernel
theorem let_rot : ∀ j : Fin 26, (TL.tl (cutS LET (some (j.val : Int)) none ++ cutS LET none (some (j.val : Int)))).Nodup ∧ (TL.tl (cutS LET (some (j.val : Int)) none ++ cutS LET none (some (j.val : Int)))).all lowc = true ∧ (TL.tl (cutS LET (some (j.val : Int)) none ++ cutS LET none (some (j.val : Int)))).length = 26 := by decide +kernel
theorem let_cut : ∀ j : Fin 26, (cutS LET (some (j.val : Int)) none).length + (cutS LET none (some (j.val : Int))).length ≤ 26 := by decide +kernel
theorem four_at {r : Int} (h0 : 0 ≤ r) (h1 : r < 4) : ∃ n : Nat, 1 ≤ n ∧ n ≤ 8 ∧ atI [V.int 1, V.int 2, V.int 8, V.int 4] r = some (.int (n : Int)) := by
  have q : r = 0 ∨ r = 1 ∨ r = 2 ∨ r = 3 := by omega
  rcases q with rfl | rfl | rfl | rfl
  · exact ⟨1, by decide, by decide, rfl⟩
  · exact ⟨2, by decide, by decide, rfl⟩
  · exact ⟨8, by decide, by decide, rfl⟩
  · exact ⟨4, by decide, by decide, rfl⟩
/-- of more different names than stand in a list one is none of it -/
theorem more_left {α : Type} [DecidableEq α] : ∀ (xs ys : List α), xs.Nodup → ys.length < xs.length → ∃ x ∈ xs, x ∉ ys
  | [], ys, _, h => by simp at h
  | x :: xs, ys, hn, h => by
    by_cases hx : x ∈ ys
    · have hn2 := (List.nodup_cons.mp hn)
      obtain ⟨z, hz, hz2⟩ := more_left xs (ys.erase x) hn2.2 (by
        rw [List.length_erase_of_mem hx]
        rw [List.length_cons] at h
        have : 0 < ys.length := List.length_pos_of_mem hx
        omega)
      refine ⟨z, List.mem_cons_of_mem _ hz, fun q => hz2 ?_⟩
      have ne : z ≠ x := fun e => hn2.1 (e ▸ hz)
      exact (List.mem_erase_of_ne ne).mpr q
    · exact ⟨x, List.mem_cons_self, hx⟩
def spNames : Sp := fun vs H Q _ => ∃ (b : Addr) (m : Int), vs = [.ref b, .int m] ∧ BagAt H b ∧ 0 ≤ m ∧ m ≤ 25 ∧
  ∀ (H' : Hp) (p : Addr) (ns : List Str), Ex H H' → H p = none → H' p = some (.lst (ns.map V.str)) → (ns.length : Int) = m → ns.Nodup → (∀ z ∈ ns, isNm z = true) → Q (.ref p) H'
theorem ok_names (T : Txt0 mg) (D : Df K mg "_law_names" s_l_names) (c_l_take : CalG P w K mg base 1 "_law_take" spTake) : CalG P w K mg base 2 "_law_names" spNames := by
  refine cal_mk D sc_l_names (fun _ _ _ _ _ _ us hl => match us, hl with | [_, _], _ => rfl) (fun vs H Q E h => ?_) (fun f cdv A outer s H vs Q E hr hG h => ?_)
  · obtain ⟨b, m, rfl, _⟩ := h
    rfl
  · obtain ⟨b, m, rfl, hb, m0, m25, q⟩ := h
    refine ⟨_, (pss_cons (ps_asg (pe_tup (pa_cons pe_str (pa_cons (pe_lst pa_nil) pa_nil))) (pg_tup rfl (pgs_cons (pg_name (i := 2) sc_l_names.nd rfl (Or.inr rfl)) (pgs_cons (pg_name (i := 3) sc_l_names.nd rfl (Or.inr rfl)) pgs_nil))))
      (pss_cons (ps_set (i := 4) sc_l_names.nd rfl (Or.inl rfl) (pe_split pe_str pe_str))
      (pss_cons (ps_forO (ps_for PassesOwn.never rfl (pi_range1 rfl T.range (pa_cons (pv 1) pa_nil)) (pg_name (i := 5) sc_l_names.nd rfl (Or.inl rfl))
        (pss_cons (ps_setLcO (ps_setLc (i := 6) (own := [("_law_spin", 7)]) rfl sc_l_names.nd rfl rfl (sw_true rfl rfl rfl (by decide +kernel)) (pi_range1 rfl T.range (pa_cons (pe_ix ixAny (pe_lst (pa_cons pe_int (pa_cons pe_int (pa_cons pe_int (pa_cons pe_int pa_nil))))) (pe_cG c_l_take hr hG (by decide) rfl (pa_cons (pv 0) (pa_cons pe_int pa_nil))) (fun _ _ => rfl)) pa_nil)) (blkOk_by (own := [("_law_spin", 7)]) (N := ["_law_bag_here", "_law_many", "_law_letters", "_law_found", "_law_words", "_law_k", "_law_signs", "_law_spin", "_law_at", "_law_rest", "_law_some_here", "_law_one"]) (sc := defScope s_l_names) (by first | decide +kernel | kernel_rfl)) (fun _ _ _ _ _ => pg_name (i := 7) sc_l_names.nd rfl (Or.inl rfl)) (fun _ _ _ _ _ => pts_nil) (fun _ _ _ _ _ => pe_ix ixAnyB (pv 2) (pe_cG c_l_take hr hG (by decide) rfl (pa_cons (pv 0) (pa_cons pe_int pa_nil))) (fun _ _ => rfl))))
      (pss_cons (ps_asg (pe_tup (pa_cons (pe_bm PySem.F.plainAttrs_str PySem.F.slot_str_index PySem.F.type_str_index mt_sindex (pv 2) (pa_cons (pe_ix ixAny (pv 6) pe_int (fun _ _ => rfl)) pa_nil)) (pa_cons (pe_join pe_str (pe_slice slAny (pv 6) (po_some pe_int) po_none)) pa_nil))) (pg_tup rfl (pgs_cons (pg_name (i := 8) sc_l_names.nd rfl (Or.inl rfl)) (pgs_cons (pg_name (i := 9) sc_l_names.nd rfl (Or.inr rfl)) pgs_nil))))
      (pss_cons (ps_set (i := 10) sc_l_names.nd rfl (Or.inl rfl) (pe_op opAdd (pe_op opMul (pe_slice slAny (pv 4) (po_some (pv 8)) po_none) (pe_callTy call_int1 (by rfl) T.int (by decide +kernel) (pa_cons (pe_cmpR (opEq hr) (pe_cG c_l_take hr hG (by decide) rfl (pa_cons (pv 0) (pa_cons pe_int pa_nil))) pe_int (nomark _)) pa_nil))) (pe_lcO (pe_lc (own := [("_law_one", 11)]) rfl sc_l_names.nd (piAny (pe_op opAdd (pe_slice slAny (pv 2) (po_some (pv 8)) po_none) (pe_slice slAny (pv 2) po_none (po_some (pv 8))))) (blkOk_by (own := [("_law_one", 11)]) (N := ["_law_bag_here", "_law_many", "_law_letters", "_law_found", "_law_words", "_law_k", "_law_signs", "_law_spin", "_law_at", "_law_rest", "_law_some_here", "_law_one"]) (sc := defScope s_l_names) (by first | decide +kernel | kernel_rfl)) (fun _ _ _ _ _ => pg_name (i := 11) sc_l_names.nd rfl (Or.inl rfl)) (fun _ _ _ _ _ => pts_nil) (fun _ _ _ _ _ => pe_op opAddB (pv 11) (pv 9))))))
      (pss_one (ps_expr (pe_bm PySem.F.plainAttrs_list PySem.F.slot_list_append PySem.F.type_list_append mt_append (pv 3) (pa_cons (pe_ix ixAny (pe_lcO (pe_lc (own := [("_law_one", 11)]) rfl sc_l_names.nd (piAny (pv 10)) (blkOk_by (own := [("_law_one", 11)]) (N := ["_law_bag_here", "_law_many", "_law_letters", "_law_found", "_law_words", "_law_k", "_law_signs", "_law_spin", "_law_at", "_law_rest", "_law_some_here", "_law_one"]) (sc := defScope s_l_names) (by first | decide +kernel | kernel_rfl)) (fun _ _ _ _ _ => pg_name (i := 11) sc_l_names.nd rfl (Or.inl rfl)) (fun _ _ _ _ _ => pts_one (pt_cmpR opNotInB (pv 11) (pv 3) rfl)) (fun _ _ _ _ _ => pv 11))) pe_int (fun _ _ => rfl)) pa_nil)))))))))
      (pss_one (ps_ret (pv 3)))))), ?_⟩
    -- letters, found = '..', []
    refine ⟨Nat.zero_le _, fun fp hfp => ?_⟩
    generalize hq1 : upd H fp _ = H0
    obtain ⟨e0, h0⟩ := gen1 hq1 hfp
    refine ⟨by show 2 ≤ sizeLine; decide, fun tp htp => ?_⟩
    generalize hqt : upd H0 tp _ = H1
    obtain ⟨et, ht⟩ := gen1 hqt htp
    have e1 := e0.trans et
    have h1 := et _ _ h0
    refine ⟨tp, _, rfl, st_of ht, rfl, _, _, rfl, _, _, rfl, rfl, ?_⟩
    -- words
    refine ⟨⟨_, rfl⟩, _, _, rfl, rfl, (by decide), (by decide), fun wp hwp => ?_⟩
    generalize hq2 : upd H1 wp _ = H2
    obtain ⟨e2, h2⟩ := gen1 hq2 hwp
    have h2 : H2 wp = some (.lst (WL.map V.str)) := h2.trans (by rw [← wl_split]; rfl)
    refine ⟨_, rfl, m, rfl, by omega, by omega, ?_⟩
    refine frG (walk_range (lo := 0) (n := m.toNat)) (fun i σ H' => ∃ (ns : List Str) (x5 x6 x8 x9 x10 : Option V), σ = [some (.ref b), some (.int m), some (.str LET), some (.ref fp), some (.ref wp), x5, x6, none, x8, x9, x10, none] ∧ Ex H H' ∧
      H' fp = some (.lst (ns.map V.str)) ∧ H' wp = some (.lst (WL.map V.str)) ∧ ns.length = i ∧ ns.Nodup ∧ ∀ z ∈ ns, isNm z = true) ?_ (fun _ _ _ _ _ => trivial) ?_ ?_
    · exact ⟨[], none, none, none, none, none, rfl, e1.trans e2, e2 _ _ h1, h2, rfl, List.nodup_nil, fun z hz => by cases hz⟩
    · rintro i x σ H3 H4 hi ⟨ns, x5, x6, x8, x9, x10, rfl, e3, hf, hw, hl, hnd, hnm⟩ ⟨rfl, rfl⟩
      -- signs
      refine ⟨by show 4 ≤ sizeLine; decide, fun l4 hl4 => ?_⟩
      generalize hq5 : upd H4 l4 _ = H5
      obtain ⟨e5, h5⟩ := gen1 hq5 hl4
      refine ⟨_, rfl, b, 4, rfl, hb.ex (e3.trans e5), by decide, by decide, fun H6 r r0 r1 e6 => ?_⟩
      obtain ⟨n, n1, n8, hn⟩ := four_at r0 r1
      refine .inl ⟨l4, _, r, _, rfl, rfl, sq_of (e6 _ _ h5), hn, ?_⟩
      refine ⟨(n : Int), rfl, by omega, by omega, ?_⟩
      refine lcG (walk_range (lo := 0) (n := (n : Int).toNat)) (by omega) trivial (fun _ _ _ _ => trivial) yFn_ex (fun i ys _ => ∃ cl : List Nat, ys = (cl.map sgn).map V.str ∧ cl.length = i ∧ cl.all lowc = true) (fun _ _ _ _ _ h => h) ⟨[], rfl, rfl, rfl⟩ ?_ ?_
      · rintro j x H7 H8 ys hj e7 ⟨rfl, rfl⟩ ⟨cl, rfl, hcl, hlow⟩ N N0 kN kN0
        refine ⟨rfl, ?_⟩
        refine ⟨_, rfl, _, rfl, b, 26, rfl, hb.ex (((e3.trans e5).trans e6).trans e7), by decide, by decide, fun H9 r r0 r1 e9 => ?_⟩
        obtain ⟨j, rfl⟩ : ∃ j : Nat, r = (j : Int) := ⟨r.toNat, by omega⟩
        have ha := let_at ⟨j, by omega⟩
        refine .inr (.inr (.inl ⟨_, _, 97 + j, rfl, rfl, by decide, ha, ?_⟩))
        refine kN _ _ e9 ⟨cl ++ [97 + j], by simp [sgn], by simp [hcl], ?_⟩
        rw [List.all_append, hlow]
        simp [lowc]
        omega
      · rintro sp H7 ys hsp e7 h7 _ ⟨cl, rfl, hcl, hlow⟩
        -- at, rest
        have hcn : cl.length = n := by rw [hcl]; rfl
        obtain ⟨c0, cr, rfl⟩ : ∃ c0 cr, cl = c0 :: cr := by
          cases cl with
          | nil => rw [List.length_nil] at hcn; omega
          | cons c r => exact ⟨c, r, rfl⟩
        rw [List.all_cons, Bool.and_eq_true] at hlow
        obtain ⟨hc0, hcr⟩ := hlow
        obtain ⟨j0, rfl⟩ : ∃ j : Fin 26, c0 = 97 + j.val := by
          simp only [lowc, Bool.and_eq_true, decide_eq_true_eq] at hc0
          exact ⟨⟨c0 - 97, by omega⟩, by show c0 = 97 + (c0 - 97); omega⟩
        have hcrl : cr.length ≤ 7 := by rw [List.length_cons] at hcn; omega
        refine ⟨_, rfl, rfl, _, rfl, .inl ⟨sp, _, 0, .str (sgn (97 + j0.val)), rfl, rfl, sq_of h7, atI_nat (j := 0) rfl, ?_⟩⟩
        refine ⟨LET, sgn (97 + j0.val), j0.val, [], rfl, rfl, let_occ j0, ?_⟩
        refine ⟨⟨_, rfl⟩, _, rfl, 1, rfl, .inl ⟨sp, _, rfl, sq_of h7, fun l8 hl8 => ?_⟩⟩
        generalize hq8 : upd H7 l8 _ = H8
        obtain ⟨e8, h8⟩ := gen1 hq8 hl8
        have h8 : H8 l8 = some (.lst ((cr.map sgn).map V.str)) := by
          rw [h8]
          have z := cut_from (((((97 + j0.val) :: cr : List Nat)).map sgn).map V.str) 1
          rw [show (some (1 : Int)) = some ((1 : Nat) : Int) from rfl, z]
          rfl
        refine ⟨_, l8, cr.map sgn, rfl, rfl, .inl (sq_of h8), ?_, ?_⟩
        · have z := sum_sgn cr
          rw [z, List.length_map]
          show cr.length + cr.length * 0 ≤ 16777216
          omega
        generalize hR : Txt.join _ (cr.map sgn) = R
        have hR : R = SX.S cr := hR.symm.trans (join_sgn cr)
        refine ⟨by show 2 ≤ sizeLine; decide, fun t9 ht9 => ?_⟩
        generalize hq9 : upd H8 t9 _ = H9
        obtain ⟨e9, h9⟩ := gen1 hq9 ht9
        refine ⟨t9, _, rfl, st_of h9, rfl, _, _, rfl, _, _, rfl, rfl, ?_⟩
        have ee := (((e5.trans e6).trans e7).trans e8).trans e9
        -- some = words[at:] * int(take(8) == 0) + ..
        refine ⟨_, rfl, _, rfl, _, rfl, .inl ⟨wp, _, rfl, sq_of (ee _ _ hw), fun l10 hl10 => ?_⟩⟩
        generalize hq10 : upd H9 l10 _ = H10
        obtain ⟨e10, h10⟩ := gen1 hq10 hl10
        refine ⟨_, rfl, b, 8, rfl, hb.ex ((e3.trans ee).trans e10), by decide, by decide, fun H11 r r0 r1 e11 => ?_⟩
        refine .inl ⟨rfl, .inr ⟨_, rfl, ?_⟩⟩
        have hz10 : H10 l10 = some (.lst ((WL.drop j0.val).map V.str)) := by
          rw [h10, cut_from, List.map_drop]
        obtain ⟨kk, hkk⟩ : ∃ kk : Nat, (kk = 0 ∨ kk = 1) ∧ (if decide (V.int r = V.int 0) = true then (1 : Int) else 0) = (kk : Int) := by
          by_cases hz : decide (V.int r = V.int 0) = true
          · exact ⟨1, .inr rfl, by rw [if_pos hz]; rfl⟩
          · exact ⟨0, .inl rfl, by rw [if_neg hz]; rfl⟩
        refine .inr ⟨l10, (kk : Int), (WL.drop j0.val).map V.str, rfl, by rw [hkk.2], e11 _ _ hz10, by omega, by omega, ?_, fun l12 hl12 => ?_⟩
        · refine sz_of ?_
          rw [List.length_map, List.length_drop, Int.toNat_natCast]
          have z : WL.length = 20 := rfl
          rw [z]
          rcases hkk.1 with rfl | rfl <;> omega
        generalize hq12 : upd H11 l12 _ = H12
        obtain ⟨e12, h12⟩ := gen1 hq12 hl12
        obtain ⟨W0, hW0, hW1, hW2⟩ : ∃ W0 : List Str, H12 l12 = some (.lst (W0.map V.str)) ∧ W0.length ≤ 20 ∧ W0.all isNm = true := by
          rw [h12, Int.toNat_natCast]
          rcases hkk.1 with rfl | rfl
          · exact ⟨[], rfl, by decide, rfl⟩
          · refine ⟨WL.drop j0.val, by simp, ?_, ?_⟩
            · rw [List.length_drop]
              have z : WL.length = 20 := rfl
              omega
            · rw [List.all_eq_true]
              exact fun x hx => (List.all_eq_true.mp wl_nm) x (List.drop_subset _ _ hx)
        refine .inr (.inr ⟨_, rfl, _, rfl, _, rfl, .inr (.inr ⟨LET, rfl, by decide, ?_⟩)⟩)
        refine ⟨_, rfl, _, rfl, _, rfl, .inr (.inr ⟨LET, rfl, by decide, ?_⟩)⟩
        refine .inr (.inl ⟨_, _, rfl, rfl, sz_of (Nat.le_trans (let_cut j0) (by decide)), _, rfl, ?_⟩)
        obtain ⟨rnd, rlow, rlen⟩ := let_rot j0
        generalize hrot : (cutS LET (some (j0.val : Int)) none ++ cutS LET none (some (j0.val : Int))) = ROT at rnd rlow rlen
        have eW := (ee.trans e10).trans (e11.trans e12)
        have hrotl : ROT.cps.size = 26 := by rw [← rlen, Array.length_toList]
        refine lcG (walk_str (z := ROT)) (by rw [hrotl]; decide) trivial (fun _ _ _ _ => trivial) (fun _ _ _ _ h => ex_eq h.1) (fun i ys _ => ys = (((TL.tl ROT).take i).map fun c => sgn c ++ R).map V.str) (fun _ _ _ _ _ h => h) rfl ?_ ?_
        · rintro j x H13 H14 ys hj e13 ⟨rfl, c, hc, rfl⟩ rfl N N0 kN kN0
          refine ⟨rfl, ?_⟩
          refine ⟨_, rfl, _, rfl, .inr (.inl ⟨sgn c, R, rfl, rfl, ?_, ?_⟩)⟩
          · rw [hR]
            show 1 + cr.toArray.size ≤ sizeLine
            refine sz_of ?_
            rw [List.size_toArray]
            omega
          · refine kN _ _ (Ex.refl _) ?_
            have hc' : (TL.tl ROT)[j]? = some c := by rw [Array.getElem?_toList]; exact hc
            rw [List.take_add_one, hc', List.map_append, List.map_append]
            rfl
        · rintro l15 H15 ys hl15 e15 h15 _ rfl
          rw [hrotl, List.take_of_length_le (by rw [rlen]; decide)] at h15
          have c2l : ((TL.tl ROT).map fun c => sgn c ++ R).length = 26 := by rw [List.length_map]; exact rlen
          refine .inr (.inr (.inl ⟨l12, l15, W0.map V.str, ((TL.tl ROT).map fun c => sgn c ++ R).map V.str, rfl, rfl, e15 _ _ hW0, h15, ?_, fun l16 hl16 => ?_⟩))
          · rw [List.length_map, List.length_map]
            refine sz_of ?_
            omega
          generalize hq16 : upd H15 l16 _ = H16
          obtain ⟨e16, h16⟩ := gen1 hq16 hl16
          rw [← List.map_append] at h16
          have eA := (eW.trans e15).trans e16
          have hf16 := eA _ _ hf
          have hcl2 : (W0 ++ (TL.tl ROT).map fun c => sgn c ++ R).length ≤ 46 := by
            rw [List.length_append, c2l]
            omega
          have hcn2 : ∀ z ∈ (W0 ++ (TL.tl ROT).map fun c => sgn c ++ R), isNm z = true := by
            intro z hz
            rcases List.mem_append.mp hz with hz | hz
            · exact (List.all_eq_true.mp hW2) z hz
            · obtain ⟨c, hc, rfl⟩ := List.mem_map.mp hz
              have lc := (List.all_eq_true.mp rlow) c hc
              have e1 : TL.tl (sgn c ++ R) = c :: cr := by
                rw [TL.tl_append, hR]
                rfl
              unfold isNm
              rw [TL.len_tl, e1, List.all_cons, lc, hcr, List.length_cons]
              simp
              omega
          have hmore : ∃ z ∈ (W0 ++ (TL.tl ROT).map fun c => sgn c ++ R), z ∉ ns := by
            obtain ⟨z, hz, hz2⟩ := more_left ((TL.tl ROT).map fun c => sgn c ++ R) ns (by
              rw [List.Nodup, List.pairwise_map]
              refine List.Pairwise.imp (fun {a b} hab e => hab ?_) rnd
              have q := congrArg TL.tl e
              rw [TL.tl_append, TL.tl_append] at q
              exact (List.cons.inj q).1) (by rw [c2l]; omega)
            exact ⟨z, List.mem_append_right _ hz, hz2⟩
          generalize (W0 ++ (TL.tl ROT).map fun c => sgn c ++ R) = C at h16 hcl2 hcn2 hmore
          refine ⟨_, rfl, .inl ⟨rfl, _, sq_of hf16⟩, .inl ⟨_, rfl, l16, rfl, ⟨_, sq_of h16⟩, ?_⟩⟩
          refine lcG (walk_list (xs := C.map V.str)) (by rw [List.length_map]; omega) (sq_of h16) (fun _ _ e h => ex_l e h) yAt_ex (fun i ys _ => ys = ((C.take i).filter fun z => !decide (z ∈ ns)).map V.str) (fun _ _ _ _ _ h => h) rfl ?_ ?_
          · rintro j x H17 H18 ys hj e17 ⟨rfl, hx⟩ rfl N N0 kN kN0
            obtain ⟨z, hz, rfl⟩ := str_at hx
            refine ⟨rfl, ?_⟩
            refine ⟨_, rfl, _, rfl, .inl ⟨fp, _, rfl, .inl (sq_of (e17 _ _ hf16)), rfl, flat_strs ns, _, rfl, ?_⟩⟩
            have hin : (if true = true then !inV (V.str z) (ns.map V.str) else inV (V.str z) (ns.map V.str)) = !decide (z ∈ ns) := by
              rw [if_pos rfl, in_strs]
            rw [hin]
            by_cases hm : (!decide (z ∈ ns)) = true
            · rw [hm]
              refine iteT ⟨_, rfl, kN _ _ (Ex.refl _) ?_⟩
              rw [List.take_add_one, hz, List.filter_append, Option.toList, List.filter_cons, if_pos hm, List.map_append]
              rfl
            · rw [show (!decide (z ∈ ns)) = false by simpa using hm]
              refine iteF (kN0 _ (Ex.refl _) ?_)
              rw [List.take_add_one, hz, List.filter_append, Option.toList, List.filter_cons, if_neg hm, List.map_append]
              simp
          · rintro l17 H17 ys hl17 e17 h17 _ rfl
            rw [List.take_of_length_le (by rw [List.length_map]; exact Nat.le_refl _)] at h17
            obtain ⟨z0, zr, hz0⟩ : ∃ z0 zr, (C.filter fun z => !decide (z ∈ ns)) = z0 :: zr := by
              cases hc : (C.filter fun z => !decide (z ∈ ns)) with
              | nil =>
                obtain ⟨z, hz, hz2⟩ := hmore
                have q : z ∈ C.filter fun z => !decide (z ∈ ns) := List.mem_filter.mpr ⟨hz, by simpa using hz2⟩
                rw [hc] at q
                cases q
              | cons z0 zr => exact ⟨z0, zr, rfl⟩
            rw [hz0] at h17
            have hm0 : z0 ∈ C.filter fun z => !decide (z ∈ ns) := by rw [hz0]; exact List.mem_cons_self
            obtain ⟨hz1, hz2⟩ := List.mem_filter.mp hm0
            have hz2 : z0 ∉ ns := by simpa using hz2
            refine .inl ⟨l17, _, 0, .str z0, rfl, rfl, sq_of h17, atI_nat (j := 0) rfl, ?_⟩
            have hf17 := e17 _ _ hf16
            refine ⟨fp, _, .str z0, rfl, rfl, hf17, ?_, ?_⟩
            · rw [List.length_map]
              refine sz_lt ?_
              omega
            · have fe := (e3.trans eA).trans e17
              have nfw : wp ≠ fp := fun z => by
                have q := fe wp
                rw [z] at hwp
                rw [h1] at hwp
                cases hwp
              refine ⟨ns ++ [z0], _, _, _, _, _, rfl, Ex.mut fe hfp, ?_, ?_, ?_, ?_, ?_⟩
              · rw [upd_same, List.map_append]
                rfl
              · rw [upd_ne nfw]
                exact e17 _ _ (eA _ _ hw)
              · rw [List.length_append, hl]
                rfl
              · rw [List.nodup_append]
                refine ⟨hnd, by simp, fun a ha b hb e => hz2 ?_⟩
                rw [List.mem_singleton] at hb
                rw [← hb, ← e]
                exact ha
              · intro z hz
                rcases List.mem_append.mp hz with hz | hz
                · exact hnm z hz
                · rw [List.mem_singleton] at hz
                  rw [hz]
                  exact hcn2 z0 hz1
    · rintro σ H3 ⟨ns, x5, x6, x8, x9, x10, rfl, e3, hf, hw, hl, hnd, hnm⟩
      exact ⟨_, rfl, q _ fp ns e3 hfp hf (by omega) hnd hnm⟩
end
/-! ### atoms and facts as data -/
abbrev A3 := Str × Str × Str
def sl3 (a : A3) : List Str := [a.1, a.2.1, a.2.2]
def AtomAt (H : Hp) (v : V) (a : A3) : Prop := ∃ p, v = .ref p ∧ H p = some (.tup ((sl3 a).map V.str))
theorem AtomAt.tex {H H' : Hp} {v : V} {a : A3} (e : TEx H H') (h : AtomAt H v a) : AtomAt H' v a := by
  obtain ⟨p, h1, h2⟩ := h
  exact ⟨p, h1, e _ _ h2⟩
theorem AtomAt.ex {H H' : Hp} {v : V} {a : A3} (e : Ex H H') (h : AtomAt H v a) : AtomAt H' v a := h.tex (TEx.of e)
def AllAt (H : Hp) : List V → List A3 → Prop
  | [], [] => True
  | v :: vs, a :: as => AtomAt H v a ∧ AllAt H vs as
  | _, _ => False
theorem AllAt.tex {H H' : Hp} (e : TEx H H') : ∀ {vs : List V} {as : List A3}, AllAt H vs as → AllAt H' vs as
  | [], [], _ => trivial
  | _ :: _, _ :: _, h => ⟨h.1.tex e, AllAt.tex e h.2⟩
  | [], _ :: _, h => h.elim
  | _ :: _, [], h => h.elim
theorem AllAt.len {H : Hp} : ∀ {vs : List V} {as : List A3}, AllAt H vs as → vs.length = as.length
  | [], [], _ => rfl
  | _ :: vs, _ :: as, h => by rw [List.length_cons, List.length_cons, AllAt.len h.2]
  | [], _ :: _, h => h.elim
  | _ :: _, [], h => h.elim
theorem AllAt.at {H : Hp} : ∀ {vs : List V} {as : List A3} {i : Nat} {v : V}, AllAt H vs as → vs[i]? = some v → ∃ a, as[i]? = some a ∧ AtomAt H v a
  | _ :: _, a :: _, 0, _, h, e => ⟨a, rfl, by cases e; exact h.1⟩
  | _ :: vs, _ :: as, i + 1, v, h, e => AllAt.at (vs := vs) (as := as) (i := i) h.2 e
  | [], [], _, _, _, e => by simp at e
  | [], _ :: _, _, _, h, _ => h.elim
  | _ :: _, [], _, _, h, _ => h.elim
theorem AllAt.snoc {H : Hp} {v : V} {a : A3} (hv : AtomAt H v a) : ∀ {vs : List V} {as : List A3}, AllAt H vs as → AllAt H (vs ++ [v]) (as ++ [a])
  | [], [], _ => ⟨hv, trivial⟩
  | _ :: vs, _ :: as, h => ⟨h.1, AllAt.snoc hv h.2⟩
  | [], _ :: _, h => h.elim
  | _ :: _, [], h => h.elim
def FactAt (H : Hp) (v : V) (as : List A3) : Prop := ∃ p xs, v = .ref p ∧ H p = some (.tup xs) ∧ AllAt H xs as
theorem FactAt.ex {H H' : Hp} {v : V} {as : List A3} (e : Ex H H') (h : FactAt H v as) : FactAt H' v as := by
  obtain ⟨p, xs, h1, h2, h3⟩ := h
  exact ⟨p, xs, h1, e _ _ h2, h3.tex (TEx.of e)⟩
def atD (a : A3) : PyData := .tuple ((sl3 a).map PyData.str)
theorem dp_strs {K : PySem.W.Frag} {H : Hp} : ∀ ns : List Str, DpAll K H (ns.map V.str) (ns.map PyData.str)
  | [] => .nil
  | n :: ns => .cons (.str n) (dp_strs ns)
theorem AtomAt.dp {K : PySem.W.Frag} {H : Hp} {v : V} {a : A3} (h : AtomAt H v a) : Dp K H v (atD a) := by
  obtain ⟨p, rfl, h2⟩ := h
  exact .tup (st_of h2) (dp_strs _)
theorem AllAt.dp {K : PySem.W.Frag} {H : Hp} : ∀ {vs : List V} {as : List A3}, AllAt H vs as → DpAll K H vs (as.map atD)
  | [], [], _ => .nil
  | _ :: vs, _ :: as, h => .cons h.1.dp (AllAt.dp h.2)
  | [], _ :: _, h => h.elim
  | _ :: _, [], h => h.elim
def faD (as : List A3) : PyData := .tuple (as.map atD)
theorem FactAt.dp {K : PySem.W.Frag} {H : Hp} {v : V} {as : List A3} (h : FactAt H v as) : Dp K H v (faD as) := by
  obtain ⟨p, xs, rfl, h2, h3⟩ := h
  exact .tup (st_of h2) h3.dp
/-! ### the mathematics -/
def isR (r : Str) : Bool := r == "eq" || r == "lt" || r == "gt" || r == ""
def trR (r : Str) : Str := if r = "lt" then "gt" else if r = "gt" then "lt" else r
def trA (a : A3) : A3 := (trR a.1, a.2.2, a.2.1)
def okp (p a : Str) : Bool := (("" : Str) == p) || (a == p)
def fitL (p a : A3) : List Bool := List.zipWith okp (sl3 p) (sl3 a)
def fitB (p a : A3) : Bool := (fitL p a).all id
theorem isR_cases {r : Str} (h : isR r = true) : r = "eq" ∨ r = "lt" ∨ r = "gt" ∨ r = "" := by
  simp only [isR, Bool.or_eq_true, beq_iff_eq] at h
  rcases h with ((h | h) | h) | h
  · exact .inl h
  · exact .inr (.inl h)
  · exact .inr (.inr (.inl h))
  · exact .inr (.inr (.inr h))
theorem trR_trR {r : Str} (h : isR r = true) : trR (trR r) = r := by
  rcases isR_cases h with rfl | rfl | rfl | rfl <;> decide +kernel
theorem trR_isR {r : Str} (h : isR r = true) : isR (trR r) = true := by
  rcases isR_cases h with rfl | rfl | rfl | rfl <;> decide +kernel
theorem trA_trA {a : A3} (h : isR a.1 = true) : trA (trA a) = a := by
  obtain ⟨r, l, t⟩ := a
  show (trR (trR r), l, t) = (r, l, t)
  rw [trR_trR h]
theorem okp_trR {p a : Str} (hp : isR p = true) (ha : isR a = true) : okp (trR p) a = okp p (trR a) := by
  rcases isR_cases hp with rfl | rfl | rfl | rfl <;> rcases isR_cases ha with rfl | rfl | rfl | rfl <;> decide +kernel
theorem fitB_eq (p a : A3) : fitB p a = (okp p.1 a.1 && (okp p.2.1 a.2.1 && okp p.2.2 a.2.2)) := by
  show (okp p.1 a.1 && (okp p.2.1 a.2.1 && (okp p.2.2 a.2.2 && true))) = _
  rw [Bool.and_true]
theorem fitB_tr {p a : A3} (hp : isR p.1 = true) (ha : isR a.1 = true) : fitB (trA p) a = fitB p (trA a) := by
  rw [fitB_eq, fitB_eq]
  show (okp (trR p.1) a.1 && (okp p.2.2 a.2.1 && okp p.2.1 a.2.2)) = (okp p.1 (trR a.1) && (okp p.2.1 a.2.2 && okp p.2.2 a.2.1))
  rw [okp_trR hp ha, Bool.and_comm (okp p.2.2 a.2.1)]
theorem okp_self (a : Str) : okp a a = true := by simp [okp]
theorem fitB_self (a : A3) : fitB a a = true := by
  rw [fitB_eq, okp_self, okp_self, okp_self]
  rfl
def lay (z : Str) : Bool := (PyData.str z).canLay0
def sOk (a : A3) : Bool := lay a.1 && (lay a.2.1 && lay a.2.2)
theorem shp_at {a : A3} (h : sOk a = true) : SeqAt.shaped (atD a) = true := by
  show ((lay a.1 && (lay a.2.1 && (lay a.2.2 && true))) && true) = true
  rw [Bool.and_true, Bool.and_true]
  exact h
theorem nm_ok {z : Str} (h : isNm z = true) : lay z = true := by
  unfold isNm at h
  rw [Bool.and_eq_true] at h
  show z.cps.all (· < 0x110000) = true
  rw [← Array.all_toList, List.all_eq_true]
  intro c hc
  have q := (List.all_eq_true.mp h.2) c hc
  simp only [lowc, Bool.and_eq_true, decide_eq_true_eq] at q
  exact decide_eq_true (by omega)
theorem rel_ok {r : Str} (h : isR r = true) : lay r = true := by
  rcases isR_cases h with rfl | rfl | rfl | rfl <;> decide +kernel
theorem eqv_at (a b : A3) : PyData.eqv (atD a) (atD b) = decide (a = b) := by
  obtain ⟨a1, a2, a3⟩ := a
  obtain ⟨b1, b2, b3⟩ := b
  show (a1 == b1 && (a2 == b2 && (a3 == b3 && true))) = decide ((a1, a2, a3) = (b1, b2, b3))
  rw [Bool.and_true]
  by_cases h1 : a1 = b1 <;> by_cases h2 : a2 = b2 <;> by_cases h3 : a3 = b3 <;> simp [h1, h2, h3]
theorem eqv_ats : ∀ as bs : List A3, PyData.eqvAll (as.map atD) (bs.map atD) = decide (as = bs)
  | [], [] => rfl
  | [], _ :: _ => rfl
  | _ :: _, [] => rfl
  | a :: as, b :: bs => by
    show (PyData.eqv (atD a) (atD b) && PyData.eqvAll (as.map atD) (bs.map atD)) = decide (a :: as = b :: bs)
    rw [eqv_at, eqv_ats as bs]
    by_cases h1 : a = b <;> by_cases h2 : as = bs <;> simp [h1, h2]
theorem shp_fa {as : List A3} (h : as.length ≤ 2) (hs : ∀ a ∈ as, sOk a = true) : SeqAt.shaped (faD as) = true := by
  have hk : ∀ a ∈ as, (atD a).canLay0 = true := fun a ha => (Bool.and_eq_true_iff.mp (shp_at (hs a ha))).1
  match as, h, hk with
  | [], _, _ => rfl
  | [a], _, hk =>
    show (((atD a).canLay0 && true) && true) = true
    rw [hk a (by simp)]
    rfl
  | [a, b], _, hk =>
    show (((atD a).canLay0 && ((atD b).canLay0 && true)) && true) = true
    rw [hk a (by simp), hk b (by simp)]
    rfl
  | _ :: _ :: _ :: _, h, _ => simp at h
theorem eqv_fa (as bs : List A3) : PyData.eqv (faD as) (faD bs) = decide (as = bs) := eqv_ats as bs
def isR3 (r : Str) : Bool := r == "eq" || r == "lt" || r == "gt"
theorem isR_of {r : Str} (h : isR3 r = true) : isR r = true := by
  unfold isR
  unfold isR3 at h
  rw [h]
  rfl
theorem rel_at {r : Int} (h0 : 0 ≤ r) (h1 : r < 4) : ∃ z : Str, isR3 z = true ∧ atI [V.str "eq", V.str "lt", V.str "gt", V.str "lt"] r = some (.str z) := by
  have q : r = 0 ∨ r = 1 ∨ r = 2 ∨ r = 3 := by omega
  rcases q with rfl | rfl | rfl | rfl
  · exact ⟨"eq", by decide +kernel, rfl⟩
  · exact ⟨"lt", by decide +kernel, rfl⟩
  · exact ⟨"gt", by decide +kernel, rfl⟩
  · exact ⟨"lt", by decide +kernel, rfl⟩
theorem okp_full {p a : Str} (h : p ≠ "") : okp p a = decide (p = a) := by
  unfold okp
  have h1 : (("" : Str) == p) = false := beq_eq_false_iff_ne.mpr fun e => h e.symm
  rw [h1, Bool.false_or]
  by_cases e : p = a
  · subst e
    simp
  · have e2 : ¬ a = p := fun z => e z.symm
    have e3 : (a == p) = false := beq_eq_false_iff_ne.mpr e2
    rw [e3]
    simp [e]
theorem fitB_full {p a : A3} (h1 : p.1 ≠ "") (h2 : p.2.1 ≠ "") (h3 : p.2.2 ≠ "") : fitB p a = decide (p = a) := by
  obtain ⟨p1, p2, p3⟩ := p
  obtain ⟨a1, a2, a3⟩ := a
  rw [fitB_eq]
  show (okp p1 a1 && (okp p2 a2 && okp p3 a3)) = _
  rw [okp_full h1, okp_full h2, okp_full h3]
  by_cases e1 : p1 = a1 <;> by_cases e2 : p2 = a2 <;> by_cases e3 : p3 = a3 <;> simp [e1, e2, e3]
theorem fitB_none (a : A3) : fitB ("", "", "") a = true := by
  rw [fitB_eq]
  show ((("" : Str) == "" || _) && (((("" : Str) == "") || _) && ((("" : Str) == "") || _))) = true
  rw [show (("" : Str) == "") = true from by decide +kernel]
  rfl
theorem isR3_ne {r : Str} (h : isR3 r = true) : r ≠ "" := by
  intro e
  subst e
  revert h
  decide +kernel
theorem nm_ne {z : Str} (h : isNm z = true) : z ≠ "" := by
  intro e
  subst e
  revert h
  decide +kernel
abbrev s_l_atom : Stmt := top 29
theorem sc_l_atom : FnScope ["_law_bag_here", "_law_things"] ["_law_bag_here", "_law_things"] (defScope s_l_atom) := ⟨rfl, rfl, rfl, by decide +kernel, rfl, by decide +kernel, by decide +kernel⟩
section
variable {P : Program} {w : World} {K : PySem.W.Frag} {mg : Str → Option Value} {base : Heap}
def spAtom : Sp := fun vs H Q _ => ∃ (b p : Addr) (ns : List Str), vs = [.ref b, .ref p] ∧ BagAt H b ∧ H p = some (.lst (ns.map V.str)) ∧ ns ≠ [] ∧ ns.length ≤ 30 ∧
  ∀ (H' : Hp) (v : V) (a : A3), Ex H H' → AtomAt H' v a → isR3 a.1 = true → a.2.1 ∈ ns → a.2.2 ∈ ns → Q v H'
theorem ok_atom (T : Txt0 mg) (D : Df K mg "_law_atom" s_l_atom) (c_l_take : CalG P w K mg base 1 "_law_take" spTake) (c_l_some : CalG P w K mg base 2 "_law_some" (spSome K)) : CalG P w K mg base 3 "_law_atom" spAtom := by
  refine cal_mk D sc_l_atom (fun _ _ _ _ _ _ us hl => match us, hl with | [_, _], _ => rfl) (fun vs H Q E h => ?_) (fun f cdv A outer s H vs Q E hr hG h => ?_)
  · obtain ⟨b, p, ns, rfl, _⟩ := h
    rfl
  · obtain ⟨b, p, ns, rfl, hb, hp, hne, hl, q⟩ := h
    refine ⟨_, (pss_one (ps_ret (pe_tup (pa_cons (pe_ix ixAny (pe_lst (pa_cons pe_str (pa_cons pe_str (pa_cons pe_str (pa_cons pe_str pa_nil))))) (pe_cG c_l_take hr hG (by decide) rfl (pa_cons (pv 0) (pa_cons pe_int pa_nil))) (fun _ _ => rfl)) (pa_cons (pe_cG c_l_some hr hG (by decide) rfl (pa_cons (pv 0) (pa_cons (pv 1) pa_nil))) (pa_cons (pe_cG c_l_some hr hG (by decide) rfl (pa_cons (pv 0) (pa_cons (pv 1) pa_nil))) pa_nil)))))), ?_⟩
    refine ⟨by show 4 ≤ sizeLine; decide, fun l hl1 => ?_⟩
    generalize hq1 : upd H l _ = H1
    obtain ⟨e1, h1⟩ := gen1 hq1 hl1
    refine ⟨_, rfl, b, 4, rfl, hb.ex e1, by decide, by decide, fun H2 r r0 r1 e2 => ?_⟩
    obtain ⟨z, hz, hat⟩ := rel_at r0 r1
    refine .inl ⟨l, _, r, _, rfl, rfl, sq_of (e2 _ _ h1), hat, ?_⟩
    have e12 := e1.trans e2
    have hne' : ns.map V.str ≠ [] := fun e => hne (List.map_eq_nil_iff.mp e)
    refine ⟨_, rfl, _, rfl, b, p, _, rfl, hb.ex e12, .inl (sq_of (e12 _ _ hp)), hne', by rw [List.length_map]; omega, fun H3 i x e3 hx => ?_⟩
    obtain ⟨x1, hx1, rfl⟩ := str_at hx
    refine ⟨_, rfl, _, rfl, b, p, _, rfl, hb.ex (e12.trans e3), .inl (sq_of (e3 _ _ (e12 _ _ hp))), hne', by rw [List.length_map]; omega, fun H4 j y e4 hy => ?_⟩
    obtain ⟨y1, hy1, rfl⟩ := str_at hy
    refine ⟨by show 3 ≤ sizeLine; decide, fun t ht => ?_⟩
    exact q _ _ (z, x1, y1) (((e12.trans e3).trans e4).trans (Ex.new ht)) ⟨t, rfl, upd_same⟩ hz (List.mem_of_getElem? hx1) (List.mem_of_getElem? hy1)
end
abbrev s_l_fact : Stmt := top 30
theorem sc_l_fact : FnScope ["_law_bag_here", "_law_things", "_law_k"] ["_law_bag_here", "_law_things"] (defScope s_l_fact) := ⟨rfl, rfl, rfl, by decide +kernel, rfl, by decide +kernel, by decide +kernel⟩
section
variable {P : Program} {w : World} {K : PySem.W.Frag} {mg : Str → Option Value} {base : Heap}
def spFact : Sp := fun vs H Q _ => ∃ (b p : Addr) (ns : List Str), vs = [.ref b, .ref p] ∧ BagAt H b ∧ H p = some (.lst (ns.map V.str)) ∧ ns ≠ [] ∧ ns.length ≤ 30 ∧
  ∀ (H' : Hp) (v : V) (as : List A3), Ex H H' → FactAt H' v as → 1 ≤ as.length → as.length ≤ 2 → (∀ a ∈ as, isR3 a.1 = true ∧ a.2.1 ∈ ns ∧ a.2.2 ∈ ns) → Q v H'
theorem ok_fact (T : Txt0 mg) (D : Df K mg "_law_fact" s_l_fact) (c_l_take : CalG P w K mg base 1 "_law_take" spTake) (c_l_atom : CalG P w K mg base 3 "_law_atom" spAtom) : CalG P w K mg base 4 "_law_fact" spFact := by
  refine cal_mk D sc_l_fact (fun _ _ _ _ _ _ us hl => match us, hl with | [_, _], _ => rfl) (fun vs H Q E h => ?_) (fun f cdv A outer s H vs Q E hr hG h => ?_)
  · obtain ⟨b, p, ns, rfl, _⟩ := h
    rfl
  · obtain ⟨b, p, ns, rfl, hb, hp, hne, hl, q⟩ := h
    refine ⟨_, (pss_one (ps_ret (pe_callTy call_tuple_of (by rfl) T.tuple (by decide +kernel) (pa_cons (pe_lcO (pe_lc (own := [("_law_k", 2)]) rfl sc_l_fact.nd (pi_range1 rfl T.range (pa_cons (pe_op opAdd pe_int (pe_op op_fdivW (pe_cG c_l_take hr hG (by decide) rfl (pa_cons (pv 0) (pa_cons pe_int pa_nil))) pe_int)) pa_nil)) (blkOk_by (own := [("_law_k", 2)]) (N := ["_law_bag_here", "_law_things", "_law_k"]) (sc := defScope s_l_fact) (by first | decide +kernel | kernel_rfl)) (fun _ _ _ _ _ => pg_name (i := 2) sc_l_fact.nd rfl (Or.inl rfl)) (fun _ _ _ _ _ => pts_nil) (fun _ _ _ _ _ => pe_cG c_l_atom hr hG (by decide) rfl (pa_cons (pv 0) (pa_cons (pv 1) pa_nil))))) pa_nil)))), ?_⟩
    refine ⟨_, rfl, b, 3, rfl, hb, by decide, by decide, fun H1 r r0 r1 e1 => ?_⟩
    refine ⟨_, _, rfl, rfl, wide_div (b := 30) (by decide) (by decide) (by decide) (by decide), .inl ⟨1, _, rfl, rfl, ?_⟩⟩
    obtain ⟨n, hn, hn1, hn2⟩ : ∃ n : Nat, 1 + r / 2 = (n : Int) ∧ 1 ≤ n ∧ n ≤ 2 := ⟨(1 + r / 2).toNat, by omega, by omega, by omega⟩
    refine ⟨(n : Int), by show [V.int (1 + r / 2)] = _; rw [hn], by omega, by omega, ?_⟩
    refine lcG (walk_range (lo := 0) (n := (n : Int).toNat)) (by omega) trivial (fun _ _ _ _ => trivial) yFn_ex (fun i ys H' => ∃ as : List A3, AllAt H' ys as ∧ as.length = i ∧ ∀ a ∈ as, isR3 a.1 = true ∧ a.2.1 ∈ ns ∧ a.2.2 ∈ ns)
      (fun _ _ _ _ e ⟨as, h1, h2⟩ => ⟨as, h1.tex e, h2⟩) ⟨[], trivial, rfl, fun a ha => by cases ha⟩ ?_ ?_
    · rintro i x H2 H3 ys hi e2 ⟨rfl, rfl⟩ ⟨as, hA, hal, hR⟩ N N0 kN kN0
      refine ⟨rfl, ?_⟩
      have e12 := e1.trans e2
      refine ⟨_, rfl, _, rfl, b, p, ns, rfl, hb.ex e12, e12 _ _ hp, hne, hl, fun H4 v a e4 ha h1 h2 h3 => ?_⟩
      refine kN _ _ e4 ⟨as ++ [a], AllAt.snoc ha (hA.tex (TEx.of e4)), by rw [List.length_append, hal]; rfl, fun x hx => ?_⟩
      rcases List.mem_append.mp hx with hx | hx
      · exact hR x hx
      · rw [List.mem_singleton] at hx
        rw [hx]
        exact ⟨h1, h2, h3⟩
    · rintro l H2 ys hl2 e2 h2 _ ⟨as, hA, hal, hR⟩
      refine ⟨l, _, rfl, .inl ⟨sq_of h2, fun x hx => ?_⟩⟩
      have hal : as.length = n := by rw [hal]; rfl
      exact q _ _ as ((e1.trans e2).trans (Ex.new hx)) ⟨x, ys, rfl, upd_same, hA.tex (TEx.of (Ex.new hx))⟩ (by omega) (by omega) hR
end
theorem fin_at {a : A3} (h : sOk a = true) (h1 : a.1.length ≤ 8) (h2 : a.2.1.length ≤ 8) (h3 : a.2.2.length ≤ 8) : fin 1 300 (atD a) := by
  unfold sOk lay at h
  rw [Bool.and_eq_true, Bool.and_eq_true] at h
  refine (fin_tup (n := 0) (W := 82) (m := 3) (fun d hd => ?_) (Nat.le_refl _)).mono (by decide) (by decide)
  have hd : d ∈ [PyData.str a.1, PyData.str a.2.1, PyData.str a.2.2] := hd
  simp only [List.mem_cons, List.not_mem_nil, or_false] at hd
  rcases hd with rfl | rfl | rfl
  · exact fin_str (L := 8) h.1 h1
  · exact fin_str (L := 8) h.2.1 h2
  · exact fin_str (L := 8) h.2.2 h3
def gA (a : A3) : Prop := sOk a = true ∧ a.1.length ≤ 8 ∧ a.2.1.length ≤ 8 ∧ a.2.2.length ≤ 8
theorem gA.fin {a : A3} (h : gA a) : fin 1 300 (atD a) := fin_at h.1 h.2.1 h.2.2.1 h.2.2.2
theorem fin_fa {as : List A3} (h : ∀ a ∈ as, gA a) (h2 : as.length ≤ 2) : Own.fin 2 700 (faD as) := by
  refine (fin_tup (n := 1) (W := 300) (m := 2) (fun d hd => ?_) (by rw [List.length_map]; exact h2)).mono (by decide) (by decide)
  obtain ⟨a, ha, rfl⟩ := List.mem_map.mp hd
  exact (h a ha).fin
theorem rel_len {r : Str} (h : isR r = true) : r.length ≤ 8 := by
  rcases isR_cases h with rfl | rfl | rfl | rfl <;> decide
theorem nm_len {z : Str} (h : isNm z = true) : z.length ≤ 8 := by
  unfold isNm at h
  simp only [Bool.and_eq_true, decide_eq_true_eq] at h
  exact h.1.2
theorem gA_of {ns : List Str} (hnm : ∀ z ∈ ns, isNm z = true) {a : A3} (h0 : isR a.1 = true) (h1 : a.2.1 = "" ∨ a.2.1 ∈ ns) (h2 : a.2.2 = "" ∨ a.2.2 ∈ ns) : gA a := by
  have ok : ∀ z : Str, (z = "" ∨ z ∈ ns) → lay z = true ∧ z.length ≤ 8 := fun z hz => by
    rcases hz with rfl | hz
    · exact ⟨by decide +kernel, by decide⟩
    · exact ⟨nm_ok (hnm z hz), nm_len (hnm z hz)⟩
  refine ⟨?_, rel_len h0, (ok _ h1).2, (ok _ h2).2⟩
  show (lay a.1 && (lay a.2.1 && lay a.2.2)) = true
  rw [rel_ok h0, (ok _ h1).1, (ok _ h2).1]
  rfl
theorem gA.tr {a : A3} (h : gA a) (hr : isR a.1 = true) : gA (trA a) := by
  obtain ⟨h1, h2, h3, h4⟩ := h
  have hr2 := trR_isR hr
  unfold sOk at h1
  rw [Bool.and_eq_true, Bool.and_eq_true] at h1
  refine ⟨?_, rel_len hr2, h4, h3⟩
  show (lay (trR a.1) && (lay a.2.2 && lay a.2.1)) = true
  rw [rel_ok hr2, h1.2.1, h1.2.2]
  rfl
end Own

namespace Own
open PySem PySem.Spec PyProof.Rows L2 Evl
/-! ### what data is -/
structure TxtI (K : PySem.W.Frag) (mg : Str → Option Value) (rel : Addr) : Prop where
  isinstance : mg "isinstance" = none
  str : mg "str" = none
  bool : mg "bool" = none
  tuple : mg "tuple" = none
  g_LONGEST_NAME : ∃ t, mg "LONGEST_NAME" = some (.int 8 t)
  g_RELATIONS : mg "RELATIONS" = some (.ref rel)
  rels : ∀ H, SqT K H rel [.str "eq", .str "lt", .str "gt"]
def rLeA : R2 := fun x y H Z => rLeI x y H Z ∨ ∃ i j, x = .str i ∧ y = .str j ∧ Z (.bl (!decide (j.cps.toList < i.cps.toList))) H
theorem opLeA {X : Cx} : OpR X (compareOp .LtE) rLeA := OpR.or op_le op_le_str
def nmD : PyData → Bool | .str z => isNm z | _ => false
def relD : PyData → Bool | .str z => isR3 z | _ => false
def blankD : PyData → Bool | .str z => decide (z = "") | _ => false
def atomD : PyData → Bool | .tuple [a, b, c] => relD a && (nmD b && nmD c) | _ => false
def partD (d : PyData) : Bool := blankD d || nmD d
def patD : PyData → Bool | .tuple [a, b, c] => (blankD a || relD a) && (partD b && partD c) | _ => false
def factD : PyData → Bool | .tuple ds => decide (1 ≤ ds.length) && (decide (ds.length ≤ 2) && ds.all atomD) | _ => false
def rowD : PyData → Bool | .tuple [a, b] => nmD a && factD b | _ => false
theorem str_of {d : PyData} (h : isStrD d = true) : ∃ z, d = .str z := by cases d <;> first | exact ⟨_, rfl⟩ | cases h
theorem tup_of {d : PyData} (h : isTupD d = true) : ∃ ds, d = .tuple ds := by cases d <;> first | exact ⟨_, rfl⟩ | cases h
theorem nmD_no {d : PyData} (h : isStrD d = false) : nmD d = false := by cases d <;> first | rfl | cases h
theorem relD_no {d : PyData} (h : isStrD d = false) : relD d = false := by cases d <;> first | rfl | cases h
theorem blankD_no {d : PyData} (h : isStrD d = false) : blankD d = false := by cases d <;> first | rfl | cases h
theorem atomD_no {d : PyData} (h : isTupD d = false) : atomD d = false := by cases d <;> first | rfl | cases h
theorem patD_no {d : PyData} (h : isTupD d = false) : patD d = false := by cases d <;> first | rfl | cases h
theorem factD_no {d : PyData} (h : isTupD d = false) : factD d = false := by cases d <;> first | rfl | cases h
theorem rowD_no {d : PyData} (h : isTupD d = false) : rowD d = false := by cases d <;> first | rfl | cases h
theorem atomD_len : ∀ {ds : List PyData}, ds.length ≠ 3 → atomD (.tuple ds) = false
  | [], _ => rfl
  | [_], _ => rfl
  | [_, _], _ => rfl
  | [_, _, _], h => absurd rfl h
  | _ :: _ :: _ :: _ :: _, _ => rfl
theorem patD_len : ∀ {ds : List PyData}, ds.length ≠ 3 → patD (.tuple ds) = false
  | [], _ => rfl
  | [_], _ => rfl
  | [_, _], _ => rfl
  | [_, _, _], h => absurd rfl h
  | _ :: _ :: _ :: _ :: _, _ => rfl
theorem rowD_len : ∀ {ds : List PyData}, ds.length ≠ 2 → rowD (.tuple ds) = false
  | [], _ => rfl
  | [_], _ => rfl
  | [_, _], h => absurd rfl h
  | _ :: _ :: _ :: _, _ => rfl
theorem Da.str_inv {H : Hp} {v : V} {z : Str} (h : Da H v (.str z)) : v = .str z := by cases h; rfl
theorem Da.tup_inv {H : Hp} {v : V} {ds : List PyData} (h : Da H v (.tuple ds)) : ∃ p xs, v = .ref p ∧ H p = some (.tup xs) ∧ DaAll H xs ds := by cases h with | tup h1 h2 => exact ⟨_, _, rfl, h1, h2⟩
theorem Da.lst_inv {H : Hp} {v : V} {ds : List PyData} (h : Da H v (.list ds)) : ∃ p xs, v = .ref p ∧ H p = some (.lst xs) ∧ DaAll H xs ds := by cases h with | lst h1 h2 => exact ⟨_, _, rfl, h1, h2⟩
theorem three {H : Hp} {xs : List V} {ds : List PyData} (h : DaAll H xs ds) (hl : ds.length = 3) : ∃ x y z a b c, xs = [x, y, z] ∧ ds = [a, b, c] ∧ Da H x a ∧ Da H y b ∧ Da H z c := by
  match ds, xs, h, hl with
  | [a, b, c], _, .cons h1 (.cons h2 (.cons h3 .nil)), _ => exact ⟨_, _, _, _, _, _, rfl, rfl, h1, h2, h3⟩
theorem two {H : Hp} {xs : List V} {ds : List PyData} (h : DaAll H xs ds) (hl : ds.length = 2) : ∃ x y a b, xs = [x, y] ∧ ds = [a, b] ∧ Da H x a ∧ Da H y b := by
  match ds, xs, h, hl with
  | [a, b], _, .cons h1 (.cons h2 .nil), _ => exact ⟨_, _, _, _, rfl, rfl, h1, h2⟩
theorem okD.memT {n W : Nat} {ds : List PyData} (h : okD n W (.tuple ds)) {d : PyData} (hd : d ∈ ds) : okD n W d := by
  obtain ⟨h1, h2, h3⟩ := h
  have q2 : PyData.depthAll ds + 1 ≤ n := h2
  have q3 : wds ds + 3 ≤ W := h3
  have z := wd_mem hd
  exact ⟨gDs_iff.mp h1 d hd, Nat.le_trans (depthAll_le.mp (Nat.le_refl _) d hd) (by omega), by omega⟩
theorem okD.memL {n W : Nat} {ds : List PyData} (h : okD n W (.list ds)) {d : PyData} (hd : d ∈ ds) : okD n W d := okD.memT (ds := ds) h hd
theorem okD.lenT {n W : Nat} {ds : List PyData} (h : okD n W (.tuple ds)) : 5 * ds.length ≤ W := by
  have q3 : wds ds + 3 ≤ W := h.2.2
  have := len_wds ds
  omega
theorem int_ne (n m : Nat) : (!decide (V.int (n : Int) = V.int (m : Int))) = !decide (n = m) := by
  by_cases h : n = m
  · rw [h]
    simp
  · rw [decide_eq_false h, decide_eq_false (show ¬ V.int (n : Int) = V.int (m : Int) from fun e => h (Int.ofNat.inj (V.int.inj e)))]
theorem int_eq (n m : Nat) : decide (V.int (n : Int) = V.int (m : Int)) = decide (n = m) := by
  by_cases h : n = m
  · rw [h]
    simp
  · rw [decide_eq_false h, decide_eq_false (show ¬ V.int (n : Int) = V.int (m : Int) from fun e => h (Int.ofNat.inj (V.int.inj e)))]
theorem one_lt (a b : Nat) : decide (([a] : List Nat) < [b]) = decide (a < b) := by
  by_cases h : a < b
  · rw [decide_eq_true h, decide_eq_true (List.cons_lt_cons_iff.mpr (.inl h))]
  · rw [decide_eq_false h, decide_eq_false]
    intro e
    rcases List.cons_lt_cons_iff.mp e with e | ⟨_, e⟩
    · exact h e
    · exact absurd e (by simp)
theorem le_a (c : Nat) : (!decide ((sgn c).cps.toList < (Str.ofString "a").cps.toList)) = decide (97 ≤ c) := by
  show (!decide (([c] : List Nat) < [97])) = _
  rw [one_lt]
  by_cases h : c < 97
  · rw [decide_eq_true h, decide_eq_false (by omega)]
    rfl
  · rw [decide_eq_false h, decide_eq_true (by omega)]
    rfl
theorem le_z (c : Nat) : (!decide ((Str.ofString "z").cps.toList < (sgn c).cps.toList)) = decide (c ≤ 122) := by
  show (!decide (([122] : List Nat) < [c])) = _
  rw [one_lt]
  by_cases h : 122 < c
  · rw [decide_eq_true h, decide_eq_false (by omega)]
    rfl
  · rw [decide_eq_false h, decide_eq_true (by omega)]
    rfl
theorem rel_in (z : Str) : inV (.str z) [.str "eq", .str "lt", .str "gt"] = isR3 z := by
  rw [show [V.str "eq", V.str "lt", V.str "gt"] = (["eq", "lt", "gt"] : List Str).map V.str from rfl, in_strs]
  unfold isR3
  by_cases h1 : z = "eq" <;> by_cases h2 : z = "lt" <;> by_cases h3 : z = "gt" <;> simp [h1, h2, h3]
theorem tk {α : Type} {l : List α} {i : Nat} {x : α} (h : l[i]? = some x) : l.take (i + 1) = l.take i ++ [x] := by
  rw [List.take_add_one, h]
  rfl
section
variable {P : Program} {w : World} {K : PySem.W.Frag} {mg : Str → Option Value} {base : Heap} {rel : Addr}
def spIs (p : PyData → Bool) : Sp := fun vs H Q _ => ∃ (v : V) (d : PyData), vs = [v] ∧ Da H v d ∧ okD 40 16000000 d ∧ ∀ H', Ex H H' → Q (.bl (p d)) H'
end
abbrev s_is_name : Stmt := top 6
theorem sc_is_name : FnScope ["thing", "letter"] ["thing"] (defScope s_is_name) := ⟨rfl, rfl, rfl, by decide +kernel, rfl, by decide +kernel, by decide +kernel⟩
abbrev s_is_relation : Stmt := top 7
theorem sc_is_relation : FnScope ["thing"] ["thing"] (defScope s_is_relation) := ⟨rfl, rfl, rfl, by decide +kernel, rfl, by decide +kernel, by decide +kernel⟩
abbrev s_is_atom : Stmt := top 9
theorem sc_is_atom : FnScope ["thing"] ["thing"] (defScope s_is_atom) := ⟨rfl, rfl, rfl, by decide +kernel, rfl, by decide +kernel, by decide +kernel⟩
abbrev s_is_fact : Stmt := top 10
theorem sc_is_fact : FnScope ["thing", "atom"] ["thing"] (defScope s_is_fact) := ⟨rfl, rfl, rfl, by decide +kernel, rfl, by decide +kernel, by decide +kernel⟩
abbrev s_is_row : Stmt := top 11
theorem sc_is_row : FnScope ["thing"] ["thing"] (defScope s_is_row) := ⟨rfl, rfl, rfl, by decide +kernel, rfl, by decide +kernel, by decide +kernel⟩
section
variable {P : Program} {w : World} {K : PySem.W.Frag} {mg : Str → Option Value} {base : Heap} {rel : Addr}
theorem ok_is_name (T : Txt0 mg) (TI : TxtI K mg rel) (D : Df K mg "is_name" s_is_name) : CalG P w K mg base 1 "is_name" (spIs nmD) := by
  obtain ⟨t0, g_LONGEST_NAME⟩ := TI.g_LONGEST_NAME
  refine cal_mk D sc_is_name (fun _ _ _ _ _ _ us hl => match us, hl with | [_], _ => rfl) (fun vs H Q E h => ?_) (fun f cdv A outer s H vs Q E hr hG h => ?_)
  · obtain ⟨v, d, rfl, _⟩ := h
    rfl
  · obtain ⟨v, d, rfl, hv, hok, q⟩ := h
    refine ⟨_, (pss_cons (ps_if (PW.pt (pw_or (pt_not (pt_val (pe_callB call_isi (by rfl) TI.isinstance (by decide +kernel) (pa_cons (pv 0) (pa_cons (pe_bltn (v := .ty "str") (by rfl) TI.str (by decide +kernel) rfl) pa_nil))))) (pw_or1 (pt_not (pt_chain opLeA opLeA pe_int (pe_callB callLen (by rfl) T.len PySem.boot_len (pa_cons (pv 0) pa_nil)) (pe_glob (v := .int _) rfl g_LONGEST_NAME ⟨_, rfl⟩)))))) (pss_one (ps_ret pe_bl)) pss_nil)
      (pss_one (ps_ret (pe_callB (cr_all rfl) (by rfl) T.all (by decide +kernel) (pa_cons (pe_lcO (pe_lc (own := [("letter", 1)]) rfl sc_is_name.nd (piAny (pv 0)) (blkOk_by (own := [("letter", 1)]) (N := ["thing", "letter"]) (sc := defScope s_is_name) (by first | decide +kernel | kernel_rfl)) (fun _ _ _ _ _ => pg_name (i := 1) sc_is_name.nd rfl (Or.inl rfl)) (fun _ _ _ _ _ => pts_nil) (fun _ _ _ _ _ => pe_chain opLeA opLeA pe_str (pv 1) pe_str))) pa_nil))))), ?_⟩
    refine ⟨_, rfl, v, .ty "str", _, _, _, rfl, .ty _, hv.ty, kit_ty (kit_str d), _, rfl, ?_⟩
    cases hs : isStrD d with
    | false =>
      refine iteT ?_
      rw [← nmD_no hs]
      exact q _ (Ex.refl _)
    | true =>
      obtain ⟨z, rfl⟩ := str_of hs
      have ev := hv.str_inv
      subst ev
      have hw : 10 * z.length + 5 ≤ 16000000 := hok.2.2
      refine iteF ⟨_, rfl, .inr ⟨z, rfl, by show z.length ≤ 16777216; omega, ?_⟩⟩
      refine .inl ⟨_, _, rfl, rfl, _, rfl, ite2 (fun h1 => .inl ⟨_, _, rfl, rfl, _, rfl, ite2 (fun h2 => ?_) (fun h2 => ?_)⟩) (fun h1 => ⟨_, rfl, ifT (by rfl) ?_⟩)⟩
      · have e : nmD (.str z) = false := by
          show (_ && decide (z.length ≤ 8) && _) = false
          have z2 : ¬ ((z.length : Int) ≤ (8 : Int)) := by simpa using h2
          rw [decide_eq_false (show ¬ z.length ≤ 8 by omega), Bool.and_false, Bool.false_and]
        rw [← e]
        exact q _ (Ex.refl _)
      · have z1 : ((1 : Int) ≤ (z.length : Int)) := by simpa using h1
        have z2 : ((z.length : Int) ≤ (8 : Int)) := by simpa using h2
        refine .inr (.inr ⟨_, rfl, z, rfl, ?_⟩)
        refine lcG walk_str (by have z2 : z.cps.size = z.length := rfl; omega) trivial (fun _ _ _ _ => trivial) (fun i H x H' h => by rw [h.1]; exact Ex.refl _) (fun i ys _ => ys = (((TL.tl z).take i).map lowc).map V.bl) (fun _ _ _ _ _ h => h) rfl ?_ ?_
        · rintro i x H1 H2 ys hi e ⟨rfl, c, hc, rfl⟩ rfl N N0 kN kN0
          have hc2 : (TL.tl z)[i]? = some c := by
            show z.cps.toList[i]? = some c
            rw [Array.getElem?_toList]
            exact hc
          have fin : ∀ b : Bool, b = lowc c → N (.bl b) H2 := fun b hb => kN _ _ (Ex.refl _) (by
            rw [tk hc2, List.map_append, List.map_append, hb]
            rfl)
          refine ⟨rfl, ?_⟩
          refine ⟨_, rfl, .inr ⟨_, _, rfl, rfl, _, congrArg V.bl (le_a c), ite2 (fun k1 => .inr ⟨_, _, rfl, rfl, ?_⟩) (fun k1 => fin _ ?_)⟩⟩
          · refine fin _ ?_
            rw [show (!decide ((Str.ofString "z").cps.toList < (⟨#[c]⟩ : Str).cps.toList)) = decide (c ≤ 122) from le_z c]
            unfold lowc
            rw [k1, Bool.true_and]
          · unfold lowc
            rw [show decide (97 ≤ c) = false from by simpa using k1, Bool.false_and]
        · rintro l H1 ys hl e1 h1' _ rfl
          refine ⟨l, _, rfl, sq_of h1', ?_⟩
          have e : ((((TL.tl z).take z.cps.size).map lowc).all id) = nmD (.str z) := by
            rw [show z.cps.size = (TL.tl z).length from by simp, List.take_length, List.all_map]
            show _ = (decide (1 ≤ z.length) && decide (z.length ≤ 8) && (TL.tl z).all lowc)
            rw [decide_eq_true (show 1 ≤ z.length by omega), decide_eq_true (show z.length ≤ 8 by omega)]
            rfl
          rw [e]
          exact q _ e1
      · have e : nmD (.str z) = false := by
          show (decide (1 ≤ z.length) && _ && _) = false
          have z1 : ¬ ((1 : Int) ≤ (z.length : Int)) := by simpa using h1
          rw [decide_eq_false (show ¬ 1 ≤ z.length by omega), Bool.false_and, Bool.false_and]
        rw [← e]
        exact q _ (Ex.refl _)
theorem ok_is_relation (T : Txt0 mg) (TI : TxtI K mg rel) (D : Df K mg "is_relation" s_is_relation) : CalG P w K mg base 1 "is_relation" (spIs relD) := by
  refine cal_mk D sc_is_relation (fun _ _ _ _ _ _ us hl => match us, hl with | [_], _ => rfl) (fun vs H Q E h => ?_) (fun f cdv A outer s H vs Q E hr hG h => ?_)
  · obtain ⟨v, d, rfl, _⟩ := h
    rfl
  · obtain ⟨v, d, rfl, hv, hok, q⟩ := h
    refine ⟨_, (pss_one (ps_ret (pe_and (pe_callB call_isi (by rfl) TI.isinstance (by decide +kernel) (pa_cons (pv 0) (pa_cons (pe_bltn (v := .ty "str") (by rfl) TI.str (by decide +kernel) rfl) pa_nil))) (pe_one (pe_cmpR opIn (pv 0) (pe_glob (v := .ref _) rfl TI.g_RELATIONS rfl) rfl))))), ?_⟩
    refine ⟨_, rfl, v, .ty "str", _, _, _, rfl, .ty _, hv.ty, kit_ty (kit_str d), _, rfl, ?_⟩
    cases hs : isStrD d with
    | false =>
      refine iteF ?_
      rw [← relD_no hs]
      exact q _ (Ex.refl _)
    | true =>
      obtain ⟨z, rfl⟩ := str_of hs
      have ev := hv.str_inv
      subst ev
      refine iteT ⟨_, rfl, .inl ⟨rel, _, rfl, .inr (TI.rels H), rfl, rfl, ?_⟩⟩
      show Q (.bl (inV (.str z) [.str "eq", .str "lt", .str "gt"])) H
      rw [rel_in]
      exact q _ (Ex.refl _)
theorem ok_is_atom (T : Txt0 mg) (TI : TxtI K mg rel) (D : Df K mg "is_atom" s_is_atom) (c_is_relation : CalG P w K mg base 1 "is_relation" (spIs relD)) (c_is_name : CalG P w K mg base 1 "is_name" (spIs nmD)) : CalG P w K mg base 2 "is_atom" (spIs atomD) := by
  refine cal_mk D sc_is_atom (fun _ _ _ _ _ _ us hl => match us, hl with | [_], _ => rfl) (fun vs H Q E h => ?_) (fun f cdv A outer s H vs Q E hr hG h => ?_)
  · obtain ⟨v, a, rfl, _⟩ := h
    rfl
  · obtain ⟨v, d, rfl, hv, hok, q⟩ := h
    refine ⟨_, (pss_cons (ps_if (PW.pt (pw_or (pt_not (pt_val (pe_callB call_isi (by rfl) TI.isinstance (by decide +kernel) (pa_cons (pv 0) (pa_cons (pe_bltn (v := .ty "tuple") (by rfl) T.tuple (by decide +kernel) rfl) pa_nil))))) (pw_or1 (pt_cmpR (opNe hr) (pe_callB callLen (by rfl) T.len PySem.boot_len (pa_cons (pv 0) pa_nil)) pe_int (nomark _))))) (pss_one (ps_ret pe_bl)) pss_nil)
      (pss_one (ps_ret (pe_and (pe_cG c_is_relation hr hG (by decide) rfl (pa_cons (pe_ix ixAny (pv 0) pe_int (fun _ _ => rfl)) pa_nil)) (pe_and (pe_cG c_is_name hr hG (by decide) rfl (pa_cons (pe_ix ixAny (pv 0) pe_int (fun _ _ => rfl)) pa_nil)) (pe_one (pe_cG c_is_name hr hG (by decide) rfl (pa_cons (pe_ix ixAny (pv 0) pe_int (fun _ _ => rfl)) pa_nil)))))))), ?_⟩
    refine ⟨_, rfl, v, .ty "tuple", _, _, _, rfl, .ty _, hv.ty, kit_ty (kit_tuple d), _, rfl, ?_⟩
    cases hs : isTupD d with
    | false =>
      refine iteT ?_
      rw [← atomD_no hs]
      exact q _ (Ex.refl _)
    | true =>
      obtain ⟨ds, rfl⟩ := tup_of hs
      obtain ⟨p, xs, rfl, hp, hA⟩ := hv.tup_inv
      have hl := hA.len
      refine iteF ⟨_, rfl, .inl ⟨p, _, rfl, .inr (st_of hp), .inl ⟨rfl, _, rfl, ?_⟩⟩⟩
      by_cases h3 : ds.length = 3
      · obtain ⟨x, y, z, a, b, c, rfl, rfl, ha, hb, hc⟩ := three hA h3
        refine ifF (b := !decide (V.int 3 = V.int 3)) (by decide +kernel) ?_
        refine ⟨_, rfl, .inr (.inl ⟨p, _, 0, _, rfl, rfl, st_of hp, atI_nat (j := 0) rfl, ?_⟩)⟩
        refine ⟨x, a, rfl, ha, hok.memT (by simp), fun H1 e1 => ⟨_, rfl, ?_⟩⟩
        cases r1 : relD a with
        | false =>
          refine iteF ?_
          have e : atomD (.tuple [a, b, c]) = false := by show (relD a && _) = false; rw [r1]; rfl
          rw [← e]
          exact q _ e1
        | true =>
          refine iteT ⟨_, rfl, .inr (.inl ⟨p, _, 1, _, rfl, rfl, st_of (e1 _ _ hp), atI_nat (j := 1) rfl, ?_⟩)⟩
          refine ⟨y, b, rfl, hb.ex e1, hok.memT (by simp), fun H2 e2 => ⟨_, rfl, ?_⟩⟩
          cases r2 : nmD b with
          | false =>
            refine iteF ?_
            have e : atomD (.tuple [a, b, c]) = false := by show (relD a && (nmD b && _)) = false; rw [r1, r2]; rfl
            rw [← e]
            exact q _ (e1.trans e2)
          | true =>
            refine iteT ⟨_, rfl, .inr (.inl ⟨p, _, 2, _, rfl, rfl, st_of (e2 _ _ (e1 _ _ hp)), atI_nat (j := 2) rfl, ?_⟩)⟩
            refine ⟨z, c, rfl, hc.ex (e1.trans e2), hok.memT (by simp), fun H3 e3 => ?_⟩
            have e : atomD (.tuple [a, b, c]) = nmD c := by show (relD a && (nmD b && nmD c)) = nmD c; rw [r1, r2]; rfl
            rw [← e]
            exact q _ ((e1.trans e2).trans e3)
      · refine ifT (b := !decide (V.int (xs.length : Int) = V.int ((3 : Nat) : Int))) (by rw [int_ne, decide_eq_false (by omega)]; rfl) ?_
        rw [← atomD_len h3]
        exact q _ (Ex.refl _)
theorem ok_is_fact (T : Txt0 mg) (TI : TxtI K mg rel) (D : Df K mg "is_fact" s_is_fact) (c_is_atom : CalG P w K mg base 2 "is_atom" (spIs atomD)) : CalG P w K mg base 3 "is_fact" (spIs factD) := by
  refine cal_mk D sc_is_fact (fun _ _ _ _ _ _ us hl => match us, hl with | [_], _ => rfl) (fun vs H Q E h => ?_) (fun f cdv A outer s H vs Q E hr hG h => ?_)
  · obtain ⟨v, a, rfl, _⟩ := h
    rfl
  · obtain ⟨v, d, rfl, hv, hok, q⟩ := h
    refine ⟨_, (pss_cons (ps_if (PW.pt (pw_or (pt_not (pt_val (pe_callB call_isi (by rfl) TI.isinstance (by decide +kernel) (pa_cons (pv 0) (pa_cons (pe_bltn (v := .ty "tuple") (by rfl) T.tuple (by decide +kernel) rfl) pa_nil))))) (pw_or1 (pt_not (pt_chain opLeA opLeA pe_int (pe_callB callLen (by rfl) T.len PySem.boot_len (pa_cons (pv 0) pa_nil)) pe_int))))) (pss_one (ps_ret pe_bl)) pss_nil)
      (pss_one (ps_ret (pe_callB (cr_all rfl) (by rfl) T.all (by decide +kernel) (pa_cons (pe_lcO (pe_lc (own := [("atom", 1)]) rfl sc_is_fact.nd (piAny (pv 0)) (blkOk_by (own := [("atom", 1)]) (N := ["thing", "atom"]) (sc := defScope s_is_fact) (by first | decide +kernel | kernel_rfl)) (fun _ _ _ _ _ => pg_name (i := 1) sc_is_fact.nd rfl (Or.inl rfl)) (fun _ _ _ _ _ => pts_nil) (fun _ _ _ _ _ => pe_cG c_is_atom hr hG (by decide) rfl (pa_cons (pv 1) pa_nil)))) pa_nil))))), ?_⟩
    refine ⟨_, rfl, v, .ty "tuple", _, _, _, rfl, .ty _, hv.ty, kit_ty (kit_tuple d), _, rfl, ?_⟩
    cases hs : isTupD d with
    | false =>
      refine iteT ?_
      rw [← factD_no hs]
      exact q _ (Ex.refl _)
    | true =>
      obtain ⟨ds, rfl⟩ := tup_of hs
      obtain ⟨p, xs, rfl, hp, hA⟩ := hv.tup_inv
      have hl := hA.len
      refine iteF ⟨_, rfl, .inl ⟨p, _, rfl, .inr (st_of hp), ?_⟩⟩
      have no : ¬ (1 ≤ ds.length ∧ ds.length ≤ 2) → Q (.bl false) H := fun hn => by
        have e : factD (.tuple ds) = false := by
          show (decide (1 ≤ ds.length) && (decide (ds.length ≤ 2) && _)) = false
          by_cases h1 : 1 ≤ ds.length
          · rw [decide_eq_false (show ¬ ds.length ≤ 2 from fun h => hn ⟨h1, h⟩), Bool.false_and, Bool.and_false]
          · rw [decide_eq_false h1, Bool.false_and]
        rw [← e]
        exact q _ (Ex.refl _)
      refine .inl ⟨_, _, rfl, rfl, _, rfl, ite2 (fun h1 => .inl ⟨_, _, rfl, rfl, _, rfl, ite2 (fun h2 => no ?_) (fun h2 => ?_)⟩) (fun h1 => ⟨_, rfl, ifT (by rfl) (no ?_)⟩)⟩
      · have z2 : ¬ ((xs.length : Int) ≤ (2 : Int)) := by simpa using h2
        omega
      · have z1 : ((1 : Int) ≤ (xs.length : Int)) := by simpa using h1
        have z2 : ((xs.length : Int) ≤ (2 : Int)) := by simpa using h2
        refine .inr (.inl ⟨_, rfl, p, rfl, ⟨_, st_of hp⟩, ?_⟩)
        refine lcG (walk_tup (xs := xs)) (by omega) (st_of hp) (fun _ _ e h => ex_t e h) yAt_ex (fun i ys _ => ys = ((ds.take i).map atomD).map V.bl) (fun _ _ _ _ _ h => h) rfl ?_ ?_
        · rintro i x H1 H2 ys hi e ⟨rfl, hx⟩ rfl N N0 kN kN0
          obtain ⟨a, ha, hat⟩ := (DaAll.ex e ds hA).at hx
          refine ⟨rfl, ?_⟩
          refine ⟨_, rfl, x, a, rfl, hat, hok.memT (List.mem_of_getElem? ha), fun H3 e3 => ?_⟩
          refine kN _ _ e3 ?_
          rw [tk ha, List.map_append, List.map_append]
          rfl
        · rintro l H1 ys hl1 e1 h1' _ rfl
          refine ⟨l, _, rfl, sq_of h1', ?_⟩
          have e : (((ds.take xs.length).map atomD).all id) = factD (.tuple ds) := by
            rw [hl, List.take_length, List.all_map]
            show _ = (decide (1 ≤ ds.length) && (decide (ds.length ≤ 2) && ds.all atomD))
            rw [decide_eq_true (show 1 ≤ ds.length by omega), decide_eq_true (show ds.length ≤ 2 by omega)]
            rfl
          rw [e]
          exact q _ e1
      · have z1 : ¬ ((1 : Int) ≤ (xs.length : Int)) := by simpa using h1
        omega
theorem ok_is_row (T : Txt0 mg) (TI : TxtI K mg rel) (D : Df K mg "is_row" s_is_row) (c_is_name : CalG P w K mg base 1 "is_name" (spIs nmD)) (c_is_fact : CalG P w K mg base 3 "is_fact" (spIs factD)) : CalG P w K mg base 4 "is_row" (spIs rowD) := by
  refine cal_mk D sc_is_row (fun _ _ _ _ _ _ us hl => match us, hl with | [_], _ => rfl) (fun vs H Q E h => ?_) (fun f cdv A outer s H vs Q E hr hG h => ?_)
  · obtain ⟨v, a, rfl, _⟩ := h
    rfl
  · obtain ⟨v, d, rfl, hv, hok, q⟩ := h
    refine ⟨_, (pss_one (ps_ret (pe_and (pe_callB call_isi (by rfl) TI.isinstance (by decide +kernel) (pa_cons (pv 0) (pa_cons (pe_bltn (v := .ty "tuple") (by rfl) T.tuple (by decide +kernel) rfl) pa_nil))) (pe_and (pe_cmpR (opEq hr) (pe_callB callLen (by rfl) T.len PySem.boot_len (pa_cons (pv 0) pa_nil)) pe_int (nomark _)) (pe_and (pe_cG c_is_name hr hG (by decide) rfl (pa_cons (pe_ix ixAny (pv 0) pe_int (fun _ _ => rfl)) pa_nil)) (pe_one (pe_cG c_is_fact hr hG (by decide) rfl (pa_cons (pe_ix ixAny (pv 0) pe_int (fun _ _ => rfl)) pa_nil)))))))), ?_⟩
    refine ⟨_, rfl, v, .ty "tuple", _, _, _, rfl, .ty _, hv.ty, kit_ty (kit_tuple d), _, rfl, ?_⟩
    cases hs : isTupD d with
    | false =>
      refine iteF ?_
      rw [← rowD_no hs]
      exact q _ (Ex.refl _)
    | true =>
      obtain ⟨ds, rfl⟩ := tup_of hs
      obtain ⟨p, xs, rfl, hp, hA⟩ := hv.tup_inv
      have hl := hA.len
      refine iteT ⟨_, rfl, .inl ⟨p, _, rfl, .inr (st_of hp), .inl ⟨rfl, _, rfl, ?_⟩⟩⟩
      by_cases h2 : ds.length = 2
      · obtain ⟨x, y, a, b, rfl, rfl, ha, hb⟩ := two hA h2
        refine ifT (b := decide (V.int 2 = V.int 2)) (by decide +kernel) ?_
        refine ⟨_, rfl, .inr (.inl ⟨p, _, 0, _, rfl, rfl, st_of hp, atI_nat (j := 0) rfl, ?_⟩)⟩
        refine ⟨x, a, rfl, ha, hok.memT (by simp), fun H1 e1 => ⟨_, rfl, ?_⟩⟩
        cases r1 : nmD a with
        | false =>
          refine iteF ?_
          have e : rowD (.tuple [a, b]) = false := by show (nmD a && _) = false; rw [r1]; rfl
          rw [← e]
          exact q _ e1
        | true =>
          refine iteT ⟨_, rfl, .inr (.inl ⟨p, _, 1, _, rfl, rfl, st_of (e1 _ _ hp), atI_nat (j := 1) rfl, ?_⟩)⟩
          refine ⟨y, b, rfl, hb.ex e1, hok.memT (by simp), fun H2 e2 => ?_⟩
          have e : rowD (.tuple [a, b]) = factD b := by show (nmD a && factD b) = factD b; rw [r1]; rfl
          rw [← e]
          exact q _ (e1.trans e2)
      · have e0 : decide (V.int (xs.length : Int) = V.int ((2 : Nat) : Int)) = false := by rw [int_eq, decide_eq_false (by omega)]
        refine ifF (b := decide (V.int (xs.length : Int) = V.int ((2 : Nat) : Int))) e0 ?_
        rw [← rowD_len h2]
        exact q _ (Ex.refl _)
end
end Own

namespace Own
open PySem PySem.Spec PyProof.Rows L2 Evl
abbrev s_l_odd : Stmt := top 34
theorem sc_l_odd : FnScope ["_law_bag_here", "_law_some_here"] ["_law_bag_here"] (defScope s_l_odd) := ⟨rfl, rfl, rfl, by decide +kernel, rfl, by decide +kernel, by decide +kernel⟩
def oddL : List PyData := [.none, .int 5, .str "a", .str "", .tuple [], .list [], .dict [], .tuple [.str "eq"], .bool true, .int (10 ^ (39 : Int).toNat), .list [.none], .tuple [.str "name", .str "a"], .str "eq", .int (-1), .tuple [.int 0, .int 1]] ++ [.str "a1", .str "aB", .str "a_", .str "a{", .str "a\n"] ++ [.dict [(.str "a", .int 1)], .str "ab b", .str "abcdefghi", .tuple [.str "last"], .tuple [.str "", .str "", .str ""]]
theorem odd_tab : (oddL.all fun d => gD d && (decide (d.depth ≤ 1) && decide (wd d ≤ 4000))) = true := by decide +kernel
theorem odd_ok {d : PyData} (h : d ∈ oddL) : okD 1 4000 d := by
  have z := List.all_eq_true.mp odd_tab d h
  simp only [Bool.and_eq_true, decide_eq_true_eq] at z
  exact ⟨z.1, z.2.1, z.2.2⟩
theorem odd_tab2 : (oddL.all fun d => d.canLay0 || (match d with | .dict _ => true | _ => false)) = true := by decide +kernel
theorem odd_or {d : PyData} (h : d ∈ oddL) : d.canLay0 = true ∨ ∃ ks, d = .dict ks := by
  have z := List.all_eq_true.mp odd_tab2 d h
  rw [Bool.or_eq_true] at z
  rcases z with z | z
  · exact .inl z
  · cases d with
    | dict ks => exact .inr ⟨ks, rfl⟩
    | _ => cases z
theorem dict_gen {H H1 H2 : Hp} {d : Addr} {o2 : HO} (hq : upd H1 d o2 = H2) (e : Ex H H1) (hd : H d = none) : Ex H H2 ∧ H2 d = some o2 := by
  subst hq
  exact ⟨Ex.mut e hd, upd_same⟩
/-- a list or a tuple -/
def ConAt (A : Addr → Prop) (H : Hp) (v : V) (d : PyData) (p : Addr) (xs : List V) (ds : List PyData) : Prop := v = .ref p ∧ ((H p = some (.lst xs) ∧ d = .list ds) ∨ (H p = some (.tup xs) ∧ d = .tuple ds)) ∧ DaAA A H xs ds
theorem con_of {A : Addr → Prop} {H : Hp} {v : V} {d : PyData} (h : DaA A H v d) (hc : (isTupD d || isLstD d) = true) : ∃ p xs ds, ConAt A H v d p xs ds := by
  cases h with
  | lst h0 h1 h2 => exact ⟨_, _, _, rfl, .inl ⟨h1, rfl⟩, h2⟩
  | tup h0 h1 h2 => exact ⟨_, _, _, rfl, .inr ⟨h1, rfl⟩, h2⟩
  | non => cases hc
  | bl b => cases hc
  | int i => cases hc
  | str z => cases hc
  | dct h0 h1 h2 => cases hc
section
variable {A : Addr → Prop} {K : PySem.W.Frag} {H : Hp} {v : V} {d : PyData} {p : Addr} {xs : List V} {ds : List PyData}
theorem ConAt.sq (h : ConAt A H v d p xs ds) : SqL K H p xs ∨ SqT K H p xs := by
  rcases h.2.1 with h | h
  · exact .inl (sq_of h.1)
  · exact .inr (st_of h.1)
theorem ConAt.ex {H' : Hp} (e : Ex H H') (h : ConAt A H v d p xs ds) : ConAt A H' v d p xs ds := by
  obtain ⟨h1, h2, h3⟩ := h
  refine ⟨h1, ?_, DaAA.move (fun a o _ q => e a o q) (fun _ q => q) ds h3⟩
  rcases h2 with h2 | h2
  · exact .inl ⟨e _ _ h2.1, h2.2⟩
  · exact .inr ⟨e _ _ h2.1, h2.2⟩
theorem ConAt.lst (h : ConAt A H v d p xs ds) : TyX K H v (.type (tyD d)) := by
  obtain ⟨rfl, h2, _⟩ := h
  rcases h2 with ⟨h2, rfl⟩ | ⟨h2, rfl⟩
  · exact .base (.lst h2)
  · exact .base (.tup h2)
theorem ConAt.ok (h : ConAt A H v d p xs ds) {n W : Nat} (k : okD n W d) : gDs ds = true ∧ PyData.depthAll ds + 1 ≤ n ∧ wds ds + 3 ≤ W := by
  rcases h.2.1 with ⟨_, rfl⟩ | ⟨_, rfl⟩
  · exact k
  · exact k
end
/-- sizes of a list's items -/
def okDs (n W : Nat) (ds : List PyData) : Prop := gDs ds = true ∧ PyData.depthAll ds ≤ n ∧ wds ds ≤ W
theorem okDs.list {n W : Nat} {ds : List PyData} (h : okDs n W ds) : okD (n + 1) (W + 3) (.list ds) := ⟨h.1, Nat.succ_le_succ h.2.1, Nat.add_le_add_right h.2.2 3⟩
theorem okDs.tup {n W : Nat} {ds : List PyData} (h : okDs n W ds) : okD (n + 1) (W + 3) (.tuple ds) := ⟨h.1, Nat.succ_le_succ h.2.1, Nat.add_le_add_right h.2.2 3⟩
theorem okDs.mono {n W n' W' : Nat} {ds : List PyData} (h : okDs n W ds) (h1 : n ≤ n') (h2 : W ≤ W') : okDs n' W' ds := ⟨h.1, Nat.le_trans h.2.1 h1, Nat.le_trans h.2.2 h2⟩
theorem wds_set : ∀ {ds : List PyData} {i : Nat} {x y : PyData}, ds[i]? = some x → wds (ds.set i y) + wd x = wds ds + wd y
  | _ :: xs, 0, _, y, h => by
    cases h
    show wd y + 2 + wds xs + wd _ = wd _ + 2 + wds xs + wd y
    omega
  | z :: xs, i + 1, x, y, h => by
    have q := wds_set (ds := xs) (i := i) (y := y) h
    show wd z + 2 + wds (xs.set i y) + wd x = wd z + 2 + wds xs + wd y
    omega
theorem okDs.set {n W V : Nat} {ds : List PyData} {i : Nat} {x y : PyData} (h : okDs n W ds) (hx : ds[i]? = some x) (hy : gD y = true) (hd : y.depth ≤ n) (hw : W + wd y ≤ V + wd x) : okDs n V (ds.set i y) := by
  obtain ⟨h1, h2, h3⟩ := h
  refine ⟨gDs_iff.mpr fun d hm => ?_, depthAll_le.mpr fun d hm => ?_, ?_⟩
  · rcases List.mem_or_eq_of_mem_set hm with q | q
    · exact gDs_iff.mp h1 d q
    · rw [q]; exact hy
  · rcases List.mem_or_eq_of_mem_set hm with q | q
    · exact depthAll_le.mp h2 d q
    · rw [q]; exact hd
  · have := wds_set (y := y) hx
    omega
theorem erase_eq {α : Type} : ∀ (l : List α) (i : Nat), l.eraseIdx i = l.take i ++ l.drop (i + 1)
  | [], _ => by simp
  | _ :: _, 0 => rfl
  | x :: xs, i + 1 => by
    show x :: xs.eraseIdx i = x :: (xs.take i ++ xs.drop (i + 1))
    rw [erase_eq xs i]
theorem okDs.sub {n W : Nat} {ds es : List PyData} (h : okDs n W ds) (hm : ∀ d ∈ es, d ∈ ds) (hw : wds es ≤ W) : okDs n W es :=
  ⟨gDs_iff.mpr fun d hd => gDs_iff.mp h.1 d (hm d hd), depthAll_le.mpr fun d hd => depthAll_le.mp h.2.1 d (hm d hd), hw⟩
theorem kit_tl {K : PySem.W.Frag} (d : PyData) : PySem.W.kitAny K (.type (tyD d)) [.type "tuple", .type "list"] = some (isTupD d || isLstD d) := by
  refine kitAny_cons (kit_ty (kit_tuple d)) (fun e => ?_) (fun e => by rw [e]; rfl)
  rw [e, Bool.false_or]
  exact kitAny_cons (kit_ty (kit_list d)) (fun e => by rw [e]; exact kitAny_nil) (fun e => by rw [e])
section
variable {P : Program} {w : World} {K : PySem.W.Frag} {mg : Str → Option Value} {base : Heap} {rel : Addr}
def spOdd : Sp := fun vs H Q _ => ∃ (b : Addr), vs = [.ref b] ∧ BagAt H b ∧ ∀ (H' : Hp) (v : V) (d : PyData), Ex H H' → DaA (fun a => H a = none) H' v d → okD 1 4000 d → (d.canLay0 = true ∨ ∃ ks, d = .dict ks) → Q v H'
theorem ok_odd (T : Txt0 mg) (D : Df K mg "_law_odd" s_l_odd) (c_l_some : CalG P w K mg base 2 "_law_some" (spSome K)) : CalG P w K mg base 3 "_law_odd" spOdd := by
  refine cal_mk D sc_l_odd (fun _ _ _ _ _ _ us hl => match us, hl with | [_], _ => rfl) (fun vs H Q E h => ?_) (fun f cdv A outer s H vs Q E hr hG h => ?_)
  · obtain ⟨b, rfl, _⟩ := h
    rfl
  · obtain ⟨b, rfl, hb, q⟩ := h
    refine ⟨_, (pss_cons (ps_set (i := 1) sc_l_odd.nd rfl (Or.inl rfl) (pe_lst (pa_cons pe_non (pa_cons pe_int (pa_cons pe_str (pa_cons pe_str (pa_cons (pe_tup pa_nil) (pa_cons (pe_lst pa_nil) (pa_cons pe_dnewK (pa_cons (pe_tup (pa_cons pe_str pa_nil)) (pa_cons pe_bl (pa_cons (pe_op op_pow pe_int pe_int) (pa_cons (pe_lst (pa_cons pe_non pa_nil)) (pa_cons (pe_tup (pa_cons pe_str (pa_cons pe_str pa_nil))) (pa_cons pe_str (pa_cons (pe_un un_neg pe_int) (pa_cons (pe_tup (pa_cons pe_int (pa_cons pe_int pa_nil))) pa_nil)))))))))))))))))
      (pss_cons (ps_set (i := 1) sc_l_odd.nd rfl (Or.inl rfl) (pe_op opAdd (pv 1) (pe_lst (pa_cons pe_str (pa_cons pe_str (pa_cons pe_str (pa_cons pe_str (pa_cons pe_str pa_nil))))))))
      (pss_one (ps_ret (pe_cG c_l_some hr hG (by decide) rfl (pa_cons (pv 0) (pa_cons (pe_op opAdd (pv 1) (pe_lst (pa_cons (pe_disp (pps_cons pe_str pe_int pps_nil) (by rfl) (by rfl) (fun z => by cases z) (by decide)) (pa_cons pe_str (pa_cons pe_str (pa_cons (pe_tup (pa_cons pe_str pa_nil)) (pa_cons (pe_tup (pa_cons pe_str (pa_cons pe_str (pa_cons pe_str pa_nil)))) pa_nil))))))) pa_nil))))))), ?_⟩
    refine ⟨by show 0 ≤ sizeLine; decide, fun t1 n1 => ?_⟩
    generalize hq1 : upd H t1 _ = H1
    obtain ⟨e1, h1⟩ := gen1 hq1 n1
    refine ⟨by show 0 ≤ sizeLine; decide, fun l1 n2 => ?_⟩
    generalize hq2 : upd H1 l1 _ = H2
    obtain ⟨e2, h2⟩ := gen1 hq2 n2
    refine fun d1 n3 => ?_
    generalize hq3 : upd H2 d1 _ = H3
    obtain ⟨e3, h3⟩ := gen1 hq3 n3
    obtain ⟨H4, hq4⟩ : ∃ H4, H3 = H4 := ⟨_, rfl⟩
    subst hq4
    have e4 := e3
    have h4 := h3
    refine ⟨by show 1 ≤ sizeLine; decide, fun t2 n5 => ?_⟩
    generalize hq5 : upd H3 t2 _ = H5
    obtain ⟨e5, h5⟩ := gen1 hq5 n5
    refine ⟨10, 39, rfl, rfl, ⟨by decide, by decide, by decide⟩, ?_⟩
    refine ⟨by show 1 ≤ sizeLine; decide, fun l2 n6 => ?_⟩
    generalize hq6 : upd H5 l2 _ = H6
    obtain ⟨e6, h6⟩ := gen1 hq6 n6
    refine ⟨by show 2 ≤ sizeLine; decide, fun t3 n7 => ?_⟩
    generalize hq7 : upd H6 t3 _ = H7
    obtain ⟨e7, h7⟩ := gen1 hq7 n7
    refine ⟨1, rfl, ?_⟩
    refine ⟨by show 2 ≤ sizeLine; decide, fun t4 n8 => ?_⟩
    generalize hq8 : upd H7 t4 _ = H8
    obtain ⟨e8, h8⟩ := gen1 hq8 n8
    refine ⟨by show 15 ≤ sizeLine; decide, fun l3 n9 => ?_⟩
    generalize hq9 : upd H8 l3 _ = H9
    obtain ⟨e9, h9⟩ := gen1 hq9 n9
    refine ⟨_, rfl, ?_⟩
    refine ⟨by show 5 ≤ sizeLine; decide, fun l4 n10 => ?_⟩
    generalize hq10 : upd H9 l4 _ = H10
    obtain ⟨e10, h10⟩ := gen1 hq10 n10
    refine .inr (.inr (.inl ⟨l3, l4, _, _, rfl, rfl, e10 _ _ h9, h10, by show 15 + 5 ≤ sizeLine; decide, fun l5 n11 => ?_⟩))
    generalize hq11 : upd H10 l5 _ = H11
    obtain ⟨e11, h11⟩ := gen1 hq11 n11
    refine ⟨_, rfl, _, rfl, ?_⟩
    refine fun d2 n12 => ?_
    generalize hq12 : upd H11 d2 _ = H12
    obtain ⟨e12, h12⟩ := gen1 hq12 n12
    refine ⟨h12, [(Sum.inr "a", .int 1)], rfl, by show 1 ≤ 15; decide, ?_⟩
    generalize hq13 : upd H12 d2 _ = H13
    obtain ⟨e13, h13⟩ := dict_gen hq13 e12 n12
    refine ⟨by show 1 ≤ sizeLine; decide, fun t5 n14 => ?_⟩
    generalize hq14 : upd H13 t5 _ = H14
    obtain ⟨e14, h14⟩ := gen1 hq14 n14
    refine ⟨by show 3 ≤ sizeLine; decide, fun t6 n15 => ?_⟩
    generalize hq15 : upd H14 t6 _ = H15
    obtain ⟨e15, h15⟩ := gen1 hq15 n15
    refine ⟨by show 5 ≤ sizeLine; decide, fun l6 n16 => ?_⟩
    generalize hq16 : upd H15 l6 _ = H16
    obtain ⟨e16, h16⟩ := gen1 hq16 n16
    have e1116 := ((e13.trans e14).trans e15).trans e16
    refine .inr (.inr (.inl ⟨l5, l6, _, _, rfl, rfl, e1116 _ _ h11, h16, by show 20 + 5 ≤ sizeLine; decide, fun l7 n17 => ?_⟩))
    generalize hq17 : upd H16 l7 _ = H17
    obtain ⟨e17, h17⟩ := gen1 hq17 n17
    have f15 := e16.trans e17
    have f14 := e15.trans f15
    have f13 := e14.trans f14
    have f8 := (((e9.trans e10).trans e11).trans e13).trans f13
    have f7 := e8.trans f8
    have f6 := e7.trans f7
    have f5 := e6.trans f6
    have f4 := e5.trans f5
    have f2 := e4.trans f4
    have f1 := e2.trans f2
    have f0 := e1.trans f1
    have b13 := (((e4.trans e5).trans e6).trans e7).trans e8
    have m1 : H t1 = none := n1
    have m2 : H l1 = none := none_of e1 n2
    have m3 : H d1 = none := none_of (e1.trans e2) n3
    have m5 : H t2 = none := none_of ((e1.trans e2).trans e4) n5
    have m6 : H l2 = none := none_of (((e1.trans e2).trans e4).trans e5) n6
    have m7 : H t3 = none := none_of ((((e1.trans e2).trans e4).trans e5).trans e6) n7
    have m8 : H t4 = none := none_of (((((e1.trans e2).trans e4).trans e5).trans e6).trans e7) n8
    have u11 := ((((e1.trans e2).trans b13).trans e9).trans e10).trans e11
    have m12 : H d2 = none := none_of u11 n12
    have m14 : H t5 = none := none_of (u11.trans e13) n14
    have m15 : H t6 = none := none_of ((u11.trans e13).trans e14) n15
    have all : DaAA (fun a => H a = none) H17 _ oddL := DaAA.app (DaAA.app
      (.cons .non (.cons (.int 5) (.cons (.str "a") (.cons (.str "") (.cons (.tup m1 (f1 _ _ h1) .nil) (.cons (.lst m2 (f2 _ _ h2) .nil) (.cons (.dct (kv := []) m3 (f4 _ _ h3) rfl) (.cons (.tup m5 (f5 _ _ h5) (.cons (.str "eq") .nil)) (.cons (.bl true) (.cons (.int _)
        (.cons (.lst m6 (f6 _ _ h6) (.cons .non .nil)) (.cons (.tup m7 (f7 _ _ h7) (.cons (.str "name") (.cons (.str "a") .nil))) (.cons (.str "eq") (.cons (.int (-1)) (.cons (.tup m8 (f8 _ _ h8) (.cons (.int 0) (.cons (.int 1) .nil))) .nil)))))))))))))))
      (.cons (.str "a1") (.cons (.str "aB") (.cons (.str "a_") (.cons (.str "a{") (.cons (.str "a\n") .nil))))))
      (.cons (.dct (kv := [("a", 1)]) m12 (f13 _ _ h13) rfl) (.cons (.str "ab b") (.cons (.str "abcdefghi") (.cons (.tup m14 (f14 _ _ h14) (.cons (.str "last") .nil)) (.cons (.tup m15 (f15 _ _ h15) (.cons (.str "") (.cons (.str "") (.cons (.str "") .nil)))) .nil)))))
    refine ⟨b, l7, _, rfl, hb.ex f0, .inl (sq_of h17), (fun e => absurd (congrArg List.length e) (by show ¬ 25 = 0; decide)), by show 25 ≤ 100000; decide, fun H18 i x e18 hx => ?_⟩
    obtain ⟨d, hd, hda⟩ := all.at hx
    exact q _ _ d (f0.trans e18) (DaA.move (fun a o _ z => e18 a o z) (fun _ z => z) d hda) (odd_ok (List.mem_of_getElem? hd)) (odd_or (List.mem_of_getElem? hd))
end
abbrev s_l_world : Stmt := top 28
theorem sc_l_world : FnScope ["_law_bag_here"] ["_law_bag_here"] (defScope s_l_world) := ⟨rfl, rfl, rfl, by decide +kernel, rfl, by decide +kernel, by decide +kernel⟩
abbrev s_l_row : Stmt := top 31
theorem sc_l_row : FnScope ["_law_bag_here", "_law_world_here"] ["_law_bag_here", "_law_world_here"] (defScope s_l_row) := ⟨rfl, rfl, rfl, by decide +kernel, rfl, by decide +kernel, by decide +kernel⟩
structure WOk (ns ts : List Str) : Prop where
  n : ns.length = 3
  t2 : 2 ≤ ts.length
  t4 : ts.length ≤ 4
  nn : ∀ z ∈ ns, isNm z = true
  nt : ∀ z ∈ ts, isNm z = true
def WorldAt (H : Hp) (v : V) (ns ts : List Str) : Prop := ∃ (d pn pt : Addr) (kvs : List (Key × V)), v = .ref d ∧ H d = some (.dK kvs) ∧ valV kvs (Sum.inr "names") = some (.ref pn) ∧ valV kvs (Sum.inr "things") = some (.ref pt) ∧ H pn = some (.lst (ns.map V.str)) ∧ H pt = some (.lst (ts.map V.str))
theorem WorldAt.ex {H H' : Hp} {v : V} {ns ts : List Str} (e : Ex H H') (h : WorldAt H v ns ts) : WorldAt H' v ns ts := by
  obtain ⟨d, pn, pt, kvs, h1, h2, h3, h4, h5, h6⟩ := h
  exact ⟨d, pn, pt, kvs, h1, e _ _ h2, h3, h4, e _ _ h5, e _ _ h6⟩
/-- a row: its name and its fact -/
abbrev Rw := Str × List A3
def RowAt (H : Hp) (v : V) (r : Rw) : Prop := ∃ p vf, v = .ref p ∧ H p = some (.tup [.str r.1, vf]) ∧ FactAt H vf r.2
theorem RowAt.tex {H H' : Hp} {v : V} {r : Rw} (e : TEx H H') (h : RowAt H v r) : RowAt H' v r := by
  obtain ⟨p, vf, h1, h2, p2, xs, h3, h4, h5⟩ := h
  exact ⟨p, vf, h1, e _ _ h2, p2, xs, h3, e _ _ h4, h5.tex e⟩
def AllRw (H : Hp) : List V → List Rw → Prop
  | [], [] => True
  | v :: vs, r :: rs => RowAt H v r ∧ AllRw H vs rs
  | _, _ => False
theorem AllRw.tex {H H' : Hp} (e : TEx H H') : ∀ {vs : List V} {rs : List Rw}, AllRw H vs rs → AllRw H' vs rs
  | [], [], _ => trivial
  | _ :: _, _ :: _, h => ⟨h.1.tex e, AllRw.tex e h.2⟩
  | [], _ :: _, h => h.elim
  | _ :: _, [], h => h.elim
theorem AllRw.len {H : Hp} : ∀ {vs : List V} {rs : List Rw}, AllRw H vs rs → vs.length = rs.length
  | [], [], _ => rfl
  | _ :: _, _ :: _, h => by rw [List.length_cons, List.length_cons, AllRw.len h.2]
  | [], _ :: _, h => h.elim
  | _ :: _, [], h => h.elim
theorem AllRw.at {H : Hp} : ∀ {vs : List V} {rs : List Rw} {i : Nat} {v : V}, AllRw H vs rs → vs[i]? = some v → ∃ r, rs[i]? = some r ∧ RowAt H v r
  | [], [], _, _, _, h => by simp at h
  | _ :: _, r :: _, 0, _, h, e => by
    cases e
    exact ⟨r, rfl, h.1⟩
  | _ :: _, _ :: _, i + 1, _, h, e => AllRw.at (i := i) h.2 e
  | [], _ :: _, _, _, h, _ => h.elim
  | _ :: _, [], _, _, h, _ => h.elim
theorem AllRw.snoc {H : Hp} {v : V} {r : Rw} (hv : RowAt H v r) : ∀ {vs : List V} {rs : List Rw}, AllRw H vs rs → AllRw H (vs ++ [v]) (rs ++ [r])
  | [], [], _ => ⟨hv, trivial⟩
  | _ :: _, _ :: _, h => ⟨h.1, AllRw.snoc hv h.2⟩
  | [], _ :: _, h => h.elim
  | _ :: _, [], h => h.elim
theorem AllRw.take {H : Hp} : ∀ {vs : List V} {rs : List Rw} (n : Nat), AllRw H vs rs → AllRw H (vs.take n) (rs.take n)
  | _, _, 0, _ => trivial
  | [], [], _ + 1, _ => trivial
  | _ :: _, _ :: _, n + 1, h => ⟨h.1, AllRw.take n h.2⟩
  | [], _ :: _, _ + 1, h => h.elim
  | _ :: _, [], _ + 1, h => h.elim
def rwD (r : Rw) : PyData := .tuple [.str r.1, faD r.2]
theorem RowAt.dp {K : PySem.W.Frag} {H : Hp} {v : V} {r : Rw} (h : RowAt H v r) : Dp K H v (rwD r) := by
  obtain ⟨p, vf, rfl, h2, h3⟩ := h
  exact .tup (st_of h2) (.cons (.str _) (.cons h3.dp .nil))
theorem AllRw.dp {K : PySem.W.Frag} {H : Hp} : ∀ {vs : List V} {rs : List Rw}, AllRw H vs rs → DpAll K H vs (rs.map rwD)
  | [], [], _ => .nil
  | _ :: _, _ :: _, h => .cons h.1.dp (AllRw.dp h.2)
  | [], _ :: _, h => h.elim
  | _ :: _, [], h => h.elim
def nA (a : A3) : Prop := isR3 a.1 = true ∧ isNm a.2.1 = true ∧ isNm a.2.2 = true
def nF (as : List A3) : Prop := 1 ≤ as.length ∧ as.length ≤ 2 ∧ ∀ a ∈ as, nA a
def nR (r : Rw) : Prop := isNm r.1 = true ∧ nF r.2
theorem WOk.nA {ns ts : List Str} (h : WOk ns ts) {a : A3} (h1 : isR3 a.1 = true) (h2 : a.2.1 ∈ ts) (h3 : a.2.2 ∈ ts) : nA a := ⟨h1, h.nt _ h2, h.nt _ h3⟩
def gR (r : Rw) : Prop := isNm r.1 = true ∧ r.2.length ≤ 2 ∧ ∀ a ∈ r.2, gA a
theorem gR.fin {r : Rw} (h : gR r) : Own.fin 3 2000 (rwD r) := by
  refine (fin_tup (n := 2) (W := 700) (m := 2) (fun d hd => ?_) (Nat.le_refl _)).mono (by decide) (by decide)
  have hd : d ∈ [PyData.str r.1, faD r.2] := hd
  simp only [List.mem_cons, List.not_mem_nil, or_false] at hd
  rcases hd with rfl | rfl
  · exact (fin_str (L := 8) (nm_ok h.1) (nm_len h.1)).mono (by decide) (by decide)
  · exact fin_fa h.2.2 h.2.1
theorem gR.list {rs : List Rw} (h : ∀ r ∈ rs, gR r) (hl : rs.length ≤ 100) : fine (.list (rs.map rwD)) := by
  refine (fin_list (n := 3) (W := 2000) (m := 100) (fun d hd => ?_) (by rw [List.length_map]; exact hl)).fine (by decide) (by decide)
  obtain ⟨r, hr, rfl⟩ := List.mem_map.mp hd
  exact (h r hr).fin
theorem nA.g {a : A3} (h : nA a) : gA a := gA_of (ns := [a.2.1, a.2.2]) (fun z hz => by
  simp only [List.mem_cons, List.not_mem_nil, or_false] at hz
  rcases hz with rfl | rfl
  · exact h.2.1
  · exact h.2.2) (isR_of h.1) (.inr (by simp)) (.inr (by simp))
theorem nR.g {r : Rw} (h : nR r) : gR r := ⟨h.1, h.2.2.1, fun a ha => (h.2.2.2 a ha).g⟩
theorem w_names (x y : V) : valV (mergeK [] [((Sum.inr "names" : Key), x), ((Sum.inr "things" : Key), y)]) (Sum.inr "names") = some x := by rfl
theorem w_things (x y : V) : valV (mergeK [] [((Sum.inr "names" : Key), x), ((Sum.inr "things" : Key), y)]) (Sum.inr "things") = some y := by rfl
section
variable {P : Program} {w : World} {K : PySem.W.Frag} {mg : Str → Option Value} {base : Heap}
def spWorld : Sp := fun vs H Q _ => ∃ (b : Addr), vs = [.ref b] ∧ BagAt H b ∧ ∀ (H' : Hp) (v : V) (ns ts : List Str), Ex H H' → WorldAt H' v ns ts → WOk ns ts → Q v H'
theorem ok_world (T : Txt0 mg) (D : Df K mg "_law_world" s_l_world) (c_l_take : CalG P w K mg base 1 "_law_take" spTake) (c_l_names : CalG P w K mg base 2 "_law_names" spNames) : CalG P w K mg base 3 "_law_world" spWorld := by
  refine cal_mk D sc_l_world (fun _ _ _ _ _ _ us hl => match us, hl with | [_], _ => rfl) (fun vs H Q E h => ?_) (fun f cdv A outer s H vs Q E hr hG h => ?_)
  · obtain ⟨b, rfl, _⟩ := h
    rfl
  · obtain ⟨b, rfl, hb, q⟩ := h
    refine ⟨_, (pss_one (ps_ret (pe_disp (pps_cons pe_str (pe_cG c_l_names hr hG (by decide) rfl (pa_cons (pv 0) (pa_cons pe_int pa_nil))) (pps_cons pe_str (pe_cG c_l_names hr hG (by decide) rfl (pa_cons (pv 0) (pa_cons (pe_op opAdd pe_int (pe_cG c_l_take hr hG (by decide) rfl (pa_cons (pv 0) (pa_cons pe_int pa_nil)))) pa_nil))) pps_nil)) (by rfl) (by rfl) (fun z => by cases z) (by decide)))), fun d hd => ?_⟩
    generalize hq1 : upd H d _ = H1
    obtain ⟨e1, h1⟩ := gen1 hq1 hd
    refine ⟨_, rfl, b, 3, rfl, hb.ex e1, by decide, by decide, fun H2 pn ns e2 _ hpn hnl _ hnn => ?_⟩
    refine ⟨_, rfl, _, rfl, b, 3, rfl, hb.ex (e1.trans e2), by decide, by decide, fun H3 r r0 r1 e3 => .inl ⟨2, r, rfl, rfl, ?_⟩⟩
    refine ⟨b, _, rfl, hb.ex ((e1.trans e2).trans e3), by omega, by omega, fun H4 pt ts e4 _ hpt htl _ hnt => ?_⟩
    have e14 := (e2.trans e3).trans e4
    refine ⟨e14 _ _ h1, [(Sum.inr "names", .ref pn), (Sum.inr "things", .ref pt)], rfl, by show 2 ≤ 15; decide, ?_⟩
    have e34 := e3.trans e4
    have hpn4 := e34 _ _ hpn
    have n1 : pn ≠ d := fun e => by
      rw [e] at hpn4
      rw [e14 _ _ h1] at hpn4
      cases hpn4
    have n2 : pt ≠ d := fun e => by
      rw [e] at hpt
      rw [e14 _ _ h1] at hpt
      cases hpt
    refine q _ _ ns ts (Ex.mut (e1.trans e14) hd) ⟨d, pn, pt, _, rfl, upd_same, w_names _ _, w_things _ _, by rw [upd_ne n1]; exact hpn4, by rw [upd_ne n2]; exact hpt⟩ ⟨by omega, by omega, by omega, hnn, hnt⟩
def spRow : Sp := fun vs H Q _ => ∃ (b : Addr) (v : V) (ns ts : List Str), vs = [.ref b, v] ∧ BagAt H b ∧ WorldAt H v ns ts ∧ WOk ns ts ∧ ∀ (H' : Hp) (u : V) (r : Rw), Ex H H' → RowAt H' u r → nR r → Q u H'
theorem ok_row (T : Txt0 mg) (D : Df K mg "_law_row" s_l_row) (c_l_some : CalG P w K mg base 2 "_law_some" (spSome K)) (c_l_fact : CalG P w K mg base 4 "_law_fact" spFact) : CalG P w K mg base 5 "_law_row" spRow := by
  refine cal_mk D sc_l_row (fun _ _ _ _ _ _ us hl => match us, hl with | [_, _], _ => rfl) (fun vs H Q E h => ?_) (fun f cdv A outer s H vs Q E hr hG h => ?_)
  · obtain ⟨b, v, ns, ts, rfl, _⟩ := h
    rfl
  · obtain ⟨b, _, ns, ts, rfl, hb, ⟨d, pn, pt, kvs, rfl, hd, hkn, hkt, hpn, hpt⟩, hw, q⟩ := h
    refine ⟨_, (pss_one (ps_ret (pe_tup (pa_cons (pe_cG c_l_some hr hG (by decide) rfl (pa_cons (pv 0) (pa_cons (pe_dget (hu_of hr) (pv 1) pe_str (fun _ _ => rfl)) pa_nil))) (pa_cons (pe_cG c_l_fact hr hG (by decide) rfl (pa_cons (pv 0) (pa_cons (pe_dget (hu_of hr) (pv 1) pe_str (fun _ _ => rfl)) pa_nil))) pa_nil))))), ?_⟩
    have hn3 := hw.n
    have ht2 := hw.t2
    have ht4 := hw.t4
    refine ⟨_, rfl, _, rfl, d, .ref pn, rfl, .inl ⟨kvs, Sum.inr "names", .inl hd, rfl, hkn.symm⟩, ?_⟩
    refine ⟨b, pn, _, rfl, hb, .inl (sq_of hpn), (fun e => by have z := congrArg List.length e; rw [List.length_map] at z; rw [hn3] at z; cases z), by rw [List.length_map]; omega, fun H1 i x e1 hx => ?_⟩
    obtain ⟨nm, hnm, rfl⟩ := str_at hx
    refine ⟨_, rfl, _, rfl, d, .ref pt, rfl, .inl ⟨kvs, Sum.inr "things", .inl (e1 _ _ hd), rfl, hkt.symm⟩, ?_⟩
    refine ⟨b, pt, ts, rfl, hb.ex e1, e1 _ _ hpt, (fun e => by rw [e] at ht2; exact absurd ht2 (by decide)), by omega, fun H2 vf as e2 hf h1 h2 hall => ?_⟩
    refine ⟨by show 2 ≤ sizeLine; decide, fun t ht => ?_⟩
    refine q _ _ (nm, as) ((e1.trans e2).trans (Ex.new ht)) ⟨t, vf, rfl, upd_same, hf.ex (Ex.new ht)⟩ ⟨hw.nn _ (List.mem_of_getElem? hnm), h1, h2, fun a ha => ?_⟩
    obtain ⟨k1, k2, k3⟩ := hall a ha
    exact hw.nA k1 k2 k3
end
/-! ### rows as data -/
theorem strs_da {H : Hp} : ∀ ns : List Str, DaAll H (ns.map V.str) (ns.map PyData.str)
  | [] => .nil
  | n :: ns => .cons (.str n) (strs_da ns)
theorem AtomAt.da {H : Hp} {v : V} {a : A3} (h : AtomAt H v a) : Da H v (atD a) := by
  obtain ⟨p, rfl, h2⟩ := h
  exact .tup h2 (strs_da _)
theorem AllAt.da {H : Hp} : ∀ {vs : List V} {as : List A3}, AllAt H vs as → DaAll H vs (as.map atD)
  | [], [], _ => .nil
  | _ :: vs, _ :: as, h => .cons h.1.da (AllAt.da h.2)
  | [], _ :: _, h => h.elim
  | _ :: _, [], h => h.elim
theorem FactAt.da {H : Hp} {v : V} {as : List A3} (h : FactAt H v as) : Da H v (faD as) := by
  obtain ⟨p, xs, rfl, h2, h3⟩ := h
  exact .tup h2 h3.da
theorem RowAt.da {H : Hp} {v : V} {r : Rw} (h : RowAt H v r) : Da H v (rwD r) := by
  obtain ⟨p, vf, rfl, h2, h3⟩ := h
  exact .tup h2 (.cons (.str _) (.cons h3.da .nil))
theorem AllRw.da {H : Hp} : ∀ {vs : List V} {rs : List Rw}, AllRw H vs rs → DaAll H vs (rs.map rwD)
  | [], [], _ => .nil
  | _ :: _, _ :: _, h => .cons h.1.da (AllRw.da h.2)
  | [], _ :: _, h => h.elim
  | _ :: _, [], h => h.elim
theorem okD_str {z : Str} {L : Nat} (h : lay z = true) (hl : z.length ≤ L) : okD 0 (10 * L + 5) (.str z) := ⟨h, Nat.le_refl _, by show 10 * z.length + 5 ≤ _; omega⟩
theorem okD_tup {n W : Nat} {ds : List PyData} (h : ∀ d ∈ ds, okD n W d) {m : Nat} (hm : ds.length ≤ m) : okD (n + 1) (m * (W + 2) + 3) (.tuple ds) := by
  refine ⟨gDs_iff.mpr fun d hd => (h d hd).1, Nat.succ_le_succ (depthAll_le.mpr fun d hd => (h d hd).2.1), ?_⟩
  have z : ∀ es : List PyData, (∀ d ∈ es, wd d ≤ W) → wds es ≤ es.length * (W + 2) := by
    intro es
    induction es with
    | nil => exact fun _ => Nat.zero_le _
    | cons e es ih =>
      intro he
      have q1 := he e List.mem_cons_self
      have q2 := ih fun d hd => he d (List.mem_cons_of_mem _ hd)
      show wd e + 2 + wds es ≤ (es.length + 1) * (W + 2)
      rw [Nat.add_mul]
      omega
  have q := z ds fun d hd => (h d hd).2.2
  have q2 := Nat.mul_le_mul_right (W + 2) hm
  show wds ds + 3 ≤ _
  omega
theorem okD_list {n W : Nat} {ds : List PyData} (h : ∀ d ∈ ds, okD n W d) {m : Nat} (hm : ds.length ≤ m) : okD (n + 1) (m * (W + 2) + 3) (.list ds) := okD_tup h hm
theorem gA.okD {a : A3} (h : gA a) : okD 1 264 (atD a) := by
  obtain ⟨h1, h2, h3, h4⟩ := h
  unfold sOk at h1
  rw [Bool.and_eq_true, Bool.and_eq_true] at h1
  refine okD_tup (n := 0) (W := 85) (m := 3) (fun d hd => ?_) (Nat.le_refl _)
  have hd : d ∈ [PyData.str a.1, PyData.str a.2.1, PyData.str a.2.2] := hd
  simp only [List.mem_cons, List.not_mem_nil, or_false] at hd
  rcases hd with rfl | rfl | rfl
  · exact okD_str (L := 8) h1.1 h2
  · exact okD_str (L := 8) h1.2.1 h3
  · exact okD_str (L := 8) h1.2.2 h4
theorem okD_fa {as : List A3} {m : Nat} (h : ∀ a ∈ as, gA a) (h2 : as.length ≤ m) : okD 2 (m * 266 + 3) (faD as) := by
  refine okD_tup (n := 1) (W := 264) (m := m) (fun d hd => ?_) (by rw [List.length_map]; exact h2)
  obtain ⟨a, ha, rfl⟩ := List.mem_map.mp hd
  exact (h a ha).okD
theorem gR.okD {r : Rw} (h : gR r) : okD 3 1200 (rwD r) := by
  refine (okD_tup (n := 2) (W := 540) (m := 2) (fun d hd => ?_) (Nat.le_refl _)).mono (by decide) (by decide)
  have hd : d ∈ [PyData.str r.1, faD r.2] := hd
  simp only [List.mem_cons, List.not_mem_nil, or_false] at hd
  rcases hd with rfl | rfl
  · exact (okD_str (L := 8) (nm_ok h.1) (nm_len h.1)).mono (by decide) (by decide)
  · exact (okD_fa (m := 2) h.2.2 h.2.1).mono (by decide) (by decide)
abbrev s_l_rows : Stmt := top 32
theorem sc_l_rows : FnScope ["_law_bag_here", "_law_world_here", "_law_top", "_law_k"] ["_law_bag_here", "_law_world_here", "_law_top"] (defScope s_l_rows) := ⟨rfl, rfl, rfl, by decide +kernel, rfl, by decide +kernel, by decide +kernel⟩
section
variable {P : Program} {w : World} {K : PySem.W.Frag} {mg : Str → Option Value} {base : Heap}
def spRows : Sp := fun vs H Q _ => ∃ (b : Addr) (v : V) (ns ts : List Str) (m : Int), vs = [.ref b, v, .int m] ∧ BagAt H b ∧ WorldAt H v ns ts ∧ WOk ns ts ∧ 0 ≤ m ∧ m ≤ 20 ∧ ∀ (H' : Hp) (p : Addr) (us : List V) (rs : List Rw), Ex H H' → H p = none → H' p = some (.lst us) → AllRw H' us rs → (∀ r ∈ rs, nR r) → (rs.length : Int) ≤ m → Q (.ref p) H'
theorem ok_rows (T : Txt0 mg) (D : Df K mg "_law_rows" s_l_rows) (c_l_take : CalG P w K mg base 1 "_law_take" spTake) (c_l_row : CalG P w K mg base 5 "_law_row" spRow) : CalG P w K mg base 6 "_law_rows" spRows := by
  refine cal_mk D sc_l_rows (fun _ _ _ _ _ _ us hl => match us, hl with | [_, _, _], _ => rfl) (fun vs H Q E h => ?_) (fun f cdv A outer s H vs Q E hr hG h => ?_)
  · obtain ⟨b, v, ns, ts, m, rfl, _⟩ := h
    rfl
  · obtain ⟨b, v, ns, ts, m, rfl, hb, hv, hw, m0, m1, q⟩ := h
    refine ⟨_, (pss_one (ps_ret (pe_lcO (pe_lc (own := [("_law_k", 3)]) rfl sc_l_rows.nd (pi_range1 rfl T.range (pa_cons (pe_cG c_l_take hr hG (by decide) rfl (pa_cons (pv 0) (pa_cons (pe_op opAdd (pv 2) pe_int) pa_nil))) pa_nil)) (blkOk_by (own := [("_law_k", 3)]) (N := ["_law_bag_here", "_law_world_here", "_law_top", "_law_k"]) (sc := defScope s_l_rows) (by first | decide +kernel | kernel_rfl)) (fun _ _ _ _ _ => pg_name (i := 3) sc_l_rows.nd rfl (Or.inl rfl)) (fun _ _ _ _ _ => pts_nil) (fun _ _ _ _ _ => pe_cG c_l_row hr hG (by decide) rfl (pa_cons (pv 0) (pa_cons (pv 1) pa_nil))))))), ?_⟩
    refine ⟨_, rfl, _, rfl, .inl ⟨m, 1, rfl, rfl, ?_⟩⟩
    refine ⟨b, _, rfl, hb, by omega, by omega, fun H1 r r0 r1 e1 => ?_⟩
    obtain ⟨n, rfl⟩ : ∃ n : Nat, r = (n : Int) := ⟨r.toNat, by omega⟩
    refine ⟨(n : Int), rfl, by omega, by omega, ?_⟩
    refine lcG (walk_range (lo := 0) (n := (n : Int).toNat)) (by omega) trivial (fun _ _ _ _ => trivial) yFn_ex (fun i ys H' => ∃ rs : List Rw, AllRw H' ys rs ∧ rs.length = i ∧ ∀ r ∈ rs, nR r)
      (fun _ _ _ _ e ⟨rs, h1, h2⟩ => ⟨rs, h1.tex e, h2⟩) ⟨[], trivial, rfl, fun a ha => by cases ha⟩ ?_ ?_
    · rintro i x H2 H3 ys hi e2 ⟨rfl, rfl⟩ ⟨rs, hA, hal, hR⟩ N N0 kN kN0
      refine ⟨rfl, ?_⟩
      have e12 := e1.trans e2
      refine ⟨_, rfl, _, rfl, b, v, ns, ts, rfl, hb.ex e12, hv.ex e12, hw, fun H4 u r e4 hu hg => ?_⟩
      refine kN _ _ e4 ⟨rs ++ [r], AllRw.snoc hu (hA.tex (TEx.of e4)), by rw [List.length_append, hal]; rfl, fun x hx => ?_⟩
      rcases List.mem_append.mp hx with hx | hx
      · exact hR x hx
      · rw [List.mem_singleton] at hx
        rw [hx]
        exact hg
    · rintro l H2 ys hl e2 h2 _ ⟨rs, hA, hal, hR⟩
      have hln : H l = none := by
        cases hx : H l with
        | none => rfl
        | some o => rw [e1 _ _ hx] at hl; cases hl
      exact q _ l ys rs (e1.trans e2) hln h2 hA hR (by rw [hal]; omega)
end
end Own

namespace Own
open PySem PySem.Spec PyProof.Rows L2 Evl
/-! ### rows and their data -/
theorem nA.atomD {a : A3} (h : nA a) : atomD (atD a) = true := by
  obtain ⟨h1, h2, h3⟩ := h
  show (isR3 a.1 && (isNm a.2.1 && isNm a.2.2)) = true
  rw [h1, h2, h3]
  rfl
theorem nF.factD {as : List A3} (h : nF as) : factD (faD as) = true := by
  obtain ⟨h1, h2, h3⟩ := h
  show (decide (1 ≤ (as.map atD).length) && (decide ((as.map atD).length ≤ 2) && (as.map atD).all atomD)) = true
  rw [List.length_map, decide_eq_true h1, decide_eq_true h2, Bool.true_and, Bool.true_and]
  refine List.all_eq_true.mpr fun d hd => ?_
  obtain ⟨a, ha, rfl⟩ := List.mem_map.mp hd
  exact (h3 a ha).atomD
theorem nR.rowD {r : Rw} (h : nR r) : rowD (rwD r) = true := by
  show (isNm r.1 && factD (faD r.2)) = true
  rw [h.1, h.2.factD]
  rfl
theorem atomD_inv {d : PyData} (h : atomD d = true) : ∃ a : A3, d = atD a ∧ nA a := by
  obtain ⟨ds, rfl⟩ := tup_of (d := d) (by cases d <;> first | rfl | cases h)
  match ds, h with
  | [x, y, z], h =>
    have h : (relD x && (nmD y && nmD z)) = true := h
    rw [Bool.and_eq_true, Bool.and_eq_true] at h
    obtain ⟨h1, h2, h3⟩ := h
    cases x <;> first | (cases h1; done) | skip
    cases y <;> first | (cases h2; done) | skip
    cases z <;> first | (cases h3; done) | skip
    exact ⟨(_, _, _), rfl, h1, h2, h3⟩
theorem factL_inv : ∀ {ds : List PyData}, ds.all atomD = true → ∃ as : List A3, ds = as.map atD ∧ ∀ a ∈ as, nA a
  | [], _ => ⟨[], rfl, fun a h => by cases h⟩
  | d :: ds, h => by
    have h : (atomD d && ds.all atomD) = true := h
    rw [Bool.and_eq_true] at h
    obtain ⟨a, rfl, ha⟩ := atomD_inv h.1
    obtain ⟨as, rfl, has⟩ := factL_inv h.2
    refine ⟨a :: as, rfl, fun x hx => ?_⟩
    rcases List.mem_cons.mp hx with rfl | hx
    · exact ha
    · exact has x hx
theorem factD_inv {d : PyData} (h : factD d = true) : ∃ as : List A3, d = faD as ∧ nF as := by
  obtain ⟨ds, rfl⟩ := tup_of (d := d) (by cases d <;> first | rfl | cases h)
  have h : (decide (1 ≤ ds.length) && (decide (ds.length ≤ 2) && ds.all atomD)) = true := h
  rw [Bool.and_eq_true, Bool.and_eq_true] at h
  obtain ⟨h1, h2, h3⟩ := h
  obtain ⟨as, rfl, has⟩ := factL_inv h3
  rw [List.length_map] at h1 h2
  exact ⟨as, rfl, of_decide_eq_true h1, of_decide_eq_true h2, has⟩
theorem rowD_inv {d : PyData} (h : rowD d = true) : ∃ r : Rw, d = rwD r ∧ nR r := by
  obtain ⟨ds, rfl⟩ := tup_of (d := d) (by cases d <;> first | rfl | cases h)
  match ds, h with
  | [x, y], h =>
    have h : (nmD x && factD y) = true := h
    rw [Bool.and_eq_true] at h
    obtain ⟨h1, h2⟩ := h
    obtain ⟨as, rfl, has⟩ := factD_inv h2
    cases x <;> first | (cases h1; done) | skip
    exact ⟨(_, as), rfl, h1, has⟩
theorem da_strs {H : Hp} : ∀ {vs : List V} {ns : List Str}, DaAll H vs (ns.map PyData.str) → vs = ns.map V.str
  | _, [], h => by cases h; rfl
  | _, n :: ns, h => by
    cases h with
    | cons h t =>
      cases h
      rw [da_strs t]
      rfl
theorem Da.atom {H : Hp} {v : V} {a : A3} (h : Da H v (atD a)) : AtomAt H v a := by
  cases h with
  | tup h1 h2 =>
    have e := da_strs (ns := sl3 a) h2
    subst e
    exact ⟨_, rfl, h1⟩
theorem DaAll.atoms {H : Hp} : ∀ {vs : List V} {as : List A3}, DaAll H vs (as.map atD) → AllAt H vs as
  | _, [], h => by cases h; trivial
  | _, a :: as, h => by
    cases h with
    | cons h t => exact ⟨h.atom, DaAll.atoms t⟩
theorem Da.fact {H : Hp} {v : V} {as : List A3} (h : Da H v (faD as)) : FactAt H v as := by
  cases h with
  | tup h1 h2 => exact ⟨_, _, rfl, h1, h2.atoms⟩
theorem Da.row {H : Hp} {v : V} {r : Rw} (h : Da H v (rwD r)) : RowAt H v r := by
  cases h with
  | tup h1 h2 =>
    cases h2 with
    | cons h2 h3 =>
      cases h2
      cases h3 with
      | cons h3 h4 =>
        cases h4
        exact ⟨_, _, rfl, h1, h3.fact⟩
theorem nR.ok {r : Rw} (h : nR r) : okD 3 1200 (rwD r) := h.g.okD
theorem nA.ok {a : A3} (h : nA a) : okD 1 264 (atD a) := h.g.okD
end Own

namespace Own
open PySem PySem.Spec PyProof.Rows L2 Evl
abbrev s_are_rows : Stmt := top 20
theorem sc_are_rows : FnScope ["thing", "row"] ["thing"] (defScope s_are_rows) := ⟨rfl, rfl, rfl, by decide +kernel, rfl, by decide +kernel, by decide +kernel⟩
abbrev s_Start___init__ : Stmt := inClass (top 21) 0
theorem sc_Start___init__ : FnScope ["self", "goal", "book", "aim"] ["self", "goal", "book", "aim"] (defScope s_Start___init__) := ⟨rfl, rfl, rfl, by decide +kernel, rfl, by decide +kernel, by decide +kernel⟩
structure TxtS (mg : Str → Option Value) : Prop where
  list : mg "list" = none
/-- rows in a list or a tuple -/
def SqR (K : PySem.W.Frag) (H : Hp) (v : V) (rs : List Rw) : Prop := ∃ p us, v = .ref p ∧ (H p = some (.lst us) ∨ H p = some (.tup us)) ∧ AllRw H us rs
section
variable {P : Program} {w : World} {K : PySem.W.Frag} {mg : Str → Option Value} {base : Heap} {rel : Addr}
def spAreRows (K : PySem.W.Frag) : Sp := fun vs H Q _ => ∃ (v : V) (rs : List Rw), vs = [v] ∧ SqR K H v rs ∧ rs.length ≤ 1000 ∧ (∀ r ∈ rs, nR r) ∧ ∀ H', Ex H H' → Q (.bl true) H'
theorem ok_are_rows (T : Txt0 mg) (TI0 : TxtI K mg rel) (TS : TxtS mg) (D : Df K mg "are_rows" s_are_rows) (c_is_row : CalG P w K mg base 4 "is_row" (spIs rowD)) : CalG P w K mg base 5 "are_rows" (spAreRows K) := by
  obtain ⟨TI, hlist⟩ : ∃ TI : TxtI K mg rel, mg "list" = none := ⟨TI0, TS.list⟩
  refine cal_mk D sc_are_rows (fun _ _ _ _ _ _ us hl => match us, hl with | [_], _ => rfl) (fun vs H Q E h => ?_) (fun f cdv A outer s H vs Q E hr hG h => ?_)
  · obtain ⟨v, a, rfl, _⟩ := h
    rfl
  · obtain ⟨_, rs, rfl, ⟨p, us, rfl, hp, hrs⟩, hl, hn, q⟩ := h
    refine ⟨_, (pss_one (ps_ret (pe_and (pe_callB call_isiT (by rfl) TI.isinstance (by decide +kernel) (pa_cons (pv 0) (pa_cons (pe_tup (pa_cons (pe_bltn (v := .ty "list") (by rfl) T.list (by decide +kernel) rfl) (pa_cons (pe_bltn (v := .ty "tuple") (by rfl) T.tuple (by decide +kernel) rfl) pa_nil))) pa_nil))) (pe_one (pe_callB (cr_all rfl) (by rfl) T.all (by decide +kernel) (pa_cons (pe_lcO (pe_lc (own := [("row", 1)]) rfl sc_are_rows.nd (piAny (pv 0)) (blkOk_by (own := [("row", 1)]) (N := ["thing", "row"]) (sc := defScope s_are_rows) (by first | decide +kernel | kernel_rfl)) (fun _ _ _ _ _ => pg_name (i := 1) sc_are_rows.nd rfl (Or.inl rfl)) (fun _ _ _ _ _ => pts_nil) (fun _ _ _ _ _ => pe_cG c_is_row hr hG (by decide) rfl (pa_cons (pv 1) pa_nil)))) pa_nil)))))), ?_⟩
    have hul := hrs.len
    refine ⟨_, rfl, by show 2 ≤ sizeLine; decide, fun t ht => ?_⟩
    generalize hq1 : upd H t _ = H1
    obtain ⟨e1, h1⟩ := gen1 hq1 ht
    obtain ⟨tyv, hty, hkit⟩ : ∃ tyv, TyX K H1 (.ref p) tyv ∧ PySem.W.kitAny K tyv [.type "list", .type "tuple"] = some true := by
      rcases hp with hp | hp
      · exact ⟨_, .base (.lst (e1 _ _ hp)), by exact kitAny_cons (kit_ty (r := true) (by decide +kernel)) (fun z => by cases z) (fun _ => rfl)⟩
      · exact ⟨_, .base (.tup (e1 _ _ hp)), by exact kitAny_cons (kit_ty (r := false) (by decide +kernel)) (fun _ => kitAny_cons (kit_ty (r := true) (by decide +kernel)) (fun z => by cases z) (fun _ => rfl)) (fun z => by cases z)⟩
    refine ⟨_, t, _, tyv, _, true, rfl, h1, .cons (.ty _) (.cons (.ty _) .nil), hty, hkit, true, rfl, iteT ?_⟩
    have fin2 : ∀ (H2 : Hp) (l : Addr) (n : Nat), Ex H1 H2 → H2 l = some (.lst ((List.replicate n true).map V.bl)) → rAll K [V.ref l] H2 Q := fun H2 l n e2 h2 => by
      refine ⟨l, (List.replicate n true), rfl, sq_of h2, ?_⟩
      rw [show (List.replicate n true).all id = true from by simp]
      exact q _ (e1.trans e2)
    rcases hp with hp | hp
    · refine .inl ⟨_, rfl, p, rfl, ⟨_, sq_of (e1 _ _ hp)⟩, ?_⟩
      refine lcG (walk_list (xs := us)) (by omega) (sq_of (e1 _ _ hp)) (fun _ _ e h => ex_l e h) yAt_ex (fun i ys _ => ys = (List.replicate i true).map V.bl) (fun _ _ _ _ _ h => h) rfl ?_ ?_
      · rintro i x H2 H3 ys hi e ⟨rfl, hx⟩ rfl N N0 kN kN0
        obtain ⟨r, hr1, hr2⟩ := (hrs.tex (TEx.of (e1.trans e))).at hx
        refine ⟨rfl, ?_⟩
        refine ⟨_, rfl, x, rwD r, rfl, hr2.da, (hn r (List.mem_of_getElem? hr1)).ok.mono (by decide) (by decide), fun H4 e4 => ?_⟩
        rw [(hn r (List.mem_of_getElem? hr1)).rowD]
        refine kN _ _ e4 ?_
        rw [List.replicate_succ', List.map_append]
        rfl
      · rintro l H2 ys hl2 e2 h2 _ rfl
        exact fin2 H2 l _ e2 h2
    · refine .inr (.inl ⟨_, rfl, p, rfl, ⟨_, st_of (e1 _ _ hp)⟩, ?_⟩)
      refine lcG (walk_tup (xs := us)) (by omega) (st_of (e1 _ _ hp)) (fun _ _ e h => ex_t e h) yAt_ex (fun i ys _ => ys = (List.replicate i true).map V.bl) (fun _ _ _ _ _ h => h) rfl ?_ ?_
      · rintro i x H2 H3 ys hi e ⟨rfl, hx⟩ rfl N N0 kN kN0
        obtain ⟨r, hr1, hr2⟩ := (hrs.tex (TEx.of (e1.trans e))).at hx
        refine ⟨rfl, ?_⟩
        refine ⟨_, rfl, x, rwD r, rfl, hr2.da, (hn r (List.mem_of_getElem? hr1)).ok.mono (by decide) (by decide), fun H4 e4 => ?_⟩
        rw [(hn r (List.mem_of_getElem? hr1)).rowD]
        refine kN _ _ e4 ?_
        rw [List.replicate_succ', List.map_append]
        rfl
      · rintro l H2 ys hl2 e2 h2 _ rfl
        exact fin2 H2 l _ e2 h2
def StartAt (C : Addr) (H : Hp) (v : V) (gs bs : List Rw) (a : A3) : Prop := ∃ (y d g b : Addr) (ug ub : List V) (va : V), v = .ref y ∧ H y = some (.ins C d [("goal_rows", .ref g), ("book_rows", .ref b), ("aim_atom", va)]) ∧
  H g = some (.lst ug) ∧ AllRw H ug gs ∧ H b = some (.lst ub) ∧ AllRw H ub bs ∧ AtomAt H va a
theorem TEx.ins {H : Hp} {D C d : Addr} {fs : List (Str × V)} {o : HO} (h : H D = some (.ins C d fs)) : TEx H (upd H D o) := fun a ys q => by
  rw [upd_ne (fun z => by rw [z, h] at q; cases q)]
  exact q
theorem AtomAt.tx {H H' : Hp} {v : V} {a : A3} (e : TEx H H') (h : AtomAt H v a) : AtomAt H' v a := by
  obtain ⟨p, h1, h2⟩ := h
  exact ⟨p, h1, e _ _ h2⟩
/-- the lists of a new start are new -/
def FrS (C : Addr) (H H' : Hp) (y : Addr) : Prop := ∃ (d g b : Addr) (va : V), H' y = some (.ins C d [("goal_rows", .ref g), ("book_rows", .ref b), ("aim_atom", va)]) ∧ H g = none ∧ H b = none
def spInit (K : PySem.W.Frag) (C : Addr) : Sp := fun vs H Q _ => ∃ (y d : Addr) (vg vb va : V) (gs bs : List Rw) (a : A3), vs = [.ref y, vg, vb, va] ∧ H y = some (.ins C d []) ∧ SqR K H vg gs ∧ SqR K H vb bs ∧ AtomAt H va a ∧
  gs.length ≤ 1000 ∧ bs.length ≤ 1000 ∧ (∀ r ∈ gs, nR r) ∧ (∀ r ∈ bs, nR r) ∧ nA a ∧ ∀ H', ExB y H H' → TEx H H' → StartAt C H' (.ref y) gs bs a → FrS C H H' y → Q .non H'
structure ClsS (K : PySem.W.Frag) (C : Addr) : Prop where
  cl : Cls K C
  n1 : NoAttr K C "goal_rows"
  n2 : NoAttr K C "book_rows"
  n3 : NoAttr K C "aim_atom"
theorem ok_init {C : Addr} (S : ClsS K C) {fi : Addr} {fdi : FuncData} (T : Txt0 mg) (F : Fun K "__init__" "Start.__init__" s_Start___init__ fi fdi) (c_are_rows : CalG P w K mg base 5 "are_rows" (spAreRows K)) (c_is_atom : CalG P w K mg base 2 "is_atom" (spIs atomD)) : FnG P w K mg base 6 fi fdi ["self", "goal", "book", "aim"] (spInit K C) := by
  refine fn_mkQ F sc_Start___init__ (fun vs H Q E h => ?_) (fun cdv A outer s H vs Q E hr hG h => ?_)
  · obtain ⟨y, d, vg, vb, va, gs, bs, a, rfl, _⟩ := h
    rfl
  · obtain ⟨y, d, vg, vb, va, gs, bs, a, rfl, hy, hg, hb, ha, lg, lb, ng, nb, na, q⟩ := h
    refine ⟨_, (pss_cons (ps_if (pt_not (pt_val (pe_cG c_are_rows hr hG (by decide) rfl (pa_cons (pv 1) pa_nil)))) (pss_one ps_dead) pss_nil)
      (pss_cons (ps_if (pt_not (pt_val (pe_cG c_are_rows hr hG (by decide) rfl (pa_cons (pv 2) pa_nil)))) (pss_one ps_dead) pss_nil)
      (pss_cons (ps_if (pt_not (pt_val (pe_cG c_is_atom hr hG (by decide) rfl (pa_cons (pv 3) pa_nil)))) (pss_one ps_dead) pss_nil)
      (pss_cons (ps_fld (pv 0) (pe_callTy call_list_of (by rfl) T.list (by decide +kernel) (pa_cons (pv 1) pa_nil)) (by rfl))
      (pss_cons (ps_fld (pv 0) (pe_callTy call_list_of (by rfl) T.list (by decide +kernel) (pa_cons (pv 2) pa_nil)) (by rfl))
      (pss_one (ps_fld (pv 0) (pv 3) (by rfl)))))))), ?_⟩
    refine ⟨_, rfl, vg, gs, rfl, hg, lg, ng, fun H1 e1 => ⟨true, rfl, iteF ?_⟩⟩
    obtain ⟨pg, ug, rfl, hpg, hrg⟩ := hg
    obtain ⟨pb, ub, rfl, hpb, hrb⟩ := hb
    have hrb1 := hrb.tex (TEx.of e1)
    refine ⟨_, rfl, .ref pb, bs, rfl, ⟨pb, ub, rfl, hpb.imp (e1 _ _) (e1 _ _), hrb1⟩, lb, nb, fun H2 e2 => ⟨true, rfl, iteF ?_⟩⟩
    have e12 := e1.trans e2
    refine ⟨_, rfl, va, atD a, rfl, (ha.ex e12).da, na.ok.mono (by decide) (by decide), fun H3 e3 => ⟨true, by rw [na.atomD], iteF ?_⟩⟩
    have e13 := e12.trans e3
    refine ⟨_, rfl, pg, ug, rfl, hpg.imp (fun z => sq_of (e13 _ _ z)) (fun z => st_of (e13 _ _ z)), fun g hgn => ?_⟩
    generalize hq4 : upd H3 g _ = H4
    obtain ⟨e4, h4⟩ := gen1 hq4 hgn
    have e14 := e13.trans e4
    refine ⟨_, rfl, y, C, d, _, rfl, e14 _ _ hy, S.cl, S.n1, by decide, ?_⟩
    generalize hq5 : upd H4 y _ = H5
    have hy5 : H5 y = some (.ins C d [("goal_rows", .ref g)]) := by rw [← hq5, upd_same]; rfl
    have x5 : ExB y H H5 := by rw [← hq5]; exact ExB.set (fun a o _ h => e14 a o h)
    have t5 : TEx H H5 := by rw [← hq5]; exact (TEx.of e14).trans (TEx.ins (e14 _ _ hy))
    have gy : g ≠ y := fun z => by rw [z, e13 _ _ hy] at hgn; cases hgn
    have hg5 : H5 g = some (.lst ug) := by rw [← hq5, upd_ne gy]; exact h4
    have py : pb ≠ y := fun z => by
      rcases hpb with h | h
      · rw [z, hy] at h; cases h
      · rw [z, hy] at h; cases h
    refine ⟨_, rfl, pb, ub, rfl, hpb.imp (fun z => sq_of (x5 _ _ py z)) (fun z => st_of (x5 _ _ py z)), fun b hbn => ?_⟩
    generalize hq6 : upd H5 b _ = H6
    obtain ⟨e6, h6⟩ := gen1 hq6 hbn
    refine ⟨_, rfl, y, C, d, _, rfl, e6 _ _ hy5, S.cl, S.n2, by show 1 < 1000; decide, ?_⟩
    generalize hq7 : upd H6 y _ = H7
    have hy7 : H7 y = some (.ins C d [("goal_rows", .ref g), ("book_rows", .ref b)]) := by rw [← hq7, upd_same]; rfl
    have x7 : ExB y H H7 := by rw [← hq7]; exact ExB.set (fun a o n h => e6 a o (x5 a o n h))
    have t7 : TEx H H7 := by rw [← hq7]; exact (t5.trans (TEx.of e6)).trans (TEx.ins (e6 _ _ hy5))
    have by' : b ≠ y := fun z => by rw [z, hy5] at hbn; cases hbn
    have hb7 : H7 b = some (.lst ub) := by rw [← hq7, upd_ne by']; exact h6
    have hg7 : H7 g = some (.lst ug) := by rw [← hq7, upd_ne gy]; exact e6 _ _ hg5
    refine ⟨_, rfl, _, rfl, y, C, d, _, rfl, hy7, S.cl, S.n3, by show 2 < 1000; decide, ?_⟩
    have t8 : TEx H (upd H7 y (.ins C d [("goal_rows", .ref g), ("book_rows", .ref b), ("aim_atom", va)])) := t7.trans (TEx.ins hy7)
    refine q _ (ExB.set x7) t8 ⟨y, d, g, b, ug, ub, va, rfl, upd_same, ?_, hrg.tex t8, ?_, hrb.tex t8, ha.tx t8⟩ ⟨d, g, b, va, upd_same, none_of e13 hgn, ?_⟩
    · rw [upd_ne gy]; exact hg7
    · rw [upd_ne by']; exact hb7
    · cases hx : H b with
      | none => rfl
      | some o => rw [x5 _ _ by' hx] at hbn; cases hbn
end
end Own

namespace Own
open PySem PySem.Spec PyProof.Rows L2 Evl
abbrev s_Start___len__ : Stmt := inClass (top 21) 2
theorem sc_Start___len__ : FnScope ["self"] ["self"] (defScope s_Start___len__) := ⟨rfl, rfl, rfl, by decide +kernel, rfl, by decide +kernel, by decide +kernel⟩
abbrev s_Start_goal : Stmt := inClass (top 21) 5
theorem sc_Start_goal : FnScope ["self"] ["self"] (defScope s_Start_goal) := ⟨rfl, rfl, rfl, by decide +kernel, rfl, by decide +kernel, by decide +kernel⟩
abbrev s_Start_book : Stmt := inClass (top 21) 6
theorem sc_Start_book : FnScope ["self"] ["self"] (defScope s_Start_book) := ⟨rfl, rfl, rfl, by decide +kernel, rfl, by decide +kernel, by decide +kernel⟩
abbrev s_Start_rows : Stmt := inClass (top 21) 7
theorem sc_Start_rows : FnScope ["self", "home"] ["self", "home"] (defScope s_Start_rows) := ⟨rfl, rfl, rfl, by decide +kernel, rfl, by decide +kernel, by decide +kernel⟩
abbrev s_Start_names : Stmt := inClass (top 21) 13
theorem sc_Start_names : FnScope ["self", "name", "fact"] ["self"] (defScope s_Start_names) := ⟨rfl, rfl, rfl, by decide +kernel, rfl, by decide +kernel, by decide +kernel⟩
structure TxtZ (mg : Str → Option Value) : Prop where
  sorted : mg "sorted" = none
  set : mg "set" = none
  sum : mg "sum" = none
  enum : mg "enumerate" = none
/-- a start within bounds -/
structure SOk (g k : List Rw) (a : A3) : Prop where
  g100 : g.length ≤ 100
  b100 : k.length ≤ 100
  gn : ∀ r ∈ g, nR r
  bn : ∀ r ∈ k, nR r
  an : nA a
theorem StartAt.ex {C : Addr} {H H' : Hp} {v : V} {g b : List Rw} {a : A3} (e : Ex H H') (h : StartAt C H v g b a) : StartAt C H' v g b a := by
  obtain ⟨y, d, p, q, ug, ub, va, h1, h2, h3, h4, h5, h6, h7⟩ := h
  exact ⟨y, d, p, q, ug, ub, va, h1, e _ _ h2, e _ _ h3, h4.tex (TEx.of e), e _ _ h5, h6.tex (TEx.of e), h7.ex e⟩
theorem AllRw.app {H : Hp} : ∀ {us vs : List V} {rs ss : List Rw}, AllRw H us rs → AllRw H vs ss → AllRw H (us ++ vs) (rs ++ ss)
  | [], _, [], _, _, h => h
  | _ :: _, _, _ :: _, _, h, h' => ⟨h.1, AllRw.app h.2 h'⟩
  | [], _, _ :: _, _, h, _ => h.elim
  | _ :: _, _, [], _, h, _ => h.elim
section
variable {P : Program} {w : World} {K : PySem.W.Frag} {mg : Str → Option Value} {base : Heap} {C fi : Addr} {fdi : FuncData}
/-- a method that gives rows anew -/
def spGiv (C : Addr) (f : List Rw → List Rw → List Rw) : Sp := fun vs H Q _ => ∃ (v : V) (g k : List Rw) (a : A3), vs = [v] ∧ StartAt C H v g k a ∧ ∀ (H' : Hp) (p : Addr) (us : List V), Ex H H' → H p = none → H' p = some (.lst us) → AllRw H' us (f g k) → Q (.ref p) H'
theorem ok_goal (S : ClsS K C) (T : Txt0 mg) (F : Fun K "goal" "Start.goal" s_Start_goal fi fdi) : FnG P w K mg base 1 fi fdi ["self"] (spGiv C fun g _ => g) := by
  refine fn_mkQ F sc_Start_goal (fun vs H Q E h => ?_) (fun cdv A outer s H vs Q E hr hG h => ?_)
  · obtain ⟨v, g, k, a, rfl, _⟩ := h
    rfl
  · obtain ⟨_, g, k, a, rfl, ⟨y, d, p, q0, ug, ub, va, rfl, h2, h3, h4, h5, h6, h7⟩, q⟩ := h
    refine ⟨_, (pss_one (ps_ret (pe_callTy call_list_of (by rfl) T.list (by decide +kernel) (pa_cons (pe_fld (pv 0) (by rfl)) pa_nil)))), ?_⟩
    refine ⟨_, rfl, y, C, d, _, _, rfl, h2, S.cl, S.n1, by rfl, p, ug, rfl, .inl (sq_of h3), fun l nl => ?_⟩
    exact q _ l ug (Ex.new nl) nl upd_same (h4.tex (TEx.of (Ex.new nl)))
theorem ok_book (S : ClsS K C) (T : Txt0 mg) (F : Fun K "book" "Start.book" s_Start_book fi fdi) : FnG P w K mg base 1 fi fdi ["self"] (spGiv C fun _ k => k) := by
  refine fn_mkQ F sc_Start_book (fun vs H Q E h => ?_) (fun cdv A outer s H vs Q E hr hG h => ?_)
  · obtain ⟨v, g, k, a, rfl, _⟩ := h
    rfl
  · obtain ⟨_, g, k, a, rfl, ⟨y, d, p, q0, ug, ub, va, rfl, h2, h3, h4, h5, h6, h7⟩, q⟩ := h
    refine ⟨_, (pss_one (ps_ret (pe_callTy call_list_of (by rfl) T.list (by decide +kernel) (pa_cons (pe_fld (pv 0) (by rfl)) pa_nil)))), ?_⟩
    refine ⟨_, rfl, y, C, d, _, _, rfl, h2, S.cl, S.n2, by rfl, q0, ub, rfl, .inl (sq_of h5), fun l nl => ?_⟩
    exact q _ l ub (Ex.new nl) nl upd_same (h6.tex (TEx.of (Ex.new nl)))
/-- the rows of a home -/
def homeR (h : Bool) (g k : List Rw) : List Rw := if h = true then g else k
def homeS (h : Bool) : Str := if h = true then "goal" else "book"
def spRowsH (C : Addr) : Sp := fun vs H Q _ => ∃ (v : V) (h : Bool) (g k : List Rw) (a : A3), vs = [v, .str (homeS h)] ∧ StartAt C H v g k a ∧ ∀ (H' : Hp) (p : Addr) (us : List V), Ex H H' → H p = none → H' p = some (.lst us) → AllRw H' us (homeR h g k) → Q (.ref p) H'
theorem ok_rowsH (S : ClsS K C) (T : Txt0 mg) (F : Fun K "rows" "Start.rows" s_Start_rows fi fdi) : FnG P w K mg base 1 fi fdi ["self", "home"] (spRowsH C) := by
  refine fn_mkQ F sc_Start_rows (fun vs H Q E h => ?_) (fun cdv A outer s H vs Q E hr hG h => ?_)
  · obtain ⟨v, h, g, k, a, rfl, _⟩ := h
    rfl
  · obtain ⟨_, h, g, k, a, rfl, ⟨y, d, p, q0, ug, ub, va, rfl, h2, h3, h4, h5, h6, h7⟩, q⟩ := h
    refine ⟨_, (pss_cons (ps_if (pt_cmpR (opEq hr) (pv 1) pe_str (nomark _)) (pss_one (ps_ret (pe_callTy call_list_of (by rfl) T.list (by decide +kernel) (pa_cons (pe_fld (pv 0) (by rfl)) pa_nil)))) pss_nil)
      (pss_one (ps_ret (pe_callTy call_list_of (by rfl) T.list (by decide +kernel) (pa_cons (pe_fld (pv 0) (by rfl)) pa_nil))))), ?_⟩
    refine ⟨_, rfl, .inl ⟨rfl, _, rfl, ?_⟩⟩
    cases h with
    | true =>
      rw [show decide (V.str (homeS true) = V.str "goal") = true from by decide +kernel]
      refine iteT ?_
      refine ⟨_, rfl, y, C, d, _, _, rfl, h2, S.cl, S.n1, by rfl, p, ug, rfl, .inl (sq_of h3), fun l nl => ?_⟩
      exact q _ l ug (Ex.new nl) nl upd_same (h4.tex (TEx.of (Ex.new nl)))
    | false =>
      rw [show decide (V.str (homeS false) = V.str "goal") = false from by decide +kernel]
      refine iteF ?_
      refine ⟨_, rfl, y, C, d, _, _, rfl, h2, S.cl, S.n2, by rfl, q0, ub, rfl, .inl (sq_of h5), fun l nl => ?_⟩
      exact q _ l ub (Ex.new nl) nl upd_same (h6.tex (TEx.of (Ex.new nl)))
def spLen (C : Addr) : Sp := fun vs H Q _ => ∃ (v : V) (g k : List Rw) (a : A3), vs = [v] ∧ StartAt C H v g k a ∧ SOk g k a ∧ ∀ H', Ex H H' → Q (.int ((g ++ k).length : Nat)) H'
theorem ok_len (S : ClsS K C) (T : Txt0 mg) (F : Fun K "__len__" "Start.__len__" s_Start___len__ fi fdi) : FnG P w K mg base 1 fi fdi ["self"] (spLen C) := by
  refine fn_mkQ F sc_Start___len__ (fun vs H Q E h => ?_) (fun cdv A outer s H vs Q E hr hG h => ?_)
  · obtain ⟨v, g, k, a, rfl, _⟩ := h
    rfl
  · obtain ⟨_, g, k, a, rfl, ⟨y, d, p, q0, ug, ub, va, rfl, h2, h3, h4, h5, h6, h7⟩, ok, q⟩ := h
    have l1 := h4.len
    have l2 := h6.len
    have b1 := ok.g100
    have b2 := ok.b100
    refine ⟨_, (pss_one (ps_ret (pe_callB callLen (by rfl) T.len PySem.boot_len (pa_cons (pe_op opAdd (pe_fld (pv 0) (by rfl)) (pe_fld (pv 0) (by rfl))) pa_nil)))), ?_⟩
    refine ⟨_, rfl, y, C, d, _, _, rfl, h2, S.cl, S.n1, by rfl, _, rfl, y, C, d, _, _, rfl, h2, S.cl, S.n2, by rfl, .inr (.inr (.inl ⟨p, q0, _, _, rfl, rfl, h3, h5, Nat.le_trans (show ug.length + ub.length ≤ 200 by omega) (by decide), fun l nl => ?_⟩))⟩
    have z := q _ (Ex.new (o := .lst (ug ++ ub)) nl)
    refine .inl ⟨l, _, rfl, .inl (sq_of upd_same), ?_⟩
    have e : (g ++ k).length = (ug ++ ub).length := by rw [List.length_append, List.length_append, l1, l2]
    rw [e] at z
    exact z
/-- the different texts of a list that a start gives -/
def spSrt (C : Addr) (f : List Rw → List Rw → A3 → List Str) : Sp := fun vs H Q _ => ∃ (v : V) (g k : List Rw) (a : A3), vs = [v] ∧ StartAt C H v g k a ∧ SOk g k a ∧ ∀ (H' : Hp) (p : Addr) (ys : List Str), Ex H H' → H p = none → H' p = some (.lst (ys.map V.str)) → Srt (f g k a) ys → ys.length ≤ 1000 → Q (.ref p) H'
def namesOf (g k : List Rw) (_ : A3) : List Str := (g ++ k).map (·.1)
theorem ok_namesS (S : ClsS K C) (T : Txt0 mg) (TZ : TxtZ mg) (F : Fun K "names" "Start.names" s_Start_names fi fdi) : FnG P w K mg base 1 fi fdi ["self"] (spSrt C namesOf) := by
  refine fn_mkQ F sc_Start_names (fun vs H Q E h => ?_) (fun cdv A outer s H vs Q E hr hG h => ?_)
  · obtain ⟨v, g, k, a, rfl, _⟩ := h
    rfl
  · obtain ⟨_, g, k, a, rfl, ⟨y, d, p, q0, ug, ub, va, rfl, h2, h3, h4, h5, h6, h7⟩, ok, q⟩ := h
    have l1 := h4.len
    have l2 := h6.len
    have b1 := ok.g100
    have b2 := ok.b100
    refine ⟨_, (pss_one (ps_ret (pe_callB (cr_sortX rfl) (by rfl) TZ.sorted (by decide +kernel) (pa_cons (pe_callTy (cr_setX rfl) (by rfl) TZ.set (by decide +kernel) (pa_cons (pe_lcO (pe_lc (own := [("name", 1), ("fact", 2)]) rfl sc_Start_names.nd (piAny (pe_op opAdd (pe_fld (pv 0) (by rfl)) (pe_fld (pv 0) (by rfl)))) (blkOk_by (own := [("name", 1), ("fact", 2)]) (N := ["self", "name", "fact"]) (sc := defScope s_Start_names) (by first | decide +kernel | kernel_rfl)) (fun _ _ _ _ _ => pg_tupB (n := 2) rfl (pgs_cons (pg_name (i := 1) sc_Start_names.nd rfl (Or.inl rfl) (hf := .inr rfl)) (pgs_cons (pg_name (i := 2) sc_Start_names.nd rfl (Or.inl rfl) (hf := .inr rfl)) pgs_nil))) (fun _ _ _ _ _ => pts_nil) (fun _ _ _ _ _ => pv 1))) pa_nil)) pa_nil)))), ?_⟩
    refine .inl ⟨_, rfl, y, C, d, _, _, rfl, h2, S.cl, S.n1, by rfl, _, rfl, y, C, d, _, _, rfl, h2, S.cl, S.n2, by rfl, .inr (.inr (.inl ⟨p, q0, _, _, rfl, rfl, h3, h5, Nat.le_trans (show ug.length + ub.length ≤ 200 by omega) (by decide), fun l nl => ?_⟩))⟩
    generalize hq1 : upd H l _ = H1
    obtain ⟨e1, h1⟩ := gen1 hq1 nl
    have hA : AllRw H1 (ug ++ ub) (g ++ k) := (h4.app h6).tex (TEx.of e1)
    refine ⟨l, rfl, ⟨_, sq_of h1⟩, ?_⟩
    refine lcG (walk_list (xs := ug ++ ub)) (by rw [List.length_append]; omega) (sq_of h1) (fun _ _ e h => ex_l e h) yAt_ex (fun i ys _ => ys = (((g ++ k).take i).map (·.1)).map V.str) (fun _ _ _ _ _ h => h) rfl ?_ ?_
    · rintro i x H2 H3 ys hi e2 ⟨rfl, hx⟩ rfl N N0 kN kN0
      obtain ⟨r, hr1, t, vf, rfl, ht, hf⟩ := (hA.tex (TEx.of e2)).at hx
      refine ⟨t, _, rfl, st_of ht, rfl, _, _, rfl, _, _, rfl, rfl, rfl, ?_⟩
      refine ⟨_, rfl, kN _ _ (Ex.refl _) ?_⟩
      rw [List.take_add_one, hr1, List.map_append, List.map_append]
      rfl
    · rintro D H2 ys hD e2 h2' hl2 rfl
      have lA := hA.len
      have lN : (((g ++ k).take (ug ++ ub).length).map (·.1)) = namesOf g k a := by
        rw [lA, List.take_length]
        rfl
      rw [lN] at h2' hl2
      have lz : (namesOf g k a).length ≤ 200 := by
        rw [List.length_map, List.length_append] at hl2
        omega
      refine ⟨D, namesOf g k a, rfl, sq_of h2', by omega, fun sa sl c1 c2 nsa => ?_⟩
      generalize hq3 : upd H2 sa _ = H3
      obtain ⟨e3, h3'⟩ := gen1 hq3 nsa
      refine ⟨sa, sl, rfl, h3', by omega, fun pp ys so yl npp => ?_⟩
      have n0 : H pp = none := none_of ((e1.trans e2).trans e3) npp
      exact q _ pp ys (((e1.trans e2).trans e3).trans (Ex.new npp)) n0 upd_same ⟨so.so, so.nd, fun z => (so.me z).trans (c2 z)⟩ (by omega)
end
end Own

namespace Own
open PySem PySem.Spec PyProof.Rows L2 Evl
abbrev s_Start_things : Stmt := inClass (top 21) 14
theorem sc_Start_things : FnScope ["self", "facts", "name", "fact", "atoms", "atom", "thing"] ["self"] (defScope s_Start_things) := ⟨rfl, rfl, rfl, by decide +kernel, rfl, by decide +kernel, by decide +kernel⟩
/-- things that are so, one by one -/
inductive AllG {α : Type} (R : V → α → Prop) : List V → List α → Prop
  | nil : AllG R [] []
  | cons {v : V} {a : α} {vs : List V} {as : List α} : R v a → AllG R vs as → AllG R (v :: vs) (a :: as)
theorem AllG.mono {α : Type} {R R' : V → α → Prop} (h : ∀ v a, R v a → R' v a) : ∀ {vs : List V} {as : List α}, AllG R vs as → AllG R' vs as
  | _, _, .nil => .nil
  | _, _, .cons a b => .cons (h _ _ a) (AllG.mono h b)
theorem AllG.len {α : Type} {R : V → α → Prop} : ∀ {vs : List V} {as : List α}, AllG R vs as → vs.length = as.length
  | _, _, .nil => rfl
  | _, _, .cons _ b => by rw [List.length_cons, List.length_cons, AllG.len b]
theorem AllG.at {α : Type} {R : V → α → Prop} : ∀ {vs : List V} {as : List α} {i : Nat} {v : V}, AllG R vs as → vs[i]? = some v → ∃ a, as[i]? = some a ∧ R v a
  | _, _, _, _, .nil, e => by cases e
  | _, _, 0, _, .cons a _, e => by cases e; exact ⟨_, rfl, a⟩
  | _, _, i + 1, _, .cons _ b, e => AllG.at (i := i) b e
theorem AllG.app {α : Type} {R : V → α → Prop} {us : List V} {bs : List α} (h' : AllG R us bs) : ∀ {vs : List V} {as : List α}, AllG R vs as → AllG R (vs ++ us) (as ++ bs)
  | _, _, .nil => h'
  | _, _, .cons a b => .cons a (AllG.app h' b)
theorem AllG.snoc {α : Type} {R : V → α → Prop} {v : V} {a : α} (h : R v a) {vs : List V} {as : List α} (h' : AllG R vs as) : AllG R (vs ++ [v]) (as ++ [a]) := AllG.app (.cons h .nil) h'
theorem FactAt.tx {H H' : Hp} {v : V} {as : List A3} (e : TEx H H') (h : FactAt H v as) : FactAt H' v as := by
  obtain ⟨p, xs, h1, h2, h3⟩ := h
  exact ⟨p, xs, h1, e _ _ h2, h3.tex e⟩
theorem AllAt.app {H : Hp} : ∀ {vs us : List V} {as bs : List A3}, AllAt H vs as → AllAt H us bs → AllAt H (vs ++ us) (as ++ bs)
  | [], _, [], _, _, h => h
  | _ :: _, _, _ :: _, _, h, h' => ⟨h.1, AllAt.app h.2 h'⟩
  | [], _, _ :: _, _, h, _ => h.elim
  | _ :: _, _, [], _, h, _ => h.elim
def abcOf (as : List A3) : List Str := as.flatMap fun a => [a.2.1, a.2.2]
def fcs (g k : List Rw) : List (List A3) := (g ++ k).map Prod.snd
theorem fcs_at {g k : List Rw} {i : Nat} {r : Rw} (h : (g ++ k)[i]? = some r) : (fcs g k)[i]? = some r.2 := by
  unfold fcs
  rw [List.getElem?_map, h]
  rfl
theorem fcs_len (g k : List Rw) : (fcs g k).length = (g ++ k).length := List.length_map ..
def thsOf (g k : List Rw) (a : A3) : List Str := abcOf ((fcs g k).flatten ++ [a])
theorem abc_len : ∀ as : List A3, (abcOf as).length = 2 * as.length
  | [] => rfl
  | a :: as => by
    show (([a.2.1, a.2.2] ++ abcOf as).length) = _
    rw [List.length_append, abc_len as]
    show 2 + _ = 2 * (as.length + 1)
    omega
theorem abc_tk {as : List A3} {i : Nat} {a : A3} (h : as[i]? = some a) : abcOf (as.take (i + 1)) = abcOf (as.take i) ++ [a.2.1, a.2.2] := by
  rw [tk h]
  unfold abcOf
  rw [List.flatMap_append]
  rfl
theorem fl_tk {fs : List (List A3)} {i : Nat} {f : List A3} (h : fs[i]? = some f) : (fs.take (i + 1)).flatten = (fs.take i).flatten ++ f := by
  rw [tk h, List.flatten_append]
  show _ ++ (f ++ []) = _
  rw [List.append_nil]
theorem fl_len {n : Nat} : ∀ {fs : List (List A3)}, (∀ f ∈ fs, f.length ≤ n) → fs.flatten.length ≤ n * fs.length
  | [], _ => Nat.zero_le _
  | f :: fs, h => by
    have q1 := h f List.mem_cons_self
    have q2 := fl_len (n := n) (fs := fs) fun x hx => h x (List.mem_cons_of_mem _ hx)
    rw [List.flatten_cons, List.length_append, List.length_cons, Nat.mul_add]
    omega
section
variable {P : Program} {w : World} {K : PySem.W.Frag} {mg : Str → Option Value} {base : Heap} {C fi : Addr} {fdi : FuncData}
theorem ok_thingsS (S : ClsS K C) (T : Txt0 mg) (TZ : TxtZ mg) (F : Fun K "things" "Start.things" s_Start_things fi fdi) : FnG P w K mg base 1 fi fdi ["self"] (spSrt C thsOf) := by
  refine fn_mkQ F sc_Start_things (fun vs H Q E h => ?_) (fun cdv A outer s H vs Q E hr hG h => ?_)
  · obtain ⟨v, g, k, a, rfl, _⟩ := h
    rfl
  · obtain ⟨_, g, k, a, rfl, ⟨y, d, p, q0, ug, ub, va, rfl, h2, h3, h4, h5, h6, h7⟩, ok, q⟩ := h
    have l1 := h4.len
    have l2 := h6.len
    have b1 := ok.g100
    have b2 := ok.b100
    refine ⟨_, (pss_cons (ps_setLcO (ps_setLc (i := 1) (own := [("name", 2), ("fact", 3)]) rfl sc_Start_things.nd rfl rfl (sw_true rfl rfl rfl (by decide +kernel)) (piAny (pe_op opAdd (pe_fld (pv 0) (by rfl)) (pe_fld (pv 0) (by rfl)))) (blkOk_by (own := [("name", 2), ("fact", 3)]) (N := ["self", "facts", "name", "fact", "atoms", "atom", "thing"]) (sc := defScope s_Start_things) (by first | decide +kernel | kernel_rfl)) (fun _ _ _ _ _ => pg_tupB (n := 2) rfl (pgs_cons (pg_name (i := 2) sc_Start_things.nd rfl (Or.inl rfl) (hf := .inr rfl)) (pgs_cons (pg_name (i := 3) sc_Start_things.nd rfl (Or.inl rfl) (hf := .inr rfl)) pgs_nil))) (fun _ _ _ _ _ => pts_nil) (fun _ _ _ _ _ => pv 3)))
      (pss_cons (ps_set (i := 4) sc_Start_things.nd rfl (Or.inl rfl) (pe_op opAdd (pe_lc2O (pe_lc2 (own := [("fact", 3), ("atom", 5)]) (vs1 := [5]) rfl sc_Start_things.nd (piAny (pv 1)) (blkOk_by (own := [("fact", 3), ("atom", 5)]) (N := ["self", "facts", "name", "fact", "atoms", "atom", "thing"]) (sc := defScope s_Start_things) (by first | decide +kernel | kernel_rfl)) (by decide) (fun _ _ _ _ _ => pg_name (i := 3) sc_Start_things.nd rfl (Or.inl rfl)) (fun _ _ _ _ _ => pts_nil) (fun _ _ _ _ _ => (piAnyB (pv 3))) (fun _ _ _ _ _ => pg_name (i := 5) sc_Start_things.nd rfl (Or.inl rfl)) (fun _ _ _ _ _ => pts_nil) (fun _ _ _ _ _ => pv 5))) (pe_lst (pa_cons (pe_fld (pv 0) (by rfl)) pa_nil))))
      (pss_one (ps_ret (pe_callB (cr_sortX rfl) (by rfl) TZ.sorted (by decide +kernel) (pa_cons (pe_callTy (cr_setX rfl) (by rfl) TZ.set (by decide +kernel) (pa_cons (pe_lc2O (pe_lc2 (own := [("atom", 5), ("thing", 6)]) (vs1 := [6]) rfl sc_Start_things.nd (piAny (pv 4)) (blkOk_by (own := [("atom", 5), ("thing", 6)]) (N := ["self", "facts", "name", "fact", "atoms", "atom", "thing"]) (sc := defScope s_Start_things) (by first | decide +kernel | kernel_rfl)) (by decide) (fun _ _ _ _ _ => pg_name (i := 5) sc_Start_things.nd rfl (Or.inl rfl)) (fun _ _ _ _ _ => pts_nil) (fun _ _ _ _ _ => (piAnyB (pe_slice slAnyB (pv 5) (po_some pe_int) po_none))) (fun _ _ _ _ _ => pg_name (i := 6) sc_Start_things.nd rfl (Or.inl rfl)) (fun _ _ _ _ _ => pts_nil) (fun _ _ _ _ _ => pv 6))) pa_nil)) pa_nil)))))), ?_⟩
    refine .inl ⟨_, rfl, y, C, d, _, _, rfl, h2, S.cl, S.n1, by rfl, _, rfl, y, C, d, _, _, rfl, h2, S.cl, S.n2, by rfl, .inr (.inr (.inl ⟨p, q0, _, _, rfl, rfl, h3, h5, Nat.le_trans (show ug.length + ub.length ≤ 200 by omega) (by decide), fun l nl => ?_⟩))⟩
    generalize hq1 : upd H l _ = H1
    obtain ⟨e1, h1⟩ := gen1 hq1 nl
    have hA : AllRw H1 (ug ++ ub) (g ++ k) := (h4.app h6).tex (TEx.of e1)
    have gF : ∀ f ∈ fcs g k, f.length ≤ 2 := fun f hf => by
      obtain ⟨r, hr', rfl⟩ := List.mem_map.mp hf
      rcases List.mem_append.mp hr' with h | h
      · exact (ok.gn r h).2.2.1
      · exact (ok.bn r h).2.2.1
    refine ⟨l, rfl, ⟨_, sq_of h1⟩, ?_⟩
    refine lcG (walk_list (xs := ug ++ ub)) (by rw [List.length_append]; omega) (sq_of h1) (fun _ _ e h => ex_l e h) yAt_ex (fun i ys H' => AllG (FactAt H') ys ((fcs g k).take i)) (fun _ _ _ _ t h => h.mono fun _ _ z => z.tx t) .nil ?_ ?_
    · rintro i x H2 H3 ys hi e2 ⟨rfl, hx⟩ hy N N0 kN kN0
      obtain ⟨r, hr1, t, vf, rfl, ht, hf⟩ := (hA.tex (TEx.of e2)).at hx
      refine ⟨t, _, rfl, st_of ht, rfl, _, _, rfl, _, _, rfl, rfl, rfl, ?_⟩
      refine ⟨_, rfl, kN _ _ (Ex.refl _) ?_⟩
      rw [tk (x := r.2) (fcs_at hr1)]
      exact .snoc hf hy
    · rintro D H2 us hD e2 hD2 hl2 hy
      have lA := hA.len
      have lF : (fcs g k).take (ug ++ ub).length = fcs g k := by
        rw [lA]
        exact List.take_of_length_le (by rw [fcs_len]; exact Nat.le_refl _)
      rw [lF] at hy
      have lu := hy.len
      have lg : (fcs g k).length ≤ 200 := by rw [fcs_len, List.length_append]; omega
      have lfl := fl_len gF
      have e12 := e1.trans e2
      refine .inl ⟨_, rfl, D, rfl, ⟨_, sq_of hD2⟩, ?_⟩
      refine lc2G (walk_list (xs := us)) (sq_of hD2) (fun _ _ e h => ex_l e h) yAt_ex (fun i ys H' => AllAt H' ys ((fcs g k).take i).flatten) (fun _ _ _ _ t h => h.tex t) trivial ?_ ?_
      · rintro i x H3 H4 ys hi e3 ⟨rfl, hx⟩ hy2 L Nx hL hd kN
        obtain ⟨f, hf1, pf, xs, rfl, hpf, hat⟩ := (hy.mono fun _ _ z => z.tx (TEx.of e3)).at hx
        have hlx := hat.len
        refine ⟨rfl, ?_⟩
        refine .inr (.inl ⟨_, rfl, pf, rfl, ⟨_, st_of hpf⟩, ?_⟩)
        refine inG (walk_tup (xs := xs)) hL e3 hd (fun H _ t => st_of (t _ _ hpf)) yAt_ex (fun j zs H' => AllAt H' zs (((fcs g k).take i).flatten ++ f.take j)) (fun _ _ _ _ t h => h.tex t) (fun j zs _ h => ?_) (by rw [List.take_zero, List.append_nil]; exact hy2) ?_ ?_
        · have z := h.len
          rw [List.length_append, List.length_take] at z
          have z2 : (((fcs g k).take i).flatten).length ≤ 2 * ((fcs g k).take i).length := fl_len fun x hx => gF x (List.mem_of_mem_take hx)
          rw [List.length_take] at z2
          have z3 := gF f (List.mem_of_getElem? hf1)
          omega
        · rintro j v H5 H6 zs hj e5 t5 ⟨rfl, hv⟩ hz N N1 kN1 _
          obtain ⟨a1, ha1, hat'⟩ := (hat.tex t5).at hv
          refine ⟨rfl, ?_⟩
          refine ⟨_, rfl, kN1 _ _ (Ex.refl _) ?_⟩
          rw [tk ha1, ← List.append_assoc]
          exact hz.snoc hat'
        · rintro zs H5 e5 _ d5 hz
          rw [hlx, List.take_length, ← fl_tk hf1] at hz
          exact kN _ _ e5 d5 hz
      · rintro L1 H3 as' hL1 e3 h3' hy3
        rw [lu, List.take_length] at hy3
        have la3 := hy3.len
        have e13 := e12.trans e3
        refine ⟨_, rfl, y, C, d, _, _, rfl, e13 _ _ h2, S.cl, S.n3, by rfl, ?_⟩
        refine ⟨by show 1 ≤ sizeLine; decide, fun l4 n4 => ?_⟩
        generalize hq4 : upd H3 l4 _ = H4
        obtain ⟨e4, h4'⟩ := gen1 hq4 n4
        refine .inr (.inr (.inl ⟨L1, l4, _, _, rfl, rfl, e4 _ _ h3', h4', Nat.le_trans (show as'.length + 1 ≤ 1000 by omega) (by decide), fun l5 n5 => ?_⟩))
        generalize hq5 : upd H4 l5 _ = H5
        obtain ⟨e5, h5'⟩ := gen1 hq5 n5
        have e15 := (e13.trans e4).trans e5
        have hat5 : AllAt H5 (as' ++ [va]) ((fcs g k).flatten ++ [a]) := (hy3.tex (TEx.of (e4.trans e5))).snoc (h7.ex e15)
        have lat := hat5.len
        have lat2 : ((fcs g k).flatten ++ [a]).length ≤ 401 := by
          rw [List.length_append]
          show _ + 1 ≤ 401
          omega
        refine .inl ⟨_, rfl, l5, rfl, ⟨_, sq_of h5'⟩, ?_⟩
        refine lc2G (walk_list (xs := as' ++ [va])) (sq_of h5') (fun _ _ e h => ex_l e h) yAt_ex (fun i ys _ => ys = (abcOf (((fcs g k).flatten ++ [a]).take i)).map V.str) (fun _ _ _ _ _ h => h) rfl ?_ ?_
        · rintro i x H6 H7 ys hi e6 ⟨rfl, hx⟩ rfl L Nx hL hd kN
          obtain ⟨b, hb1, pb, rfl, hpb⟩ := (hat5.tex (TEx.of e6)).at hx
          refine ⟨rfl, ?_⟩
          refine .inr (.inl ⟨_, rfl, 1, rfl, ?_⟩)
          refine sl_fromG (j := 1) hpb fun t H8 e8 ht => ?_
          refine ⟨t, rfl, ⟨_, st_of ht⟩, ?_⟩
          refine inG (walk_tup (xs := ((sl3 b).map V.str).drop 1)) hL (e6.trans e8) (e8 _ _ hd) (fun H _ t => st_of (t _ _ ht)) yAt_ex (fun j zs _ => zs = (abcOf (((fcs g k).flatten ++ [a]).take i) ++ [b.2.1, b.2.2].take j).map V.str) (fun _ _ _ _ _ h => h) (fun j zs _ h => ?_) (by rw [List.take_zero, List.append_nil]) ?_ ?_
          · rw [h, List.length_map, List.length_append, abc_len, List.length_take, List.length_take]
            show 2 * _ + min j 2 ≤ _
            omega
          · rintro j v H9 H10 zs hj e9 t9 ⟨rfl, hv⟩ rfl N N1 kN1 _
            refine ⟨rfl, ?_⟩
            refine ⟨_, rfl, kN1 _ _ (Ex.refl _) ?_⟩
            have hv2 : ([b.2.1, b.2.2].map V.str)[j]? = some v := hv
            obtain ⟨z, hz, rfl⟩ := str_at hv2
            rw [tk hz, ← List.append_assoc, List.map_append (l₂ := [z])]
            rfl
          · rintro zs H9 e9 _ d9 rfl
            refine kN _ _ e9 d9 ?_
            rw [abc_tk hb1]
            rfl
        · rintro L6 H6 ys hL6 e6 h6' rfl
          rw [lat, List.take_length] at h6'
          have la : (abcOf ((fcs g k).flatten ++ [a])).length ≤ 802 := by rw [abc_len]; omega
          refine ⟨L6, _, rfl, sq_of h6', by omega, fun sa sl c1 c2 nsa => ?_⟩
          generalize hq7 : upd H6 sa _ = H7
          obtain ⟨e7, h7'⟩ := gen1 hq7 nsa
          refine ⟨sa, sl, rfl, h7', by omega, fun pp ys so yl npp => ?_⟩
          have e17 := (e15.trans e6).trans e7
          have n0 : H pp = none := none_of e17 npp
          exact q _ pp ys (e17.trans (Ex.new npp)) n0 upd_same ⟨so.so, so.nd, fun z => (so.me z).trans (c2 z)⟩ (by omega)
end
end Own

namespace Own
open PySem PySem.Spec PyProof.Rows L2 Evl
abbrev s_marked_row : Stmt := top 18
theorem sc_marked_row : FnScope ["home", "number", "row", "name", "fact", "roots", "place"] ["home", "number", "row"] (defScope s_marked_row) := ⟨rfl, rfl, rfl, by decide +kernel, rfl, by decide +kernel, by decide +kernel⟩
abbrev s_marked : Stmt := top 17
theorem sc_marked : FnScope ["home", "rows", "number", "row"] ["home", "rows"] (defScope s_marked) := ⟨rfl, rfl, rfl, by decide +kernel, rfl, by decide +kernel, by decide +kernel⟩
abbrev s_Start_owners : Stmt := inClass (top 21) 15
theorem sc_Start_owners : FnScope ["self", "home", "name", "fact", "owners", "roots"] ["self", "home"] (defScope s_Start_owners) := ⟨rfl, rfl, rfl, by decide +kernel, rfl, by decide +kernel, by decide +kernel⟩
/-- an owner; the owners of a row; a marked row -/
def Ow1 (H : Hp) (h : Str) (n : Nat) (v : V) (j : Nat) : Prop := ∃ t, v = .ref t ∧ H t = some (.tup [.str h, .int n, .int j])
def OwAt (H : Hp) (h : Str) (v : V) (n m : Nat) : Prop := ∃ (q : Addr) (us : List V), v = .ref q ∧ H q = some (.tup us) ∧ AllG (Ow1 H h n) us (List.range m)
def MkAt (H : Hp) (h : Str) (v : V) (x : Rw × Nat) : Prop := ∃ (p : Addr) (vf vo : V), v = .ref p ∧ H p = some (.tup [.str x.1.1, vf, vo, vo]) ∧ FactAt H vf x.1.2 ∧ OwAt H h vo x.2 x.1.2.length
theorem Ow1.tx {H H' : Hp} {h : Str} {n : Nat} {v : V} {j : Nat} (e : TEx H H') (z : Ow1 H h n v j) : Ow1 H' h n v j := by
  obtain ⟨t, h1, h2⟩ := z
  exact ⟨t, h1, e _ _ h2⟩
theorem OwAt.tx {H H' : Hp} {h : Str} {v : V} {n m : Nat} (e : TEx H H') (z : OwAt H h v n m) : OwAt H' h v n m := by
  obtain ⟨q, us, h1, h2, h3⟩ := z
  exact ⟨q, us, h1, e _ _ h2, h3.mono fun _ _ z => z.tx e⟩
theorem MkAt.tx {H H' : Hp} {h : Str} {v : V} {x : Rw × Nat} (e : TEx H H') (z : MkAt H h v x) : MkAt H' h v x := by
  obtain ⟨p, vf, vo, h1, h2, h3, h4⟩ := z
  exact ⟨p, vf, vo, h1, e _ _ h2, h3.tx e, h4.tx e⟩
def owD (h : Str) (n m : Nat) : PyData := .tuple ((List.range m).map fun j : Nat => PyData.tuple [.str h, .int (n : Int), .int (j : Int)])
theorem AllG.da {α : Type} {R : V → α → Prop} {f : α → PyData} {H : Hp} (h : ∀ v a, R v a → Da H v (f a)) : ∀ {vs : List V} {as : List α}, AllG R vs as → DaAll H vs (as.map f)
  | _, _, .nil => .nil
  | _, _, .cons a b => .cons (h _ _ a) (AllG.da h b)
theorem OwAt.da {H : Hp} {h : Str} {v : V} {n m : Nat} (z : OwAt H h v n m) : Da H v (owD h n m) := by
  obtain ⟨q, us, rfl, h2, h3⟩ := z
  refine .tup h2 (h3.da fun v j z => ?_)
  obtain ⟨t, rfl, h4⟩ := z
  exact .tup h4 (.cons (.str _) (.cons (.int _) (.cons (.int _) .nil)))
section
variable {P : Program} {w : World} {K : PySem.W.Frag} {mg : Str → Option Value} {base : Heap} {C fi : Addr} {fdi : FuncData}
def spMkRow : Sp := fun vs H Q _ => ∃ (h : Str) (n : Nat) (v : V) (r : Rw), vs = [.str h, .int n, v] ∧ RowAt H v r ∧ r.2.length ≤ 2 ∧ ∀ (H' : Hp) (u : V), Ex H H' → MkAt H' h u (r, n) → Q u H'
theorem ok_marked_row (T : Txt0 mg) (D : Df K mg "marked_row" s_marked_row) : CalG P w K mg base 1 "marked_row" spMkRow := by
  refine cal_mk D sc_marked_row (fun _ _ _ _ _ _ us hl => match us, hl with | [_, _, _], _ => rfl) (fun vs H Q E h => ?_) (fun f cdv A outer s H vs Q E hr hG h => ?_)
  · obtain ⟨h, n, v, r, rfl, _⟩ := h
    rfl
  · obtain ⟨h, n, v, r, rfl, ⟨t, vf, rfl, ht, pf, xs, rfl, hpf, hat⟩, hl, q⟩ := h
    refine ⟨_, (pss_cons (ps_asg (pv 2) (pg_tup rfl (pgs_cons (pg_name (i := 3) sc_marked_row.nd rfl (Or.inl rfl)) (pgs_cons (pg_name (i := 4) sc_marked_row.nd rfl (Or.inl rfl)) pgs_nil))))
      (pss_cons (ps_set (i := 5) sc_marked_row.nd rfl (Or.inl rfl) (pe_callTy call_tuple_of (by rfl) T.tuple (by decide +kernel) (pa_cons (pe_lcO (pe_lc (own := [("place", 6)]) rfl sc_marked_row.nd (pi_range1 rfl T.range (pa_cons (pe_callB callLen (by rfl) T.len PySem.boot_len (pa_cons (pv 4) pa_nil)) pa_nil)) (blkOk_by (own := [("place", 6)]) (N := ["home", "number", "row", "name", "fact", "roots", "place"]) (sc := defScope s_marked_row) (by first | decide +kernel | kernel_rfl)) (fun _ _ _ _ _ => pg_name (i := 6) sc_marked_row.nd rfl (Or.inl rfl)) (fun _ _ _ _ _ => pts_nil) (fun _ _ _ _ _ => pe_tup (pa_cons (pv 0) (pa_cons (pv 1) (pa_cons (pv 6) pa_nil)))))) pa_nil)))
      (pss_one (ps_ret (pe_tup (pa_cons (pv 3) (pa_cons (pv 4) (pa_cons (pv 5) (pa_cons (pv 5) pa_nil))))))))), ?_⟩
    have hlx := hat.len
    refine ⟨_, rfl, t, _, rfl, st_of ht, rfl, _, _, rfl, _, _, rfl, rfl, ?_⟩
    refine ⟨_, rfl, .inl ⟨pf, _, rfl, .inr (st_of hpf), ((xs.length : Nat) : Int), rfl, by omega, by omega, ?_⟩⟩
    refine lcG (walk_range (lo := 0) (n := ((xs.length : Nat) : Int).toNat)) (by omega) trivial (fun _ _ _ _ => trivial) yFn_ex (fun i ys H' => AllG (Ow1 H' h n) ys (List.range i)) (fun _ _ _ _ t h => h.mono fun _ _ z => z.tx t) .nil ?_ ?_
    · rintro i x H2 H3 ys hi e2 ⟨rfl, rfl⟩ hy N N0 kN kN0
      refine ⟨rfl, ?_⟩
      refine ⟨_, rfl, _, rfl, _, rfl, by show 3 ≤ sizeLine; decide, fun t4 n4 => ?_⟩
      have e4 := Ex.new (o := .tup [.str h, .int (n : Nat), .int (0 + (i : Int))]) n4
      refine kN _ _ e4 ?_
      rw [List.range_succ]
      refine .snoc ⟨t4, rfl, ?_⟩ (hy.mono fun _ _ z => z.tx (TEx.of e4))
      rw [upd_same]
      show some (HO.tup [.str h, .int (n : Int), .int (0 + (i : Int))]) = _
      rw [Int.zero_add]
    · rintro D2 H2 ys hD e2 hD2 hl2 hy
      refine ⟨D2, ys, rfl, .inl ⟨sq_of hD2, fun t5 n5 => ?_⟩⟩
      generalize hq5 : upd H2 t5 _ = H5
      obtain ⟨e5, h5⟩ := gen1 hq5 n5
      have e25 := e2.trans e5
      refine ⟨_, rfl, _, rfl, _, rfl, _, rfl, by show 4 ≤ sizeLine; decide, fun t6 n6 => ?_⟩
      generalize hq6 : upd H5 t6 _ = H6
      obtain ⟨e6, h6⟩ := gen1 hq6 n6
      refine q _ _ (e25.trans e6) ⟨t6, _, _, rfl, h6, ⟨pf, xs, rfl, (e25.trans e6) _ _ hpf, hat.tex (TEx.of (e25.trans e6))⟩, t5, ys, rfl, e6 _ _ h5, ?_⟩
      have z : ((xs.length : Nat) : Int).toNat = r.2.length := by omega
      rw [z] at hy
      exact hy.mono fun _ _ z => z.tx (TEx.of (e5.trans e6))
def spMarked : Sp := fun vs H Q _ => ∃ (h : Str) (p : Addr) (us : List V) (rs : List Rw), vs = [.str h, .ref p] ∧ H p = some (.lst us) ∧ AllRw H us rs ∧ (∀ r ∈ rs, r.2.length ≤ 2) ∧ rs.length ≤ 100 ∧ ∀ (H' : Hp) (l : Addr) (ys : List V), Ex H H' → H' l = some (.lst ys) → AllG (MkAt H' h) ys rs.zipIdx → Q (.ref l) H'
theorem zip_at {rs : List Rw} {i : Nat} {r : Rw} (h : rs[i]? = some r) : rs.zipIdx[i]? = some (r, i) := by
  rw [List.getElem?_zipIdx, h]
  simp
theorem ok_marked (T : Txt0 mg) (T_enumerate : mg "enumerate" = none) (D : Df K mg "marked" s_marked) (c_marked_row : CalG P w K mg base 1 "marked_row" spMkRow) : CalG P w K mg base 2 "marked" spMarked := by
  refine cal_mk D sc_marked (fun _ _ _ _ _ _ us hl => match us, hl with | [_, _], _ => rfl) (fun vs H Q E h => ?_) (fun f cdv A outer s H vs Q E hr hG h => ?_)
  · obtain ⟨h, p, us, rs, rfl, _⟩ := h
    rfl
  · obtain ⟨h, p, us, rs, rfl, hp, hA, h2, hl, q⟩ := h
    refine ⟨_, (pss_one (ps_ret (pe_lcO (pe_lc (own := [("number", 2), ("row", 3)]) rfl sc_marked.nd (pi_enum (by rfl) T_enumerate (pa_cons (pv 1) pa_nil)) (blkOk_by (own := [("number", 2), ("row", 3)]) (N := ["home", "rows", "number", "row"]) (sc := defScope s_marked) (by first | decide +kernel | kernel_rfl)) (fun _ _ _ _ _ => pg_tupB (n := 2) rfl (pgs_cons (pg_name (i := 2) sc_marked.nd rfl (Or.inl rfl) (hf := .inr rfl)) (pgs_cons (pg_name (i := 3) sc_marked.nd rfl (Or.inl rfl) (hf := .inr rfl)) pgs_nil))) (fun _ _ _ _ _ => pts_nil) (fun _ _ _ _ _ => pe_cG c_marked_row hr hG (by decide) rfl (pa_cons (pv 0) (pa_cons (pv 2) (pa_cons (pv 3) pa_nil)))))))), ?_⟩
    have hul := hA.len
    refine ⟨_, rfl, p, us, rfl, sq_of hp, ?_⟩
    refine lcG (walk_enum (xs := us)) (by omega) (sq_of hp) (fun _ _ e h => ex_l e h) yPair_ex (fun i ys H' => AllG (MkAt H' h) ys (rs.zipIdx.take i)) (fun _ _ _ _ t h => h.mono fun _ _ z => z.tx t) .nil ?_ ?_
    · rintro i x H1 H2 ys hi e ⟨t, u, w', rfl, ht, rfl, hu, hw⟩ hy N N0 kN kN0
      cases hu
      obtain ⟨r, hr1, hr2⟩ := hA.at hw
      refine ⟨t, _, rfl, st_of upd_same, rfl, _, _, rfl, _, _, rfl, rfl, rfl, ?_⟩
      have e2 := e.trans (Ex.new (o := .tup [V.int (i : Nat), w']) ht)
      refine ⟨_, rfl, _, rfl, _, rfl, h, i, w', r, rfl, hr2.tex (TEx.of e2), h2 r (List.mem_of_getElem? hr1), fun H3 u e3 hm => kN _ _ e3 ?_⟩
      rw [tk (zip_at hr1)]
      exact .snoc hm (hy.mono fun _ _ z => z.tx (TEx.of e3))
    · rintro l H1 ys hln e1 h1 _ hy
      rw [hul, List.take_of_length_le (by rw [List.length_zipIdx]; exact Nat.le_refl _)] at hy
      exact q _ l ys e1 h1 hy
/-- the owners of the rows of a home -/
def spOwn (C : Addr) : Sp := fun vs H Q _ => ∃ (v : V) (h : Bool) (g k : List Rw) (a : A3), vs = [v, .str (homeS h)] ∧ StartAt C H v g k a ∧ SOk g k a ∧ ∀ (H' : Hp) (p : Addr) (us : List V), Ex H H' → H p = none → H' p = some (.lst us) → AllG (fun v (x : Rw × Nat) => OwAt H' (homeS h) v x.2 x.1.2.length) us (homeR h g k).zipIdx → Q (.ref p) H'
theorem ok_owners (S : ClsS K C) (T : Txt0 mg) (M_rows : MetG P w K mg base 1 C "rows" (spRowsH C)) (c_marked : CalG P w K mg base 2 "marked" spMarked) (F : Fun K "owners" "Start.owners" s_Start_owners fi fdi) : FnG P w K mg base 3 fi fdi ["self", "home"] (spOwn C) := by
  refine fn_mkQ F sc_Start_owners (fun vs H Q E h => ?_) (fun cdv A outer s H vs Q E hr hG h => ?_)
  · obtain ⟨v, h, g, k, a, rfl, _⟩ := h
    rfl
  · obtain ⟨v, h, g, k, a, rfl, hst, ok, q⟩ := h
    refine ⟨_, (pss_one (ps_ret (pe_lcO (pe_lc (own := [("name", 2), ("fact", 3), ("owners", 4), ("roots", 5)]) rfl sc_Start_owners.nd (piAny (pe_cG c_marked hr hG (by decide) rfl (pa_cons (pv 1) (pa_cons (pe_mtG M_rows (pv 0) hr hG (by decide) (pa_cons (pv 1) pa_nil)) pa_nil)))) (blkOk_by (own := [("name", 2), ("fact", 3), ("owners", 4), ("roots", 5)]) (N := ["self", "home", "name", "fact", "owners", "roots"]) (sc := defScope s_Start_owners) (by first | decide +kernel | kernel_rfl)) (fun _ _ _ _ _ => pg_tupB (n := 4) rfl (pgs_cons (pg_name (i := 2) sc_Start_owners.nd rfl (Or.inl rfl) (hf := .inr rfl)) (pgs_cons (pg_name (i := 3) sc_Start_owners.nd rfl (Or.inl rfl) (hf := .inr rfl)) (pgs_cons (pg_name (i := 4) sc_Start_owners.nd rfl (Or.inl rfl) (hf := .inr rfl)) (pgs_cons (pg_name (i := 5) sc_Start_owners.nd rfl (Or.inl rfl) (hf := .inr rfl)) pgs_nil))))) (fun _ _ _ _ _ => pts_nil) (fun _ _ _ _ _ => pv 4))))), ?_⟩
    have hr2 : ∀ r ∈ homeR h g k, r.2.length ≤ 2 := fun r hr => by
      cases h
      · exact (ok.bn r hr).2.2.1
      · exact (ok.gn r hr).2.2.1
    have hrl : (homeR h g k).length ≤ 100 := by
      cases h
      · exact ok.b100
      · exact ok.g100
    obtain ⟨y, d, p, q0, ug, ub, va, rfl, h2, hrest⟩ := id hst
    refine .inl ⟨_, rfl, _, rfl, y, d, _, rfl, h2, by rfl, _, rfl, ?_⟩
    refine ⟨_, h, g, k, a, rfl, hst, fun H1 p1 us e1 n1 hp1 hA => ?_⟩
    refine ⟨_, p1, us, _, rfl, hp1, hA, hr2, hrl, fun H2 l ys e2 hl hy => ?_⟩
    have hyl := hy.len
    rw [List.length_zipIdx] at hyl
    refine ⟨l, rfl, ⟨_, sq_of hl⟩, ?_⟩
    refine lcG (walk_list (xs := ys)) (by omega) (sq_of hl) (fun _ _ e h => ex_l e h) yAt_ex (fun i zs H' => AllG (fun v (x : Rw × Nat) => OwAt H' (homeS h) v x.2 x.1.2.length) zs ((homeR h g k).zipIdx.take i)) (fun _ _ _ _ t h => h.mono fun _ _ z => z.tx t) .nil ?_ ?_
    · rintro i x H3 H4 zs hi e3 ⟨rfl, hx⟩ hz N N0 kN kN0
      obtain ⟨x2, hx2, t, vf, vo, rfl, ht, hf, ho⟩ := (hy.mono fun _ _ z => z.tx (TEx.of e3)).at hx
      refine ⟨t, _, rfl, st_of ht, rfl, _, _, rfl, _, _, rfl, _, _, rfl, _, _, rfl, rfl, rfl, ?_⟩
      refine ⟨_, rfl, kN _ _ (Ex.refl _) ?_⟩
      rw [tk hx2]
      exact .snoc ho hz
    · rintro l2 H3 zs hl2 e3 h3 _ hz
      rw [hyl, List.take_of_length_le (by rw [List.length_zipIdx]; exact Nat.le_refl _)] at hz
      exact q _ l2 zs ((e1.trans e2).trans e3) (none_of (e1.trans e2) hl2) h3 hz
end
end Own

namespace Own
open PySem PySem.Spec PyProof.Rows L2 Evl
abbrev s_is_integer : Stmt := top 4
theorem sc_is_integer : FnScope ["thing"] ["thing"] (defScope s_is_integer) := ⟨rfl, rfl, rfl, by decide +kernel, rfl, by decide +kernel, by decide +kernel⟩
abbrev s_is_index : Stmt := top 5
theorem sc_is_index : FnScope ["thing", "many"] ["thing", "many"] (defScope s_is_index) := ⟨rfl, rfl, rfl, by decide +kernel, rfl, by decide +kernel, by decide +kernel⟩
abbrev s_NoRow___init__ : Stmt := inClass (top 15) 0
theorem sc_NoRow___init__ : FnScope ["self", "at"] ["self", "at"] (defScope s_NoRow___init__) := ⟨rfl, rfl, rfl, by decide +kernel, rfl, by decide +kernel, by decide +kernel⟩
abbrev s_Start_row : Stmt := inClass (top 21) 8
theorem sc_Start_row : FnScope ["self", "home", "at", "rows"] ["self", "home", "at"] (defScope s_Start_row) := ⟨rfl, rfl, rfl, by decide +kernel, rfl, by decide +kernel, by decide +kernel⟩
abbrev s_Start_aim : Stmt := inClass (top 21) 4
theorem sc_Start_aim : FnScope ["self"] ["self"] (defScope s_Start_aim) := ⟨rfl, rfl, rfl, by decide +kernel, rfl, by decide +kernel, by decide +kernel⟩
/-- an own error's __init__ that keeps its argument -/
def spFI (C : Addr) (fl : Str) : Sp := fun vs H Q _ => ∃ (a : Addr) (v : V), vs = [.ref a, v] ∧ H a = some (exo a C none) ∧ ∀ dx, H dx = none → dx ≠ a → Q .non (upd (upd H dx (exd dx [(fl, v)])) a (exo a C (some dx)))
structure ErrF (P : Program) (w : World) (K : PySem.W.Frag) (mg : Str → Option Value) (base : Heap) (nm fl : Str) (C : Addr) : Prop where
  at_ : mg nm = some (.ref C)
  T : OexC K C
  ex : ∃ (fi : Addr) (fd : FuncData), PySem.W.findIn K (.ref C) "__init__" = some (some (.ref fi)) ∧ PySem.W.typeIn K (.ref fi) = some (.type "function") ∧ FnOk P w K mg base CX0 1 fi fd ["self", fl] (spFI C fl) ∧ Binds K fd ["self", fl] []
section
variable {P : Program} {w : World} {K : PySem.W.Frag} {mg : Str → Option Value} {base : Heap} {C f : Addr} {fd : FuncData}
theorem ok_i_NoRow (T : OexC K C) (hno : PySem.W.findIn K (.ref C) "at" = some none) (F : Fun K "__init__" "NoRow.__init__" s_NoRow___init__ f fd) : FnOk P w K mg base CX0 1 f fd ["self", "at"] (spFI C "at") := by
  refine F.ok sc_NoRow___init__ (fun vs H Q E h => ?_) (fun cdv A outer s H vs Q E hr h => ⟨_, pss_one (ps_ost (pv 0) (pv 1)), ?_⟩)
  · obtain ⟨a, v, rfl, _⟩ := h
    rfl
  · obtain ⟨a, v, rfl, ha, q⟩ := h
    exact ⟨_, rfl, _, rfl, a, C, rfl, T, hno, .inl ⟨ha, fun dx n1 n2 => q dx n1 n2⟩⟩
end
def tRX (C : Addr) (fl : Str) (Wx : WX) (ta : TA) : TS := fun _ σ H => tMkO C (spFI C fl) [] ta σ H fun cls d H' => Wx cls d σ H'
theorem ps_raiseX {X : Cx} {nm fl : Str} {C : Addr} {Wx : WX} {j : Nat} {e : Expr} {ta : TA} {p pos pos2 : Pos} (hc : X.calm = true) (c : ErrF X.prog X.w X.K X.mg X.base nm fl C) (hr : Room j X.A) (hj : 2 ≤ j) (tk : Takes X Wx) (hg : Gl X nm) (ha : PA X [e] ta) (hdb : (nm == ("__debug__" : Str)) = false := by decide)
    (he : starEach (e :: []) X.env = (false, eval e X.env) :: starEach [] X.env := by rfl) (hpl : (backTo pos (starEach [] X.env)).any (·.1) = false := by rfl) :
    PS X (.Raise (some (.Call (.Name nm p) [e] [] pos)) none pos2) (tRX C fl Wx ta) := by
  obtain ⟨fI, fd, iC, tI, F1, b⟩ := c.ex
  exact ps_raise hc tk (pmk_oex c.T iC tI F1 (hr.mono hj) b .nil pass0 hg c.at_ ha hdb he hpl)
theorem mkF {C a : Addr} {fl : Str} {v : V} {H1 : Hp} {K2 : VK} (k : ∀ dx, H1 dx = none → dx ≠ a → K2 .non (upd (upd (upd H1 a (exo a C none)) dx (exd dx [(fl, v)])) a (exo a C (some dx)))) :
    spFI C fl (.ref a :: ([v] ++ [])) (upd H1 a (exo a C none)) K2 (fun _ _ _ => False) := ⟨a, v, rfl, upd_same, fun dx h ne => k dx (by rw [upd_ne ne] at h; exact h) ne⟩
theorem exF {a dx : Addr} {H1 : Hp} {o1 o2 o3 o4 : HO} (ha : H1 a = none) (hd : H1 dx = none) : Ex H1 (upd (del (upd (upd (upd H1 a o1) dx o2) a o3) a) dx o4) := fun b o h => by
  have n1 : b ≠ a := fun e => by rw [e, ha] at h; cases h
  have n2 : b ≠ dx := fun e => by rw [e, hd] at h; cases h
  rw [upd_ne n2, del_ne n1, upd_ne n1, upd_ne n2, upd_ne n1]
  exact h
/-- the index that a value is -/
def intD : PyData → Bool | .int _ => true | _ => false
def idx (d : PyData) (n : Nat) : Option Nat := match d with | .int i => if 0 ≤ i ∧ i < (n : Int) then some i.toNat else none | _ => none
theorem idx_inv {d : PyData} {n i : Nat} (h : idx d n = some i) : d = .int (i : Int) ∧ i < n := by
  cases d with
  | int j =>
    have h : (if 0 ≤ j ∧ j < (n : Int) then some j.toNat else none) = some i := h
    split at h
    · rename_i q
      have z := Option.some.inj h
      exact ⟨by congr 1; omega, by omega⟩
    · cases h
  | _ => cases h
theorem Da.int_inv {H : Hp} {v : V} {i : Int} (h : Da H v (.int i)) : v = .int i := by cases h; rfl
theorem SqR.ex {K : PySem.W.Frag} {H H' : Hp} {v : V} {rs : List Rw} (e : Ex H H') (h : SqR K H v rs) : SqR K H' v rs := by
  obtain ⟨p, us, h1, h2, h3⟩ := h
  exact ⟨p, us, h1, h2.imp (e _ _) (e _ _), h3.tex (TEx.of e)⟩
section
variable {P : Program} {w : World} {K : PySem.W.Frag} {mg : Str → Option Value} {base : Heap} {rel : Addr}
theorem mk_start {C y d : Addr} {H : Hp} {vg vb va : V} {g k : List Rw} {a : A3} {W : VK} (hy : H y = none) (hd : H d = none) (hne : d ≠ y) (hg : SqR K H vg g) (hb : SqR K H vb k) (ha : AtomAt H va a) (ok : SOk g k a)
    (z : ∀ (H' : Hp), Ex H H' → StartAt C H' (.ref y) g k a → FrS C H H' y → W .non H') : spInit K C (.ref y :: ([vg, vb, va] ++ [])) (upd (upd H d (.own y)) y (.ins C d [])) W E0 := by
  have hy2 : upd H d (.own y) y = none := by rw [upd_ne (Ne.symm hne)]; exact hy
  have e0 : Ex H (upd (upd H d (.own y)) y (.ins C d [])) := (Ex.new hd).trans (Ex.new hy2)
  have l1 := ok.g100
  have l2 := ok.b100
  exact ⟨y, d, vg, vb, va, g, k, a, rfl, upd_same, hg.ex e0, hb.ex e0, ha.ex e0, by omega, by omega, ok.gn, ok.bn, ok.an, fun H' x t st ⟨d', g', b', va', f1, f2, f3⟩ => z H' (fun b o h => x b o (fun e => by rw [e, hy] at h; cases h) (e0 b o h)) st ⟨d', g', b', va', f1, none_of e0 f2, none_of e0 f3⟩⟩
theorem ok_is_integer (T : Txt0 mg) (TI : TxtI K mg rel) (D : Df K mg "is_integer" s_is_integer) : CalG P w K mg base 1 "is_integer" (spIs intD) := by
  refine cal_mk D sc_is_integer (fun _ _ _ _ _ _ us hl => match us, hl with | [_], _ => rfl) (fun vs H Q E h => ?_) (fun f cdv A outer s H vs Q E hr hG h => ?_)
  · obtain ⟨v, d, rfl, _⟩ := h
    rfl
  · obtain ⟨v, d, rfl, hv, hok, q⟩ := h
    refine ⟨_, (pss_one (ps_ret (pe_and (pe_callB call_isi (by rfl) TI.isinstance (by decide +kernel) (pa_cons (pv 0) (pa_cons (pe_bltn (v := .ty "int") (by rfl) T.int (by decide +kernel) rfl) pa_nil))) (pe_one (pe_not (pe_callB call_isi (by rfl) TI.isinstance (by decide +kernel) (pa_cons (pv 0) (pa_cons (pe_bltn (v := .ty "bool") (by rfl) TI.bool (by decide +kernel) rfl) pa_nil)))))))), ?_⟩
    refine ⟨_, rfl, v, .ty "int", _, _, _, rfl, .ty _, hv.ty, kit_ty (kit_int d), _, rfl, ?_⟩
    cases hs : isIntD d with
    | false =>
      refine iteF ?_
      have e : intD d = false := by cases d <;> first | rfl | cases hs
      rw [← e]
      exact q _ (Ex.refl _)
    | true =>
      refine iteT ⟨_, rfl, v, .ty "bool", _, _, _, rfl, .ty _, hv.ty, kit_ty (kit_bool d), _, rfl, ?_⟩
      have e : (!isBoolD d) = intD d := by cases d <;> first | rfl | cases hs
      rw [e]
      exact q _ (Ex.refl _)
def spIdx : Sp := fun vs H Q _ => ∃ (v : V) (d : PyData) (n : Nat), vs = [v, .int n] ∧ Da H v d ∧ okD 40 16000000 d ∧ ∀ H', Ex H H' → Q (.bl (idx d n).isSome) H'
theorem ok_is_index (D : Df K mg "is_index" s_is_index) (c_is_integer : CalG P w K mg base 1 "is_integer" (spIs intD)) : CalG P w K mg base 2 "is_index" spIdx := by
  refine cal_mk D sc_is_index (fun _ _ _ _ _ _ us hl => match us, hl with | [_, _], _ => rfl) (fun vs H Q E h => ?_) (fun f cdv A outer s H vs Q E hr hG h => ?_)
  · obtain ⟨v, d, n, rfl, _⟩ := h
    rfl
  · obtain ⟨v, d, n, rfl, hv, hok, q⟩ := h
    refine ⟨_, (pss_one (ps_ret (pe_and (pe_cG c_is_integer hr hG (by decide) rfl (pa_cons (pv 0) pa_nil)) (pe_one (pe_chain opLeA opLt pe_int (pv 0) (pv 1)))))), ?_⟩
    refine ⟨_, rfl, v, d, rfl, hv, hok, fun H1 e1 => ⟨_, rfl, ?_⟩⟩
    cases hi : intD d with
    | false =>
      refine iteF ?_
      have e : (idx d n).isSome = false := by cases d <;> first | rfl | cases hi
      rw [← e]
      exact q _ e1
    | true =>
      obtain ⟨i, rfl⟩ : ∃ i, d = .int i := by cases d <;> first | exact ⟨_, rfl⟩ | cases hi
      have := hv.int_inv
      subst this
      refine iteT ?_
      have fin : ∀ b : Bool, b = (idx (.int i) n).isSome → Q (.bl b) H1 := fun b hb => by
        rw [hb]
        exact q _ e1
      have e : (idx (.int i) n).isSome = (decide (0 ≤ i) && decide (i < (n : Int))) := by
        show (if 0 ≤ i ∧ i < (n : Int) then some i.toNat else none).isSome = _
        by_cases h1 : 0 ≤ i <;> by_cases h2 : i < (n : Int) <;> simp [h1, h2]
      refine ⟨_, rfl, .inl ⟨_, _, rfl, rfl, _, rfl, ite2 (fun h1 => ⟨_, rfl, _, _, rfl, rfl, fin _ ?_⟩) (fun h1 => fin _ ?_)⟩⟩
      · rw [e, h1, Bool.true_and]
      · rw [e, show decide (0 ≤ i) = false from by simpa using h1, Bool.false_and]
theorem ok_getaim {C f : Addr} {fd : FuncData} (S : ClsS K C) (F : Fun K "aim" "Start.aim" s_Start_aim f fd) : FnOk P w K mg base CX0 1 f fd ["self"] (getSp C "aim_atom") := by
  refine F.ok sc_Start_aim (fun vs H Q E h => ?_) (fun cdv A outer s H vs Q E hr h => ⟨_, (pss_one (ps_ret (pe_fld (pv 0) (by rfl)))), ?_⟩)
  · obtain ⟨a, dx, fs, v, rfl, _⟩ := h
    rfl
  · obtain ⟨a, dx, fs, v, rfl, ha, hl, q⟩ := h
    exact ⟨_, rfl, a, C, dx, fs, v, rfl, ha, S.cl, S.n3, hl, q⟩
/-- row: NoRow, or the row -/
def spRowX (C NR : Addr) : Sp := fun vs H Q E => ∃ (v vat : V) (h : Bool) (g k : List Rw) (a : A3) (dat : PyData), vs = [v, .str (homeS h), vat] ∧ StartAt C H v g k a ∧ SOk g k a ∧ Da H vat dat ∧ okD 40 16000000 dat ∧
  (idx dat (homeR h g k).length = none → ∀ H' dd, Ex H H' → H' dd = some (.xd [("at", vat)]) → E (.ref NR) (some dd) H') ∧
  (∀ i r, idx dat (homeR h g k).length = some i → (homeR h g k)[i]? = some r → ∀ H' u, Ex H H' → RowAt H' u r → Q u H')
theorem homeR_len {g k : List Rw} {a : A3} (ok : SOk g k a) (h : Bool) : (homeR h g k).length ≤ 100 := by
  cases h
  · exact ok.b100
  · exact ok.g100
theorem ok_rowX {C NR fi : Addr} {fdi : FuncData} (T : Txt0 mg) (EN : ErrF P w K mg base "NoRow" "at" NR) (M_rows : MetG P w K mg base 1 C "rows" (spRowsH C)) (c_is_index : CalG P w K mg base 2 "is_index" spIdx) (F : Fun K "row" "Start.row" s_Start_row fi fdi) : FnX P w K mg base 4 fi fdi ["self", "home", "at"] (spRowX C NR) := by
  refine fn_mkX F sc_Start_row (fun vs H Q E h => ?_) (fun cdv A outer s H vs Q E hr hG h => ?_)
  · obtain ⟨v, vat, h, g, k, a, dat, rfl, _⟩ := h
    rfl
  · obtain ⟨v, vat, h, g, k, a, dat, rfl, hst, ok, hd, kd, qe, q⟩ := h
    refine ⟨_, (pss_cons (ps_set (i := 3) sc_Start_row.nd rfl (Or.inl rfl) (pe_mtG M_rows (pv 0) hr hG (by decide) (pa_cons (pv 1) pa_nil)))
      (pss_cons (ps_if (pt_not (pt_val (pe_cG c_is_index hr hG (by decide) rfl (pa_cons (pv 2) (pa_cons (pe_callB callLen (by rfl) T.len PySem.boot_len (pa_cons (pv 3) pa_nil)) pa_nil))))) (pss_one (ps_raiseX rfl EN hr (by decide) (takes_of rfl rfl rfl rfl) rfl (pa_cons (pv 2) pa_nil))) pss_nil)
      (pss_one (ps_ret (pe_ix ixAny (pv 3) (pv 2) (fun _ _ => rfl)))))), ?_⟩
    obtain ⟨y, d, p, q0, ug, ub, va, rfl, h2, hrest⟩ := id hst
    refine ⟨_, rfl, y, d, _, rfl, h2, by rfl, _, rfl, ?_⟩
    refine ⟨_, h, g, k, a, rfl, hst, fun H1 p1 us e1 n1 hp1 hA => ?_⟩
    have hul := hA.len
    have hl := homeR_len ok h
    refine ⟨_, rfl, _, rfl, .inl ⟨p1, _, rfl, .inl (sq_of hp1), ?_⟩⟩
    refine ⟨vat, dat, us.length, rfl, hd.ex e1, kd, fun H2 e2 => ⟨_, rfl, ?_⟩⟩
    rw [hul]
    cases hi : idx dat (homeR h g k).length with
    | none =>
      refine iteT ⟨_, rfl, ?_⟩
      refine ⟨by show 1 ≤ 1000; decide, fun a0 ha0 => mkF fun dx n1 n2 => ⟨rfl, dx, _, upd_same, by rw [upd_ne n2, upd_same], n1, ?_⟩⟩
      exact qe hi _ dx ((e1.trans e2).trans (exF ha0 n1)) upd_same
    | some i =>
      obtain ⟨rfl, hin⟩ := idx_inv hi
      have := hd.int_inv
      subst this
      have hin2 : i < us.length := by omega
      obtain ⟨r, hr1, hr2⟩ := hA.at (List.getElem?_eq_getElem hin2)
      refine iteF ⟨_, rfl, _, rfl, .inl ⟨p1, us, (i : Int), _, rfl, rfl, sq_of (e2 _ _ hp1), atI_nat (j := i) (List.getElem?_eq_getElem hin2), ?_⟩⟩
      exact q i r hi hr1 _ _ (e1.trans e2) (hr2.tex (TEx.of e2))
end
end Own

namespace Own
open PySem PySem.Spec PyProof.Rows L2 Evl
abbrev s_l_begun : Stmt := top 33
theorem sc_l_begun : FnScope ["_law_rows_here", "_law_home", "_law_found", "_law_k", "_law_owners", "_law_b"] ["_law_rows_here", "_law_home"] (defScope s_l_begun) := ⟨rfl, rfl, rfl, by decide +kernel, rfl, by decide +kernel, by decide +kernel⟩
section
variable {P : Program} {w : World} {K : PySem.W.Frag} {mg : Str → Option Value} {base : Heap} {rel : Addr}
def spBegun : Sp := fun vs H Q _ => ∃ (h : Str) (p : Addr) (us : List V) (rs : List Rw), vs = [.ref p, .str h] ∧ H p = some (.lst us) ∧ AllRw H us rs ∧ (∀ r ∈ rs, r.2.length ≤ 2) ∧ rs.length ≤ 100 ∧ ∀ (H' : Hp) (l : Addr) (ys : List V), Ex H H' → H' l = some (.lst ys) → AllG (MkAt H' h) ys rs.zipIdx → Q (.ref l) H'
theorem ok_begun (T : Txt0 mg) (D : Df K mg "_law_begun" s_l_begun) : CalG P w K mg base 1 "_law_begun" spBegun := by
  refine cal_mk D sc_l_begun (fun _ _ _ _ _ _ us hl => match us, hl with | [_, _], _ => rfl) (fun vs H Q E h => ?_) (fun f cdv A outer s H vs Q E hr hG h => ?_)
  · obtain ⟨h, p, us, rs, rfl, _⟩ := h
    rfl
  · obtain ⟨h, p, us, rs, rfl, hp, hA, h2, hl, q⟩ := h
    refine ⟨_, (pss_cons (ps_set (i := 2) sc_l_begun.nd rfl (Or.inl rfl) (pe_lst pa_nil))
      (pss_cons (ps_forO (ps_for PassesOwn.never rfl (pi_range1 rfl T.range (pa_cons (pe_callB callLen (by rfl) T.len PySem.boot_len (pa_cons (pv 0) pa_nil)) pa_nil)) (pg_name (i := 3) sc_l_begun.nd rfl (Or.inr rfl))
        (pss_cons (ps_set (i := 4) sc_l_begun.nd rfl (Or.inl rfl) (pe_callTy call_tuple_of (by rfl) T.tuple (by decide +kernel) (pa_cons (pe_lcO (pe_lc (own := [("_law_b", 5)]) rfl sc_l_begun.nd (pi_range1 rfl T.range (pa_cons (pe_callB callLen (by rfl) T.len PySem.boot_len (pa_cons (pe_ix ixAny (pe_ix ixAny (pv 0) (pv 3) (fun _ _ => rfl)) pe_int (fun _ _ => rfl)) pa_nil)) pa_nil)) (blkOk_by (own := [("_law_b", 5)]) (N := ["_law_rows_here", "_law_home", "_law_found", "_law_k", "_law_owners", "_law_b"]) (sc := defScope s_l_begun) (by first | decide +kernel | kernel_rfl)) (fun _ _ _ _ _ => pg_name (i := 5) sc_l_begun.nd rfl (Or.inl rfl)) (fun _ _ _ _ _ => pts_nil) (fun _ _ _ _ _ => pe_tup (pa_cons (pv 1) (pa_cons (pv 3) (pa_cons (pv 5) pa_nil)))))) pa_nil)))
      (pss_one (ps_expr (pe_bm PySem.F.plainAttrs_list PySem.F.slot_list_append PySem.F.type_list_append mt_append (pv 2) (pa_cons (pe_op opAdd (pe_slice slAny (pe_ix ixAny (pv 0) (pv 3) (fun _ _ => rfl)) po_none (po_some pe_int)) (pe_tup (pa_cons (pv 4) (pa_cons (pv 4) pa_nil)))) pa_nil)))))))
      (pss_one (ps_ret (pv 2))))), ?_⟩
    have hul := hA.len
    refine ⟨by show 0 ≤ sizeLine; decide, fun L nL => ?_⟩
    generalize hq1 : upd H L _ = H1
    obtain ⟨e1, h1⟩ := gen1 hq1 nL
    refine ⟨_, rfl, .inl ⟨p, _, rfl, .inl (sq_of (e1 _ _ hp)), ((us.length : Nat) : Int), rfl, by omega, by omega, ?_⟩⟩
    refine frG (walk_range (lo := 0) (n := ((us.length : Nat) : Int).toNat)) (fun i σ H' => ∃ (x3 x4 x5 : Option V) (ys : List V), σ = [some (.ref p), some (.str h), some (.ref L), x3, x4, x5] ∧ Ex H H' ∧ H' L = some (.lst ys) ∧ AllG (MkAt H' h) ys (rs.zipIdx.take i) ∧ ys.length ≤ i) ⟨_, _, _, _, rfl, e1, h1, .nil, Nat.le_refl _⟩ (fun _ _ _ _ _ => trivial) ?_ ?_
    · rintro i x σ H2 H3 hi ⟨x3, x4, x5, ys, rfl, e2, hL, hy, hyl⟩ ⟨rfl, rfl⟩
      have hi2 : i < us.length := by omega
      obtain ⟨r, hr1, t, vf, hxt, ht, pf, xs, rfl, hpf, hat⟩ := (hA.tex (TEx.of e2)).at (List.getElem?_eq_getElem hi2)
      have hlx := hat.len
      have hr2 := h2 r (List.mem_of_getElem? hr1)
      have ixr : atI us (0 + (i : Int)) = some (.ref t) := by
        rw [Int.zero_add]
        exact atI_nat (j := i) (by rw [List.getElem?_eq_getElem hi2, hxt])
      refine ⟨_, rfl, _, rfl, .inl ⟨p, us, _, _, rfl, rfl, sq_of (e2 _ _ hp), ixr, .inr (.inl ⟨t, _, 1, _, rfl, rfl, st_of ht, atI_nat (j := 1) rfl, .inl ⟨pf, _, rfl, .inr (st_of hpf), ((xs.length : Nat) : Int), rfl, by omega, by omega, ?_⟩⟩)⟩⟩
      refine lcG (walk_range (lo := 0) (n := ((xs.length : Nat) : Int).toNat)) (by omega) trivial (fun _ _ _ _ => trivial) yFn_ex (fun j zs H' => AllG (Ow1 H' h i) zs (List.range j)) (fun _ _ _ _ t h => h.mono fun _ _ z => z.tx t) .nil ?_ ?_
      · rintro j x H4 H5 zs hj e4 ⟨rfl, rfl⟩ hz N N0 kN kN0
        refine ⟨rfl, ?_⟩
        refine ⟨_, rfl, _, rfl, _, rfl, by show 3 ≤ sizeLine; decide, fun t6 n6 => ?_⟩
        have e6 := Ex.new (o := .tup [.str h, .int (0 + (i : Int)), .int (0 + (j : Int))]) n6
        refine kN _ _ e6 ?_
        rw [List.range_succ]
        refine .snoc ⟨t6, rfl, ?_⟩ (hz.mono fun _ _ z => z.tx (TEx.of e6))
        rw [upd_same]
        show some (HO.tup [.str h, .int (0 + (i : Int)), .int (0 + (j : Int))]) = _
        rw [Int.zero_add, Int.zero_add]
      · rintro D2 H4 zs hD e4 hD2 hl2 hz
        refine ⟨D2, zs, rfl, .inl ⟨sq_of hD2, fun t5 n5 => ?_⟩⟩
        generalize hq5 : upd H4 t5 _ = H5
        obtain ⟨e5, h5⟩ := gen1 hq5 n5
        have e25 := e4.trans e5
        have e35 := e2.trans e25
        refine ⟨_, rfl, .inl ⟨rfl, _, sq_of (e25 _ _ hL)⟩, _, rfl, _, rfl, .inl ⟨p, us, _, _, rfl, rfl, sq_of (e35 _ _ hp), ixr, 2, rfl, ?_⟩⟩
        refine sl_toG (j := 2) (e25 _ _ ht) fun t6 H6 e6 h6 => ?_
        refine ⟨_, rfl, _, rfl, by show 2 ≤ sizeLine; decide, fun t7 n7 => ?_⟩
        generalize hq7 : upd H6 t7 _ = H7
        obtain ⟨e7, h7⟩ := gen1 hq7 n7
        refine cat_G (e7 _ _ h6) h7 (by show 4 ≤ 1000; decide) fun t8 H8 e8 h8 => ?_
        have e58 := (e6.trans e7).trans e8
        have e28 := e25.trans e58
        have hL8 := e28 _ _ hL
        refine ⟨L, ys, _, rfl, rfl, hL8, sz_lt (by omega), ?_⟩
        refine ⟨_, _, _, ys ++ [.ref t8], rfl, Ex.mut (e2.trans e28) nL, upd_same, ?_, by rw [List.length_append]; show ys.length + 1 ≤ i + 1; omega⟩
        have tL := TEx.lst (o := .lst (ys ++ [.ref t8])) hL8
        have t28 := (TEx.of e28).trans tL
        rw [tk (zip_at hr1)]
        refine .snoc ⟨t8, .ref pf, .ref t5, rfl, tL _ _ h8, ⟨pf, xs, rfl, t28 _ _ hpf, hat.tex t28⟩, t5, zs, rfl, ((TEx.of e58).trans tL) _ _ h5, ?_⟩ (hy.mono fun _ _ z => z.tx t28)
        rw [show ((xs.length : Nat) : Int).toNat = r.2.length from by omega] at hz
        exact hz.mono fun _ _ z => z.tx ((TEx.of (e5.trans e58)).trans tL)
    · rintro σ H2 ⟨x3, x4, x5, ys, rfl, e2, hL, hy, _⟩
      rw [show ((us.length : Nat) : Int).toNat = rs.zipIdx.length from by rw [List.length_zipIdx]; omega, List.take_length] at hy
      exact ⟨_, rfl, q _ L ys e2 hL hy⟩
end
end Own

namespace Own
open PySem PySem.Spec PyProof.Rows L2 Evl
theorem lcL {J : It} {n : Nat} {G : Hp → Prop} {Y : Nat → Hp → V → Hp → Prop} (w : Walk J n G Y) {g : TG} {tt : TT} {te : TE} {vs : List Nat} {σ : L2.St} {H1 : Hp} {Q : VK} (hG0 : G H1) (hGm : ∀ H H', Ex H H' → G H → G H') (hY : ∀ i H x H', Y i H x H' → Ex H H') (hn : n ≤ 40000)
    (Pa : Addr → Nat → List V → Hp → Prop) (hm : ∀ D i ys H H', TEx H H' → ExB D H H' → Pa D i ys H → Pa D i ys H') (p0 : ∀ D, Pa D 0 [] H1)
    (hs : ∀ D i x H H' ys, i < n → Ex H1 H → Y i H x H' → H1 D = none → H' D = some (.lst ys) → Pa D i ys H' → ∀ (N : V → Hp → Prop) (N0 : Hp → Prop), (∀ y H4, Ex H' H4 → Pa D (i + 1) (ys ++ [y]) H4 → N y H4) → (∀ H3, Ex H' H3 → Pa D (i + 1) ys H3 → N0 H3) →
      g x (wipe σ vs) H' fun σ2 H2 => wipe σ2 vs = wipe σ vs ∧ tt σ2 H2 fun b H3 => if b = true then te σ2 H3 N else N0 H3)
    (k : ∀ D H2 ys, H1 D = none → Ex H1 H2 → H2 D = some (.lst ys) → ys.length ≤ n → Pa D n ys H2 → Q (.ref D) H2) :
    LcRest g tt te vs σ Q J H1 := by
  intro D hD
  refine lc_it w (fun i H => ∃ ys, Ex H1 H ∧ H D = some (.lst ys) ∧ ys.length ≤ i ∧ Pa D i ys H) ⟨[], Ex.new hD, upd_same, Nat.zero_le _, hm _ _ _ _ _ (TEx.of (Ex.new hD)) (fun a o _ h => Ex.new hD a o h) (p0 D)⟩ (fun i H hi ⟨ys, e, _⟩ => hGm _ _ e hG0) ?_ ?_
  · rintro i x H H' hi ⟨ys, e, hd, hl, hp⟩ hy
    have e' := hY _ _ _ _ hy
    refine hs D i x H H' ys hi e hy hD (e' _ _ hd) (hm _ _ _ _ _ (TEx.of e') (fun a o _ h => e' a o h) hp) _ _ (fun y H4 e4 p4 => ?_) (fun H3 e3 p3 => ?_)
    · have d4 := e4 _ _ (e' _ _ hd)
      refine ⟨ys, d4, sz_lt (by omega), ys ++ [y], Ex.mut ((e.trans e').trans e4) hD, upd_same, ?_, hm _ _ _ _ _ (TEx.lst d4) (ExB.set (ExB.refl _ _)) p4⟩
      rw [List.length_append]
      show ys.length + 1 ≤ i + 1
      omega
    · exact ⟨ys, (e.trans e').trans e3, e3 _ _ (e' _ _ hd), by omega, p3⟩
  · rintro H ⟨ys, e, hd, hl, hp⟩
    exact k D H ys hD e hd hl hp
def rListOf (K : PySem.W.Frag) : List V → Hp → VK → Prop := fun xs H Q => ∃ p ys, xs = [V.ref p] ∧ (SqL K H p ys ∨ SqT K H p ys) ∧ ∀ (l : Addr), H l = none → Q (V.ref l) (upd H l (HO.lst ys))
theorem call_list_ofB {X : Cx} {s : Shared} {H : Hp} {sc : Scope} {ce : Env} {fp : List Addr} : CallR (X.blk s H sc ce fp) (.type "list") (rListOf X.K) := call_list_of
theorem fl_at {H : Hp} {fs : List (List A3)} {i : Nat} {f : List A3} {vs xs : List V} (h : fs[i]? = some f) (h1 : AllAt H vs (fs.take i).flatten) (h2 : AllAt H xs f) : AllAt H (vs ++ xs) (fs.take (i + 1)).flatten := by
  rw [fl_tk h]
  exact h1.app h2
/-- lists at addresses that are not D -/
def LsD (D : Addr) (H : Hp) (as : List Addr) (yss : List (List V)) : Prop := Paired (fun a zs => a ≠ D ∧ H a = some (.lst zs)) as yss
theorem LsD.mv {D : Addr} {H H' : Hp} {as : List Addr} {yss : List (List V)} (e : ExB D H H') (h : LsD D H as yss) : LsD D H' as yss := Paired.mono (fun _ _ z => ⟨z.1, e _ _ z.1 z.2⟩) h
theorem LsD.ex {D : Addr} {H H' : Hp} {as : List Addr} {yss : List (List V)} (e : Ex H H') (h : LsD D H as yss) : Paired (fun a zs => H' a = some (.lst zs)) as yss := Paired.mono (fun _ _ z => e _ _ z.2) h
open Classical in
/-- the texts of a list, each once, ascending -/
noncomputable def srtL (zs : List Str) : List Str := if h : ∃ ys, Srt zs ys then Classical.choose h else []
theorem srt_eq {zs ys : List Str} (h : Srt zs ys) : ys = srtL zs := by
  have h0 : ∃ ys, Srt zs ys := ⟨ys, h⟩
  unfold srtL
  rw [dif_pos h0]
  exact Srt.one h (Classical.choose_spec h0) fun _ => Iff.rfl
def ownL (h : Str) (rs : List Rw) : List PyData := rs.zipIdx.map fun x => owD h x.2 x.1.2.length
mutual
theorem Da.dp {K : PySem.W.Frag} {H : Hp} : ∀ (d : PyData) {v : V}, d.canLay0 = true → Da H v d → Dp K H v d
  | .none, _, _, h => by cases h; exact .non
  | .bool _, _, _, h => by cases h; exact .bl _
  | .int _, _, _, h => by cases h; exact .int _
  | .str _, _, _, h => by cases h; exact .str _
  | .list ds, _, q, h => by
    cases h with
    | lst h1 h2 => exact .lst (sq_of h1) (DaAll.dp ds q h2)
  | .tuple ds, _, q, h => by
    cases h with
    | tup h1 h2 => exact .tup (st_of h1) (DaAll.dp ds q h2)
  | .dict _, _, q, h => by cases q
theorem DaAll.dp {K : PySem.W.Frag} {H : Hp} : ∀ (ds : List PyData) {vs : List V}, PyData.canLayAll0 ds = true → DaAll H vs ds → DpAll K H vs ds
  | [], _, _, h => by cases h; exact .nil
  | d :: ds, _, q, h => by
    have q' : (d.canLay0 && PyData.canLayAll0 ds) = true := q
    rw [Bool.and_eq_true] at q'
    cases h with
    | cons h1 h2 => exact .cons (Da.dp d q'.1 h1) (DaAll.dp ds q'.2 h2)
end
/-- data within bounds, without dicts -/
def okN (n W : Nat) (d : PyData) : Prop := okD n W d ∧ d.canLay0 = true
theorem okN.mono {n W n' W' : Nat} {d : PyData} (h : okN n W d) (h1 : n ≤ n') (h2 : W ≤ W') : okN n' W' d := ⟨h.1.mono h1 h2, h.2⟩
theorem lay_all {ds : List PyData} (h : ∀ d ∈ ds, d.canLay0 = true) : PyData.canLayAll0 ds = true := by
  induction ds with
  | nil => rfl
  | cons d ds ih =>
    show (d.canLay0 && PyData.canLayAll0 ds) = true
    rw [h d List.mem_cons_self, ih fun x hx => h x (List.mem_cons_of_mem _ hx)]
    rfl
theorem okN_tup {n W : Nat} {ds : List PyData} (h : ∀ d ∈ ds, okN n W d) {m : Nat} (hm : ds.length ≤ m) : okN (n + 1) (m * (W + 2) + 3) (.tuple ds) := ⟨okD_tup (fun d hd => (h d hd).1) hm, lay_all fun d hd => (h d hd).2⟩
theorem okN_list {n W : Nat} {ds : List PyData} (h : ∀ d ∈ ds, okN n W d) {m : Nat} (hm : ds.length ≤ m) : okN (n + 1) (m * (W + 2) + 3) (.list ds) := ⟨okD_list (fun d hd => (h d hd).1) hm, lay_all fun d hd => (h d hd).2⟩
theorem okN_str {z : Str} {L : Nat} (h : lay z = true) (hl : z.length ≤ L) : okN 0 (10 * L + 5) (.str z) := ⟨okD_str h hl, h⟩
theorem okN_nm {z : Str} (h : isNm z = true) : okN 0 85 (.str z) := okN_str (L := 8) (nm_ok h) (nm_len h)
theorem okN_nat {n : Nat} (h : n ≤ 1000) : okN 0 1921 (.int (n : Int)) := by
  refine ⟨⟨?_, Nat.le_refl _, Nat.le_refl _⟩, rfl⟩
  have z : ((List.range 1001).all fun n => gD (.int (n : Int))) = true := by decide +kernel
  exact List.all_eq_true.mp z n (List.mem_range.mpr (by omega))
theorem okN_row {r : Rw} (h : nR r) : okN 3 1200 (rwD r) := by
  refine ⟨h.ok, ?_⟩
  show (lay r.1 && ((PyData.canLayAll0 (r.2.map atD)) && true)) = true
  rw [nm_ok h.1, lay_all fun d hd => ?_]
  · rfl
  · obtain ⟨a, ha, rfl⟩ := List.mem_map.mp hd
    exact (Bool.and_eq_true_iff.mp (shp_at (h.2.2.2 a ha).g.1)).1
theorem okN_atom {a : A3} (h : nA a) : okN 1 264 (atD a) := ⟨h.ok, (Bool.and_eq_true_iff.mp (shp_at h.g.1)).1⟩
theorem okN_own {h : Str} (hh : lay h = true) (hl : h.length ≤ 8) {n m : Nat} (hn : n ≤ 1000) (hm : m ≤ 2) : okN 2 11551 (owD h n m) := by
  refine okN_tup (n := 1) (W := 5772) (m := 2) (fun d hd => ?_) (by rw [List.length_map, List.length_range]; exact hm)
  obtain ⟨j, hj, rfl⟩ := List.mem_map.mp hd
  have hj2 := List.mem_range.mp hj
  refine okN_tup (n := 0) (W := 1921) (m := 3) (fun d hd => ?_) (Nat.le_refl _)
  simp only [List.mem_cons, List.not_mem_nil, or_false] at hd
  rcases hd with rfl | rfl | rfl
  · exact (okN_str hh hl).mono (Nat.le_refl _) (by decide)
  · exact okN_nat hn
  · exact okN_nat (by omega)
theorem okN_owns {h : Str} (hh : lay h = true) (hl : h.length ≤ 8) {rs : List Rw} (hr : ∀ r ∈ rs, nR r) (hn : rs.length ≤ 60) : okN 3 693183 (.list (ownL h rs)) := by
  refine okN_list (n := 2) (W := 11551) (m := 60) (fun d hd => ?_) (by unfold ownL; rw [List.length_map, List.length_zipIdx]; exact hn)
  obtain ⟨x, hx, rfl⟩ := List.mem_map.mp hd
  obtain ⟨r, i⟩ := x
  have z := List.mem_zipIdx hx
  have z1 := z.2.1
  have z2 := z.2.2
  have hm : r ∈ rs := by
    rw [z2]
    exact List.getElem_mem _
  exact okN_own hh hl (by omega) (hr r hm).2.2.1
theorem nodup_le : ∀ (ys zs : List Str), ys.Nodup → (∀ z, z ∈ ys → z ∈ zs) → ys.length ≤ zs.length
  | [], _, _, _ => Nat.zero_le _
  | y :: r, zs, nd, sub => by
    obtain ⟨n1, n2⟩ := List.nodup_cons.mp nd
    have hy := sub y List.mem_cons_self
    have q := nodup_le r (zs.erase y) n2 fun z hz => (List.mem_erase_of_ne (fun e : z = y => n1 (by rw [← e]; exact hz))).mpr (sub z (List.mem_cons_of_mem _ hz))
    rw [List.length_erase_of_mem hy] at q
    have z := List.length_pos_of_mem hy
    rw [List.length_cons]
    omega
theorem srtL_len (zs : List Str) : (srtL zs).length ≤ zs.length ∧ ∀ z ∈ srtL zs, z ∈ zs := by
  unfold srtL
  split
  · rename_i h
    have z := Classical.choose_spec h
    exact ⟨nodup_le _ _ z.nd fun x hx => (z.me x).mp hx, fun x hx => (z.me x).mp hx⟩
  · exact ⟨Nat.zero_le _, fun z hz => by cases hz⟩
theorem okN_nms {zs : List Str} (h : ∀ z ∈ zs, isNm z = true) {m : Nat} (hl : zs.length ≤ m) : okN 1 (m * 87 + 3) (.list ((srtL zs).map .str)) := by
  obtain ⟨z1, z2⟩ := srtL_len zs
  refine okN_list (n := 0) (W := 85) (m := m) (fun d hd => ?_) (by rw [List.length_map]; omega)
  obtain ⟨z, hz, rfl⟩ := List.mem_map.mp hd
  exact okN_nm (h z (z2 z hz))
abbrev s_l_told : Stmt := top 35
theorem sc_l_told : FnScope ["_law_kind", "_law_start", "_law_at", "_law_home"] ["_law_kind", "_law_start"] (defScope s_l_told) := ⟨rfl, rfl, rfl, by decide +kernel, rfl, by decide +kernel, by decide +kernel⟩
/-- what one of eight questions tells -/
noncomputable def toldK (kind : Nat) (g k : List Rw) (a : A3) : List PyData :=
  match kind with
  | 0 => g.map rwD
  | 1 => k.map rwD
  | 2 => [.list (g.map rwD), .list (k.map rwD)]
  | 3 => [atD a, .int ((g ++ k).length : Nat)]
  | 4 => (srtL (namesOf g k a)).map .str
  | 5 => (srtL (thsOf g k a)).map .str
  | 6 => [.list (ownL "goal" g), .list (ownL "book" k)]
  | _ => [.list (g.map rwD), .list (k.map rwD)]
section
variable {P : Program} {w : World} {K : PySem.W.Frag} {mg : Str → Option Value} {base : Heap} {rel : Addr}
def spToldK (C : Addr) : Sp := fun vs H Q _ => ∃ (kind : Nat) (v : V) (g k : List Rw) (a : A3), vs = [.int kind, v] ∧ kind < 8 ∧ StartAt C H v g k a ∧ SOk g k a ∧
  ∀ (H' : Hp) (p : Addr) (us : List V) (qs : List Addr), Ex H H' → H p = none → H' p = some (.lst us) → us.length ≤ 1000 → DaAll H' us (toldK kind g k a) → (kind = 2 ∨ kind = 6 → us = qs.map V.ref ∧ ∀ q ∈ qs, q ≠ p ∧ H q = none ∧ ∃ zs, H' q = some (.lst zs) ∧ zs.length ≤ 1000) → Q (.ref p) H'
theorem two_qs {H H' : Hp} {p q1 q2 : Addr} {z1 z2 : List V} (n1 : q1 ≠ p) (n2 : q2 ≠ p) (h1 : H q1 = none) (h2 : H q2 = none) (e1 : H' q1 = some (.lst z1)) (e2 : H' q2 = some (.lst z2)) (l1 : z1.length ≤ 1000) (l2 : z2.length ≤ 1000) :
    [V.ref q1, V.ref q2] = [q1, q2].map V.ref ∧ ∀ q ∈ [q1, q2], q ≠ p ∧ H q = none ∧ ∃ zs, H' q = some (.lst zs) ∧ zs.length ≤ 1000 := by
  refine ⟨rfl, fun q hq => ?_⟩
  simp only [List.mem_cons, List.not_mem_nil, or_false] at hq
  rcases hq with rfl | rfl
  · exact ⟨n1, h1, z1, e1, l1⟩
  · exact ⟨n2, h2, z2, e2, l2⟩
theorem ok_toldK {C NR pa fg : Addr} {fdg : FuncData} (S : ClsS K C) (T : Txt0 mg) (M_goal : MetG P w K mg base 1 C "goal" (spGiv C fun g _ => g)) (M_book : MetG P w K mg base 1 C "book" (spGiv C fun _ k => k)) (hp : PropOf K C "aim" pa fg) (FG : FnOk P w K mg base CX0 1 fg fdg ["self"] (getSp C "aim_atom")) (ba : Binds K fdg ["self"] [])
    (M_len : MetG P w K mg base 1 C "__len__" (spLen C)) (M_names : MetG P w K mg base 1 C "names" (spSrt C namesOf)) (M_things : MetG P w K mg base 1 C "things" (spSrt C thsOf)) (M_owners : MetG P w K mg base 3 C "owners" (spOwn C)) (M_rows : MetG P w K mg base 1 C "rows" (spRowsH C)) (M_row : MetX P w K mg base 4 C "row" (spRowX C NR)) (D : Df K mg "_law_told" s_l_told) : CalG P w K mg base 5 "_law_told" (spToldK C) := by
  refine cal_mk D sc_l_told (fun _ _ _ _ _ _ us hl => match us, hl with | [_, _], _ => rfl) (fun vs H Q E h => ?_) (fun f cdv A outer s H vs Q E hr hG h => ?_)
  · obtain ⟨kind, v, g, k, a, rfl, _⟩ := h
    rfl
  · obtain ⟨kind, v, g, k, a, rfl, h8, hst, ok, q⟩ := h
    refine ⟨_, (pss_cons (ps_if (pt_cmpR opLt (pv 0) pe_int (nomark _)) (pss_one (ps_ret (pe_ifExp (pt_cmpR (opEq hr) (pv 0) pe_int (nomark _)) (pe_mtG0 M_goal (pv 1) hr hG (by decide)) (pe_mtG0 M_book (pv 1) hr hG (by decide))))) pss_nil)
      (pss_cons (ps_if (pt_cmpR opLt (pv 0) pe_int (nomark _)) (pss_one (ps_ret (pe_ifExp (pt_cmpR (opEq hr) (pv 0) pe_int (nomark _)) (pe_lst (pa_cons (pe_mtG M_rows (pv 1) hr hG (by decide) (pa_cons pe_str pa_nil)) (pa_cons (pe_mtG M_rows (pv 1) hr hG (by decide) (pa_cons pe_str pa_nil)) pa_nil))) (pe_lst (pa_cons (pe_prop (pv 1) S.cl hp FG (hr.mono (by decide)) ba .nil pass0 (by rfl)) (pa_cons (pe_callB (callLenO M_len hr hG (by decide)) (by rfl) T.len PySem.boot_len (pa_cons (pv 1) pa_nil)) pa_nil)))))) pss_nil)
      (pss_cons (ps_if (pt_cmpR opLt (pv 0) pe_int (nomark _)) (pss_one (ps_ret (pe_ifExp (pt_cmpR (opEq hr) (pv 0) pe_int (nomark _)) (pe_mtG0 M_names (pv 1) hr hG (by decide)) (pe_mtG0 M_things (pv 1) hr hG (by decide))))) pss_nil)
      (pss_cons (ps_if (pt_cmpR (opEq hr) (pv 0) pe_int (nomark _)) (pss_one (ps_ret (pe_lst (pa_cons (pe_mtG M_owners (pv 1) hr hG (by decide) (pa_cons pe_str pa_nil)) (pa_cons (pe_mtG M_owners (pv 1) hr hG (by decide) (pa_cons pe_str pa_nil)) pa_nil))))) pss_nil)
      (pss_one (ps_ret (pe_lcO (pe_lc (own := [("_law_home", 3)]) rfl sc_l_told.nd (piAny (pe_tup (pa_cons pe_str (pa_cons pe_str pa_nil)))) (blkOk_by (own := [("_law_home", 3)]) (N := ["_law_kind", "_law_start", "_law_at", "_law_home"]) (sc := defScope s_l_told) (by first | decide +kernel | kernel_rfl)) (fun _ _ _ _ _ => pg_name (i := 3) sc_l_told.nd rfl (Or.inr rfl) (hf := .inl rfl)) (fun _ _ _ _ _ => pts_nil) (fun _ _ _ _ _ => pe_lcO (pe_lc (own := [("_law_at", 2)]) rfl sc_l_told.nd (pi_range1 rfl T.range (pa_cons (pe_callB callLenB (by rfl) T.len PySem.boot_len (pa_cons (pe_mtG M_rows (pv 1) hr hG (by decide) (pa_cons (pv 3) pa_nil)) pa_nil)) pa_nil)) (blkOk_by (own := [("_law_at", 2)]) (N := ["_law_kind", "_law_start", "_law_at", "_law_home"]) (by first | decide +kernel | kernel_rfl)) (fun _ _ _ _ _ => pg_name (i := 2) sc_l_told.nd rfl (Or.inl rfl)) (fun _ _ _ _ _ => pts_nil) (fun _ _ _ _ _ => pe_mtX M_row (pv 1) hr hG (by decide) (fun σ => passAt takes0 σ) (pa_cons (pv 3) (pa_cons (pv 2) pa_nil))))))))))))), ?_⟩
    obtain ⟨y, d, p, q0, ug, ub, va, rfl, h2, h3, h4, h5, h6, h7⟩ := id hst
    have l1 := h4.len
    have l2 := h6.len
    have b1 := ok.g100
    have b2 := ok.b100
    refine ⟨_, rfl, _, _, rfl, rfl, _, rfl, ?_⟩
    match kind, h8, q with
    | 0, _, q =>
      refine ifT (by decide) ?_
      refine ⟨_, rfl, .inl ⟨rfl, _, rfl, ?_⟩⟩
      refine ifT (by decide) ?_
      refine ⟨_, rfl, y, d, _, rfl, h2, by rfl, ?_⟩
      refine ⟨_, g, k, a, rfl, hst, fun H1 p1 u1 e1 n1 hp1 hA1 => ?_⟩
      exact q _ p1 u1 [] e1 n1 hp1 (by rw [hA1.len]; show g.length ≤ 1000; omega) hA1.da (fun z => absurd z (by decide))
    | 1, _, q =>
      refine ifT (by decide) ?_
      refine ⟨_, rfl, .inl ⟨rfl, _, rfl, ?_⟩⟩
      refine ifF (by decide) ?_
      refine ⟨_, rfl, y, d, _, rfl, h2, by rfl, ?_⟩
      refine ⟨_, g, k, a, rfl, hst, fun H1 p1 u1 e1 n1 hp1 hA1 => ?_⟩
      exact q _ p1 u1 [] e1 n1 hp1 (by rw [hA1.len]; show k.length ≤ 1000; omega) hA1.da (fun z => absurd z (by decide))
    | 2, _, q =>
      refine ifF (by decide) ?_
      refine ⟨_, rfl, _, _, rfl, rfl, _, rfl, ifT (by decide) ?_⟩
      refine ⟨_, rfl, .inl ⟨rfl, _, rfl, ?_⟩⟩
      refine ifT (by decide) ?_
      refine ⟨_, rfl, y, d, _, rfl, h2, by rfl, ?_⟩
      refine ⟨_, true, g, k, a, rfl, hst, fun H1 p1 u1 e1 n1 hp1 hA1 => ?_⟩
      refine ⟨_, rfl, y, d, _, rfl, e1 _ _ h2, by rfl, ?_⟩
      refine ⟨_, false, g, k, a, rfl, hst.ex e1, fun H2 p2 u2 e2 n2 hp2 hA2 => ?_⟩
      refine ⟨by show 2 ≤ sizeLine; decide, fun l3 n3 => ?_⟩
      generalize hq3 : upd H2 l3 _ = H3
      obtain ⟨e3, h3'⟩ := gen1 hq3 n3
      have e23 := e2.trans e3
      have f1 := e23 _ _ hp1
      have f2 := e3 _ _ hp2
      have m1 : p1 ≠ l3 := fun e => by rw [← e, e2 _ _ hp1] at n3; cases n3
      have m2 : p2 ≠ l3 := fun e => by rw [← e, hp2] at n3; cases n3
      refine q _ l3 _ [p1, p2] (e1.trans e23) (none_of (e1.trans e2) n3) h3' (by show 2 ≤ 1000; decide) (.cons (.lst f1 (hA1.tex (TEx.of e23)).da) (.cons (.lst f2 (hA2.tex (TEx.of e3)).da) .nil)) fun _ => two_qs m1 m2 n1 (none_of e1 n2) f1 f2 ?_ ?_
      · rw [hA1.len]
        show g.length ≤ 1000
        omega
      · rw [hA2.len]
        show k.length ≤ 1000
        omega
    | 3, _, q =>
      refine ifF (by decide) ?_
      refine ⟨_, rfl, _, _, rfl, rfl, _, rfl, ifT (by decide) ?_⟩
      refine ⟨_, rfl, .inl ⟨rfl, _, rfl, ?_⟩⟩
      refine ifF (by decide) ?_
      refine ⟨_, rfl, y, d, _, rfl, h2, y, d, _, va, rfl, h2, by rfl, ?_⟩
      refine ⟨_, rfl, y, d, _, rfl, h2, _, g, k, a, rfl, hst, ok, fun H3 e3 => ⟨⟨_, rfl, ?_⟩, ?_⟩⟩
      · rw [List.length_append]
        omega
      refine ⟨by show 2 ≤ sizeLine; decide, fun l4 n4 => ?_⟩
      generalize hq4 : upd H3 l4 _ = H4
      obtain ⟨e4, h4'⟩ := gen1 hq4 n4
      exact q _ l4 _ [] (e3.trans e4) (none_of e3 n4) h4' (by show 2 ≤ 1000; decide) (.cons (h7.ex (e3.trans e4)).da (.cons (.int _) .nil)) (fun z => absurd z (by decide))
    | 4, _, q =>
      refine ifF (by decide) ?_
      refine ⟨_, rfl, _, _, rfl, rfl, _, rfl, ifF (by decide) ?_⟩
      refine ⟨_, rfl, _, _, rfl, rfl, _, rfl, ifT (by decide) ?_⟩
      refine ⟨_, rfl, .inl ⟨rfl, _, rfl, ?_⟩⟩
      refine ifT (by decide) ?_
      refine ⟨_, rfl, y, d, _, rfl, h2, by rfl, ?_⟩
      refine ⟨_, g, k, a, rfl, hst, ok, fun H4 p4 ns e4 n4 hp4 sn ln => ?_⟩
      refine q _ p4 _ [] e4 n4 hp4 (by rw [List.length_map]; exact ln) ?_ (fun z => absurd z (by decide))
      show DaAll H4 _ ((srtL (namesOf g k a)).map .str)
      rw [← srt_eq sn]
      exact strs_da _
    | 5, _, q =>
      refine ifF (by decide) ?_
      refine ⟨_, rfl, _, _, rfl, rfl, _, rfl, ifF (by decide) ?_⟩
      refine ⟨_, rfl, _, _, rfl, rfl, _, rfl, ifT (by decide) ?_⟩
      refine ⟨_, rfl, .inl ⟨rfl, _, rfl, ?_⟩⟩
      refine ifF (by decide) ?_
      refine ⟨_, rfl, y, d, _, rfl, h2, by rfl, ?_⟩
      refine ⟨_, g, k, a, rfl, hst, ok, fun H4 p4 ns e4 n4 hp4 sn ln => ?_⟩
      refine q _ p4 _ [] e4 n4 hp4 (by rw [List.length_map]; exact ln) ?_ (fun z => absurd z (by decide))
      show DaAll H4 _ ((srtL (thsOf g k a)).map .str)
      rw [← srt_eq sn]
      exact strs_da _
    | 6, _, q =>
      refine ifF (by decide) ?_
      refine ⟨_, rfl, _, _, rfl, rfl, _, rfl, ifF (by decide) ?_⟩
      refine ⟨_, rfl, _, _, rfl, rfl, _, rfl, ifF (by decide) ?_⟩
      refine ⟨_, rfl, .inl ⟨rfl, _, rfl, ?_⟩⟩
      refine ifT (by decide) ?_
      refine ⟨_, rfl, y, d, _, rfl, h2, by rfl, ?_⟩
      refine ⟨_, true, g, k, a, rfl, hst, ok, fun H1 p1 u1 e1 n1 hp1 hO1 => ?_⟩
      refine ⟨_, rfl, y, d, _, rfl, e1 _ _ h2, by rfl, ?_⟩
      refine ⟨_, false, g, k, a, rfl, hst.ex e1, ok, fun H2 p2 u2 e2 n2 hp2 hO2 => ?_⟩
      refine ⟨by show 2 ≤ sizeLine; decide, fun l3 n3 => ?_⟩
      generalize hq3 : upd H2 l3 _ = H3
      obtain ⟨e3, h3'⟩ := gen1 hq3 n3
      have e23 := e2.trans e3
      have f1 := e23 _ _ hp1
      have f2 := e3 _ _ hp2
      have m1 : p1 ≠ l3 := fun e => by rw [← e, e2 _ _ hp1] at n3; cases n3
      have m2 : p2 ≠ l3 := fun e => by rw [← e, hp2] at n3; cases n3
      refine q _ l3 _ [p1, p2] (e1.trans e23) (none_of (e1.trans e2) n3) h3' (by show 2 ≤ 1000; decide) (.cons (.lst f1 ((hO1.mono fun _ _ z => z.tx (TEx.of e23)).da fun v x z => z.da)) (.cons (.lst f2 ((hO2.mono fun _ _ z => z.tx (TEx.of e3)).da fun v x z => z.da)) .nil)) fun _ => two_qs m1 m2 n1 (none_of e1 n2) f1 f2 ?_ ?_
      · rw [hO1.len, List.length_zipIdx]
        show g.length ≤ 1000
        omega
      · rw [hO2.len, List.length_zipIdx]
        show k.length ≤ 1000
        omega
    | 7, _, q =>
      refine ifF (by decide) ?_
      refine ⟨_, rfl, _, _, rfl, rfl, _, rfl, ifF (by decide) ?_⟩
      refine ⟨_, rfl, _, _, rfl, rfl, _, rfl, ifF (by decide) ?_⟩
      refine ⟨_, rfl, .inl ⟨rfl, _, rfl, ?_⟩⟩
      refine ifF (by decide) ?_
      refine .inr (.inl ⟨by show 2 ≤ sizeLine; decide, fun t3 n3 => ⟨t3, rfl, ⟨_, st_of upd_same⟩, ?_⟩⟩)
      generalize hq3 : upd H t3 _ = H3
      obtain ⟨e3, h3'⟩ := gen1 hq3 n3
      have hst3 := hst.ex e3
      refine lcL (walk_tup (xs := [V.str "goal", V.str "book"])) (st_of h3') (fun _ _ e h => ex_t e h) yAt_ex (by show 2 ≤ 40000; decide) (fun D i ys H' => ∃ (as : List Addr) (yss : List (List V)), ys = as.map V.ref ∧ LsD D H' as yss ∧ Paired (fun us rs => AllRw H' us rs) yss ([g, k].take i)) (fun D i ys H H' t x ⟨as, yss, z1, z2, z3⟩ => ⟨as, yss, z1, z2.mv x, Paired.mono (fun _ _ z => z.tex t) z3⟩) (fun D => ⟨[], [], rfl, .nil, .nil⟩) ?_ ?_
      · rintro D i x H4 H5 ys hi e4 ⟨rfl, hx⟩ hD hd ⟨as, yss, rfl, z2, z3⟩ N N0 kN kN0
        obtain ⟨h, rfl, hgk⟩ : ∃ h : Bool, x = .str (homeS h) ∧ [g, k][i]? = some (homeR h g k) := by
          match i, hx with
          | 0, hx => cases hx; exact ⟨true, rfl, rfl⟩
          | 1, hx => cases hx; exact ⟨false, rfl, rfl⟩
          | i + 2, hx => cases hx
        have hst4 := hst3.ex e4
        have h24 := (e3.trans e4) _ _ h2
        refine ⟨rfl, ?_⟩
        refine ⟨_, rfl, y, d, _, rfl, h24, by rfl, _, rfl, ?_⟩
        refine ⟨_, h, g, k, a, rfl, hst4, fun H6 p6 u6 e6 n6 hp6 hA6 => ?_⟩
        have hul := hA6.len
        have hl := homeR_len ok h
        refine .inl ⟨p6, u6, rfl, .inl (sq_of hp6), ((u6.length : Nat) : Int), rfl, by omega, by omega, ?_⟩
        refine lcG (walk_range (lo := 0) (n := ((u6.length : Nat) : Int).toNat)) (by omega) trivial (fun _ _ _ _ => trivial) yFn_ex (fun j zs H' => AllRw H' zs ((homeR h g k).take j)) (fun _ _ _ _ t h => h.tex t) trivial ?_ ?_
        · rintro j x H7 H8 zs hj e7 ⟨rfl, rfl⟩ hz M M0 kM kM0
          have e47 := e6.trans e7
          have hj2 : j < (homeR h g k).length := by omega
          refine ⟨rfl, ?_⟩
          refine ⟨_, rfl, y, d, _, rfl, e47 _ _ h24, by rfl, _, rfl, _, rfl, .ref y, _, h, g, k, a, .int (0 + (j : Int)), rfl, hst4.ex e47, ok, .int _, ?_, fun hi => ?_, fun i2 r hi hr1 H9 u e9 hu => ?_⟩
          · rw [Int.zero_add]
            exact (okN_nat (n := j) (by omega)).1.mono (by decide) (by decide)
          · exfalso
            have z : idx (.int (0 + (j : Int))) (homeR h g k).length = some (0 + (j : Int)).toNat := if_pos ⟨by omega, by omega⟩
            rw [z] at hi
            cases hi
          · have z : idx (.int (0 + (j : Int))) (homeR h g k).length = some (0 + (j : Int)).toNat := if_pos ⟨by omega, by omega⟩
            rw [z] at hi
            have e2 : i2 = j := by
              have := Option.some.inj hi
              omega
            subst e2
            refine kM _ _ e9 ?_
            rw [tk hr1]
            exact (hz.tex (TEx.of e9)).snoc hu
        · rintro l7 H7 zs hl7 e7 h7' _ hz
          rw [show ((u6.length : Nat) : Int).toNat = (homeR h g k).length from by omega, List.take_length] at hz
          have e47 := e6.trans e7
          have nD : l7 ≠ D := fun z => by rw [z, e6 _ _ hd] at hl7; cases hl7
          refine kN _ _ e47 ⟨as ++ [l7], yss ++ [zs], by rw [List.map_append]; rfl, Paired.snoc (z2.mv fun a o _ h => e47 a o h) ⟨nD, h7'⟩, ?_⟩
          rw [tk hgk]
          exact Paired.snoc (Paired.mono (fun _ _ z => z.tex (TEx.of e47)) z3) hz
      · rintro D4 H4 ys hD4 e4 hD4' hl4 ⟨as, yss, rfl, z2, z3⟩
        refine q _ D4 _ [] (e3.trans e4) (none_of e3 hD4) hD4' (by
          have : (as.map V.ref).length ≤ [V.str "goal", V.str "book"].length := hl4
          show _ ≤ 1000
          exact Nat.le_trans this (by show 2 ≤ 1000; decide)) ?_ (fun z => absurd z (by decide))
        have z3 : Paired (fun us rs => AllRw H4 us rs) yss [g, k] := z3
        cases z3 with
        | cons g1 z3 =>
          cases z3 with
          | cons g2 z3 =>
            cases z3
            cases z2 with
            | cons f1 z2 =>
              cases z2 with
              | cons f2 z2 =>
                cases z2
                exact .cons (.lst f1.2 g1.da) (.cons (.lst f2.2 g2.da) .nil)
end
end Own

namespace Own
open PySem PySem.Spec PyProof.Rows L2 Evl
abbrev s_l_due : Stmt := top 36
theorem sc_l_due : FnScope ["_law_kind", "_law_board", "_law_shelf", "_law_aim", "_law_atoms", "_law_row_here", "_law_atom_here"] ["_law_kind", "_law_board", "_law_shelf", "_law_aim"] (defScope s_l_due) := ⟨rfl, rfl, rfl, by decide +kernel, rfl, by decide +kernel, by decide +kernel⟩
section
variable {P : Program} {w : World} {K : PySem.W.Frag} {mg : Str → Option Value} {base : Heap} {rel : Addr}
def spDueK : Sp := fun vs H Q _ => ∃ (kind : Nat) (pg pk : Addr) (va : V) (ug uk : List V) (g k : List Rw) (a : A3), vs = [.int kind, .ref pg, .ref pk, va] ∧ kind < 8 ∧ H pg = some (.lst ug) ∧ AllRw H ug g ∧ H pk = some (.lst uk) ∧ AllRw H uk k ∧ AtomAt H va a ∧ SOk g k a ∧
  ∀ (H' : Hp) (p : Addr) (us : List V), Ex H H' → H' p = some (.lst us) → DaAll H' us (toldK kind g k a) → Q (.ref p) H'
theorem ok_dueK (T : Txt0 mg) (TZ : TxtZ mg) (c_l_begun : CalG P w K mg base 1 "_law_begun" spBegun) (D : Df K mg "_law_due" s_l_due) : CalG P w K mg base 2 "_law_due" spDueK := by
  refine cal_mk D sc_l_due (fun _ _ _ _ _ _ us hl => match us, hl with | [_, _, _, _], _ => rfl) (fun vs H Q E h => ?_) (fun f cdv A outer s H vs Q E hr hG h => ?_)
  · obtain ⟨kind, pg, pk, va, ug, uk, g, k, a, rfl, _⟩ := h
    rfl
  · obtain ⟨kind, pg, pk, va, ug, uk, g, k, a, rfl, hk8, hpg, hAg, hpk, hAk, ha, ok, q⟩ := h
    refine ⟨_, (pss_cons (ps_set (i := 4) sc_l_due.nd rfl (Or.inl rfl) (pe_op opAdd (pe_callB (cr_sumL rfl) (by rfl) TZ.sum (by decide +kernel) (pa_cons (pe_lcO (pe_lc (own := [("_law_row_here", 5)]) rfl sc_l_due.nd (piAny (pe_op opAdd (pv 1) (pv 2))) (blkOk_by (own := [("_law_row_here", 5)]) (N := ["_law_kind", "_law_board", "_law_shelf", "_law_aim", "_law_atoms", "_law_row_here", "_law_atom_here"]) (sc := defScope s_l_due) (by first | decide +kernel | kernel_rfl)) (fun _ _ _ _ _ => pg_name (i := 5) sc_l_due.nd rfl (Or.inl rfl)) (fun _ _ _ _ _ => pts_nil) (fun _ _ _ _ _ => pe_callTy call_list_ofB (by rfl) T.list (by decide +kernel) (pa_cons (pe_ix ixAnyB (pv 5) pe_int (fun _ _ => rfl)) pa_nil)))) (pa_cons (pe_lst pa_nil) pa_nil))) (pe_lst (pa_cons (pv 3) pa_nil))))
      (pss_cons (ps_if (pt_cmpR opLt (pv 0) pe_int (nomark _)) (pss_one (ps_ret (pe_ix ixAny (pe_lst (pa_cons (pv 1) (pa_cons (pv 2) (pa_cons (pe_lst (pa_cons (pv 1) (pa_cons (pv 2) pa_nil))) (pa_cons (pe_lst (pa_cons (pv 3) (pa_cons (pe_op opAdd (pe_callB callLen (by rfl) T.len PySem.boot_len (pa_cons (pv 1) pa_nil)) (pe_callB callLen (by rfl) T.len PySem.boot_len (pa_cons (pv 2) pa_nil))) pa_nil))) pa_nil))))) (pv 0) (fun _ _ => rfl)))) pss_nil)
      (pss_cons (ps_if (pt_cmpR (opEq hr) (pv 0) pe_int (nomark _)) (pss_one (ps_ret (pe_callB (cr_sortX rfl) (by rfl) TZ.sorted (by decide +kernel) (pa_cons (pe_callTy (cr_setX rfl) (by rfl) TZ.set (by decide +kernel) (pa_cons (pe_lcO (pe_lc (own := [("_law_row_here", 5)]) rfl sc_l_due.nd (piAny (pe_op opAdd (pv 1) (pv 2))) (blkOk_by (own := [("_law_row_here", 5)]) (N := ["_law_kind", "_law_board", "_law_shelf", "_law_aim", "_law_atoms", "_law_row_here", "_law_atom_here"]) (sc := defScope s_l_due) (by first | decide +kernel | kernel_rfl)) (fun _ _ _ _ _ => pg_name (i := 5) sc_l_due.nd rfl (Or.inl rfl)) (fun _ _ _ _ _ => pts_nil) (fun _ _ _ _ _ => pe_ix ixAnyB (pv 5) pe_int (fun _ _ => rfl)))) pa_nil)) pa_nil)))) pss_nil)
      (pss_cons (ps_if (pt_cmpR (opEq hr) (pv 0) pe_int (nomark _)) (pss_one (ps_ret (pe_callB (cr_sortX rfl) (by rfl) TZ.sorted (by decide +kernel) (pa_cons (pe_callTy (cr_setX rfl) (by rfl) TZ.set (by decide +kernel) (pa_cons (pe_callB (cr_sumL rfl) (by rfl) TZ.sum (by decide +kernel) (pa_cons (pe_lcO (pe_lc (own := [("_law_atom_here", 6)]) rfl sc_l_due.nd (piAny (pv 4)) (blkOk_by (own := [("_law_atom_here", 6)]) (N := ["_law_kind", "_law_board", "_law_shelf", "_law_aim", "_law_atoms", "_law_row_here", "_law_atom_here"]) (sc := defScope s_l_due) (by first | decide +kernel | kernel_rfl)) (fun _ _ _ _ _ => pg_name (i := 6) sc_l_due.nd rfl (Or.inl rfl)) (fun _ _ _ _ _ => pts_nil) (fun _ _ _ _ _ => pe_callTy call_list_ofB (by rfl) T.list (by decide +kernel) (pa_cons (pe_slice slAnyB (pv 6) (po_some pe_int) po_none) pa_nil)))) (pa_cons (pe_lst pa_nil) pa_nil))) pa_nil)) pa_nil)))) pss_nil)
      (pss_cons (ps_if (pt_cmpR (opEq hr) (pv 0) pe_int (nomark _)) (pss_one (ps_ret (pe_lst (pa_cons (pe_lcO (pe_lc (own := [("_law_row_here", 5)]) rfl sc_l_due.nd (piAny (pe_cG c_l_begun hr hG (by decide) rfl (pa_cons (pv 1) (pa_cons pe_str pa_nil)))) (blkOk_by (own := [("_law_row_here", 5)]) (N := ["_law_kind", "_law_board", "_law_shelf", "_law_aim", "_law_atoms", "_law_row_here", "_law_atom_here"]) (sc := defScope s_l_due) (by first | decide +kernel | kernel_rfl)) (fun _ _ _ _ _ => pg_name (i := 5) sc_l_due.nd rfl (Or.inl rfl)) (fun _ _ _ _ _ => pts_nil) (fun _ _ _ _ _ => pe_ix ixAnyB (pv 5) pe_int (fun _ _ => rfl)))) (pa_cons (pe_lcO (pe_lc (own := [("_law_row_here", 5)]) rfl sc_l_due.nd (piAny (pe_cG c_l_begun hr hG (by decide) rfl (pa_cons (pv 2) (pa_cons pe_str pa_nil)))) (blkOk_by (own := [("_law_row_here", 5)]) (N := ["_law_kind", "_law_board", "_law_shelf", "_law_aim", "_law_atoms", "_law_row_here", "_law_atom_here"]) (sc := defScope s_l_due) (by first | decide +kernel | kernel_rfl)) (fun _ _ _ _ _ => pg_name (i := 5) sc_l_due.nd rfl (Or.inl rfl)) (fun _ _ _ _ _ => pts_nil) (fun _ _ _ _ _ => pe_ix ixAnyB (pv 5) pe_int (fun _ _ => rfl)))) pa_nil))))) pss_nil)
      (pss_one (ps_ret (pe_lst (pa_cons (pv 1) (pa_cons (pv 2) pa_nil)))))))))), ?_⟩
    have l1 := hAg.len
    have l2 := hAk.len
    have b1 := ok.g100
    have b2 := ok.b100
    have gF : ∀ f ∈ fcs g k, f.length ≤ 2 := fun f hf => by
      obtain ⟨r, hr', rfl⟩ := List.mem_map.mp hf
      rcases List.mem_append.mp hr' with h | h
      · exact (ok.gn r h).2.2.1
      · exact (ok.bn r h).2.2.1
    have lfl := fl_len gF
    have lfc := fcs_len g k
    rw [List.length_append] at lfc
    -- the atoms
    refine .inl ⟨_, rfl, _, rfl, .inr (.inr (.inl ⟨pg, pk, _, _, rfl, rfl, hpg, hpk, Nat.le_trans (show ug.length + uk.length ≤ 200 by omega) (by decide), fun t1 n1 => ?_⟩))⟩
    generalize hq1 : upd H t1 _ = H1
    obtain ⟨e1, h1⟩ := gen1 hq1 n1
    have hA1 : AllRw H1 (ug ++ uk) (g ++ k) := (hAg.app hAk).tex (TEx.of e1)
    refine ⟨t1, rfl, ⟨_, sq_of h1⟩, ?_⟩
    refine lcL (walk_list (xs := ug ++ uk)) (sq_of h1) (fun _ _ e h => ex_l e h) yAt_ex (by rw [List.length_append]; omega) (fun D i ys H' => ∃ (as : List Addr) (yss : List (List V)), ys = as.map V.ref ∧ LsD D H' as yss ∧ AllAt H' yss.flatten ((fcs g k).take i).flatten) (fun D i ys H H' t x ⟨as, yss, z1, z2, z3⟩ => ⟨as, yss, z1, z2.mv x, z3.tex t⟩) (fun D => ⟨[], [], rfl, .nil, trivial⟩) ?_ ?_
    · rintro D i x H2 H3 ys hi e2 ⟨rfl, hx⟩ hD hd ⟨as, yss, rfl, z2, z3⟩ N N0 kN kN0
      obtain ⟨r, hr1, t, vf, rfl, ht, pf, xs, rfl, hpf, hat⟩ := (hA1.tex (TEx.of e2)).at hx
      refine ⟨rfl, ?_⟩
      refine ⟨_, rfl, .inr (.inl ⟨t, _, 1, _, rfl, rfl, st_of ht, atI_nat (j := 1) rfl, pf, xs, rfl, .inr (st_of hpf), fun l6 n6 => ?_⟩)⟩
      generalize hq6 : upd H3 l6 _ = H6
      obtain ⟨e6, h6⟩ := gen1 hq6 n6
      have nD : l6 ≠ D := fun z => by rw [z, hd] at n6; cases n6
      refine kN _ _ e6 ⟨as ++ [l6], yss ++ [xs], by rw [List.map_append]; rfl, Paired.snoc (z2.mv fun a o _ h => e6 a o h) ⟨nD, h6⟩, ?_⟩
      rw [List.flatten_append]
      show AllAt H6 (yss.flatten ++ (xs ++ [])) _
      rw [List.append_nil]
      exact fl_at (fcs_at hr1) (z3.tex (TEx.of e6)) (hat.tex (TEx.of e6))
    rintro D2 H2 ys hD e2 hD2 _ ⟨as, yss, rfl, z2, z3⟩
    have lA := hA1.len
    rw [lA, List.take_of_length_le (by rw [fcs_len]; exact Nat.le_refl _)] at z3
    have lz := z3.len
    refine ⟨by show 0 ≤ sizeLine; decide, fun e0 n0 => ?_⟩
    generalize hq3 : upd H2 e0 _ = H3
    obtain ⟨e3, h3⟩ := gen1 hq3 n0
    refine ⟨D2, e0, as, yss, rfl, sq_of (e3 _ _ hD2), h3, z2.ex e3, Nat.le_trans (show _ ≤ 1000 by omega) (by decide), fun p4 H4 e4 h4 => ?_⟩
    refine ⟨_, rfl, by show 1 ≤ sizeLine; decide, fun t5 n5 => ?_⟩
    generalize hq5 : upd H4 t5 _ = H5
    obtain ⟨e5, h5⟩ := gen1 hq5 n5
    refine .inr (.inr (.inl ⟨p4, t5, _, _, rfl, rfl, e5 _ _ h4, h5, Nat.le_trans (show _ + 1 ≤ 1000 by omega) (by decide), fun t6 n6 => ?_⟩))
    generalize hq6 : upd H5 t6 _ = H6
    obtain ⟨e6, h6⟩ := gen1 hq6 n6
    have e26 := ((e3.trans e4).trans e5).trans e6
    have e16 := (e1.trans e2).trans e26
    have hat6 : AllAt H6 (yss.flatten ++ [va]) ((fcs g k).flatten ++ [a]) := (z3.tex (TEx.of e26)).snoc (ha.ex e16)
    have lat := hat6.len
    have lat2 : ((fcs g k).flatten ++ [a]).length ≤ 401 := by
      rw [List.length_append]
      show _ + 1 ≤ 401
      omega
    have hg6 := e16 _ _ hpg
    have hk6 := e16 _ _ hpk
    have gd := (hAg.tex (TEx.of e16)).da
    have kd := (hAk.tex (TEx.of e16)).da
    refine ⟨_, rfl, _, _, rfl, rfl, _, rfl, ?_⟩
    by_cases k4 : kind < 4
    · rw [decide_eq_true (show (kind : Int) < 4 by omega)]
      refine iteT ?_
      refine ⟨_, rfl, _, rfl, _, rfl, _, rfl, by show 2 ≤ sizeLine; decide, fun l7 n7 => ?_⟩
      generalize hq7 : upd H6 l7 _ = H7
      obtain ⟨e7, h7⟩ := gen1 hq7 n7
      refine ⟨_, rfl, _, rfl, .inl ⟨pg, _, rfl, .inl (sq_of (e7 _ _ hg6)), _, rfl, .inl ⟨pk, _, rfl, .inl (sq_of (e7 _ _ hk6)), .inl ⟨_, _, rfl, rfl, ?_⟩⟩⟩⟩
      refine ⟨by show 2 ≤ sizeLine; decide, fun l8 n8 => ?_⟩
      generalize hq8 : upd H7 l8 _ = H8
      obtain ⟨e8, h8⟩ := gen1 hq8 n8
      refine ⟨by show 4 ≤ sizeLine; decide, fun l9 n9 => ?_⟩
      generalize hq9 : upd H8 l9 _ = H9
      obtain ⟨e9, h9⟩ := gen1 hq9 n9
      have e69 := (e7.trans e8).trans e9
      have e19 := e16.trans e69
      match kind, k4, q with
      | 0, _, q => exact ⟨_, rfl, .inl ⟨l9, _, 0, _, rfl, rfl, sq_of h9, atI_nat (j := 0) rfl, q H9 pg ug e19 (e69 _ _ hg6) (DaAll.ex e69 _ gd)⟩⟩
      | 1, _, q => exact ⟨_, rfl, .inl ⟨l9, _, 1, _, rfl, rfl, sq_of h9, atI_nat (j := 1) rfl, q H9 pk uk e19 (e69 _ _ hk6) (DaAll.ex e69 _ kd)⟩⟩
      | 2, _, q => exact ⟨_, rfl, .inl ⟨l9, _, 2, _, rfl, rfl, sq_of h9, atI_nat (j := 2) rfl, q H9 l7 _ e19 ((e8.trans e9) _ _ h7) (.cons (.lst (e69 _ _ hg6) (DaAll.ex e69 _ gd)) (.cons (.lst (e69 _ _ hk6) (DaAll.ex e69 _ kd)) .nil))⟩⟩
      | 3, _, q =>
        have el : ((ug.length : Int) + (uk.length : Int)) = ((g ++ k).length : Nat) := by rw [List.length_append, l1, l2]; rfl
        exact ⟨_, rfl, .inl ⟨l9, _, 3, _, rfl, rfl, sq_of h9, atI_nat (j := 3) rfl, q H9 l8 _ e19 (e9 _ _ h8) (.cons (ha.ex e19).da (.cons (by show Da _ (.int ((ug.length : Int) + (uk.length : Int))) _; rw [el]; exact .int _) .nil))⟩⟩
    rw [decide_eq_false (show ¬ (kind : Int) < 4 by omega)]
    refine iteF ?_
    refine ⟨_, rfl, .inl ⟨rfl, _, rfl, ?_⟩⟩
    rw [show decide (V.int (kind : Int) = V.int 4) = decide (kind = 4) from int_eq kind 4]
    by_cases k5 : kind = 4
    · rw [decide_eq_true k5]
      subst k5
      refine iteT ?_
      refine .inl ⟨_, rfl, _, rfl, .inr (.inr (.inl ⟨pg, pk, _, _, rfl, rfl, e16 _ _ hpg, e16 _ _ hpk, Nat.le_trans (show ug.length + uk.length ≤ 200 by omega) (by decide), fun t8 n8 => ?_⟩))⟩
      generalize hq8 : upd H6 t8 _ = H8
      obtain ⟨e8, h8⟩ := gen1 hq8 n8
      have e18 := e16.trans e8
      have hA8 : AllRw H8 (ug ++ uk) (g ++ k) := (hAg.app hAk).tex (TEx.of e18)
      refine ⟨t8, rfl, ⟨_, sq_of h8⟩, ?_⟩
      refine lcG (walk_list (xs := ug ++ uk)) (by rw [List.length_append]; omega) (sq_of h8) (fun _ _ e h => ex_l e h) yAt_ex (fun i ys _ => ys = (((g ++ k).take i).map (·.1)).map V.str) (fun _ _ _ _ _ h => h) rfl ?_ ?_
      · rintro i x H9 H10 ys hi e9 ⟨rfl, hx⟩ rfl N N0 kN kN0
        obtain ⟨r, hr1, t, vf, rfl, ht, hf⟩ := (hA8.tex (TEx.of e9)).at hx
        refine ⟨rfl, ?_⟩
        refine ⟨_, rfl, .inr (.inl ⟨t, _, 0, _, rfl, rfl, st_of ht, atI_nat (j := 0) rfl, kN _ _ (Ex.refl _) ?_⟩)⟩
        rw [List.take_add_one, hr1, List.map_append, List.map_append]
        rfl
      rintro D9 H9 ys9 hD9 e9 hD9' hl9 rfl
      have lA8 := hA8.len
      have lN : (((g ++ k).take (ug ++ uk).length).map (·.1)) = namesOf g k a := by
        rw [lA8, List.take_length]
        rfl
      rw [lN] at hD9' hl9
      have lz9 : (namesOf g k a).length ≤ 200 := by
        rw [List.length_map, List.length_append] at hl9
        omega
      refine ⟨D9, namesOf g k a, rfl, sq_of hD9', by omega, fun sa sl c1 c2 nsa => ?_⟩
      generalize hq10 : upd H9 sa _ = H10
      obtain ⟨e10, h10⟩ := gen1 hq10 nsa
      refine ⟨sa, sl, rfl, h10, by omega, fun p11 ns so yl np11 => ?_⟩
      have sn : Srt (namesOf g k a) ns := ⟨so.so, so.nd, fun z => (so.me z).trans (c2 z)⟩
      generalize hq11 : upd H10 p11 _ = H11
      obtain ⟨e11, h11⟩ := gen1 hq11 np11
      refine q H11 p11 _ (e18.trans ((e9.trans e10).trans e11)) h11 ?_
      show DaAll H11 _ ((srtL (namesOf g k a)).map .str)
      rw [← srt_eq sn]
      exact strs_da _
    rw [decide_eq_false k5]
    refine iteF ?_
    refine ⟨_, rfl, .inl ⟨rfl, _, rfl, ?_⟩⟩
    rw [show decide (V.int (kind : Int) = V.int 5) = decide (kind = 5) from int_eq kind 5]
    by_cases k6 : kind = 5
    · rw [decide_eq_true k6]
      subst k6
      refine iteT ?_
      refine .inl ⟨_, rfl, t6, rfl, ⟨_, sq_of h6⟩, ?_⟩
      refine lcL (walk_list (xs := yss.flatten ++ [va])) (sq_of h6) (fun _ _ e h => ex_l e h) yAt_ex (by omega) (fun D i ys H' => ∃ (as : List Addr) (zss : List (List V)), ys = as.map V.ref ∧ LsD D H' as zss ∧ zss.flatten = (abcOf (((fcs g k).flatten ++ [a]).take i)).map V.str) (fun D i ys H H' t x ⟨as, zss, z1, z2, z3⟩ => ⟨as, zss, z1, z2.mv x, z3⟩) (fun D => ⟨[], [], rfl, .nil, rfl⟩) ?_ ?_
      · rintro D i x H13 H14 ys hi e13 ⟨rfl, hx⟩ hD hd ⟨as2, zss, rfl, z2', z3'⟩ N N0 kN kN0
        obtain ⟨b, hb1, pb, rfl, hpb⟩ := (hat6.tex (TEx.of e13)).at hx
        refine ⟨rfl, ?_⟩
        refine ⟨_, rfl, 1, rfl, ?_⟩
        refine sl_fromG (j := 1) hpb fun t15 H15 e15 h15 => ?_
        refine ⟨t15, _, rfl, .inr (st_of h15), fun l16 n16 => ?_⟩
        generalize hq16 : upd H15 l16 _ = H16
        obtain ⟨e16', h16⟩ := gen1 hq16 n16
        have nD : l16 ≠ D := fun z => by rw [z, e15 _ _ hd] at n16; cases n16
        refine kN _ _ (e15.trans e16') ⟨as2 ++ [l16], zss ++ [((sl3 b).map V.str).drop 1], by rw [List.map_append]; rfl, Paired.snoc (z2'.mv fun a o _ h => e16' _ _ (e15 a o h)) ⟨nD, h16⟩, ?_⟩
        rw [List.flatten_append, z3', abc_tk hb1, List.map_append]
        rfl
      rintro D13 H13 ys13 hD13 e13 hD13' _ ⟨as2, zss, rfl, z2', z3'⟩
      rw [lat, List.take_length] at z3'
      have la13 : (abcOf ((fcs g k).flatten ++ [a])).length ≤ 802 := by rw [abc_len]; omega
      have lz13 : zss.flatten.length ≤ 802 := by rw [z3', List.length_map]; exact la13
      refine ⟨by show 0 ≤ sizeLine; decide, fun e14a n14 => ?_⟩
      generalize hq14 : upd H13 e14a _ = H14
      obtain ⟨e14, h14⟩ := gen1 hq14 n14
      refine ⟨D13, e14a, as2, zss, rfl, sq_of (e14 _ _ hD13'), h14, z2'.ex e14, Nat.le_trans lz13 (by decide), fun p15 H15 e15 h15 => ?_⟩
      rw [z3'] at h15
      refine ⟨p15, _, rfl, sq_of h15, by omega, fun sb sm c3 c4 nsb => ?_⟩
      generalize hq16 : upd H15 sb _ = H16
      obtain ⟨e16', h16⟩ := gen1 hq16 nsb
      refine ⟨sb, sm, rfl, h16, by omega, fun p17 ts so2 yl2 np17 => ?_⟩
      have st : Srt (thsOf g k a) ts := ⟨so2.so, so2.nd, fun z => (so2.me z).trans (c4 z)⟩
      generalize hq17 : upd H16 p17 _ = H17
      obtain ⟨e17', h17⟩ := gen1 hq17 np17
      refine q H17 p17 _ (e16.trans (((e13.trans e14).trans (e15.trans e16')).trans e17')) h17 ?_
      show DaAll H17 _ ((srtL (thsOf g k a)).map .str)
      rw [← srt_eq st]
      exact strs_da _
    rw [decide_eq_false k6]
    refine iteF ?_
    refine ⟨_, rfl, .inl ⟨rfl, _, rfl, ?_⟩⟩
    rw [show decide (V.int (kind : Int) = V.int 6) = decide (kind = 6) from int_eq kind 6]
    by_cases k7 : kind = 6
    · rw [decide_eq_true k7]
      subst k7
      refine iteT ?_
      have gr2 : ∀ r ∈ g, r.2.length ≤ 2 := fun r hr => (ok.gn r hr).2.2.1
      have kr2 : ∀ r ∈ k, r.2.length ≤ 2 := fun r hr => (ok.bn r hr).2.2.1
      refine .inl ⟨_, rfl, "goal", pg, ug, g, rfl, e16 _ _ hpg, hAg.tex (TEx.of e16), gr2, b1, fun H19 l19 ys19 e19 h19 hy19 => ?_⟩
      have l19' := hy19.len
      rw [List.length_zipIdx] at l19'
      refine ⟨l19, rfl, ⟨_, sq_of h19⟩, ?_⟩
      refine lcG (walk_list (xs := ys19)) (by omega) (sq_of h19) (fun _ _ e h => ex_l e h) yAt_ex (fun i zs H' => AllG (fun v (x : Rw × Nat) => OwAt H' "goal" v x.2 x.1.2.length) zs (g.zipIdx.take i)) (fun _ _ _ _ t h => h.mono fun _ _ z => z.tx t) .nil ?_ ?_
      · rintro i x H20 H21 zs hi e20 ⟨rfl, hx⟩ hz N N0 kN kN0
        obtain ⟨x2, hx2, t, vf, vo, rfl, ht, hf, ho⟩ := (hy19.mono fun _ _ z => z.tx (TEx.of e20)).at hx
        refine ⟨rfl, ?_⟩
        refine ⟨_, rfl, .inr (.inl ⟨t, _, 2, _, rfl, rfl, st_of ht, atI_nat (j := 2) rfl, kN _ _ (Ex.refl _) ?_⟩)⟩
        rw [tk hx2]
        exact .snoc ho hz
      rintro p20 H20 zs20 hp20 e20 h20 _ hz20
      rw [l19', List.take_of_length_le (by rw [List.length_zipIdx]; exact Nat.le_refl _)] at hz20
      have e620 := e19.trans e20
      refine .inl ⟨_, rfl, "book", pk, uk, k, rfl, (e16.trans e620) _ _ hpk, hAk.tex (TEx.of (e16.trans e620)), kr2, b2, fun H21 l21 ys21 e21 h21 hy21 => ?_⟩
      have l21' := hy21.len
      rw [List.length_zipIdx] at l21'
      refine ⟨l21, rfl, ⟨_, sq_of h21⟩, ?_⟩
      refine lcG (walk_list (xs := ys21)) (by omega) (sq_of h21) (fun _ _ e h => ex_l e h) yAt_ex (fun i zs H' => AllG (fun v (x : Rw × Nat) => OwAt H' "book" v x.2 x.1.2.length) zs (k.zipIdx.take i)) (fun _ _ _ _ t h => h.mono fun _ _ z => z.tx t) .nil ?_ ?_
      · rintro i x H22 H23 zs hi e22 ⟨rfl, hx⟩ hz N N0 kN kN0
        obtain ⟨x2, hx2, t, vf, vo, rfl, ht, hf, ho⟩ := (hy21.mono fun _ _ z => z.tx (TEx.of e22)).at hx
        refine ⟨rfl, ?_⟩
        refine ⟨_, rfl, .inr (.inl ⟨t, _, 2, _, rfl, rfl, st_of ht, atI_nat (j := 2) rfl, kN _ _ (Ex.refl _) ?_⟩)⟩
        rw [tk hx2]
        exact .snoc ho hz
      rintro p22 H22 zs22 hp22 e22 h22 _ hz22
      rw [l21', List.take_of_length_le (by rw [List.length_zipIdx]; exact Nat.le_refl _)] at hz22
      refine ⟨by show 2 ≤ sizeLine; decide, fun t23 n23 => ?_⟩
      generalize hq23 : upd H22 t23 _ = H23
      obtain ⟨e23, h23⟩ := gen1 hq23 n23
      have e2022 := e21.trans e22
      have e2023 := e2022.trans e23
      refine q H23 t23 _ (e16.trans ((e620.trans e2022).trans e23)) h23 (.cons (.lst (e2023 _ _ h20) ((hz20.mono fun _ _ z => z.tx (TEx.of e2023)).da fun v x z => z.da)) (.cons (.lst (e23 _ _ h22) ((hz22.mono fun _ _ z => z.tx (TEx.of e23)).da fun v x z => z.da)) .nil))
    rw [decide_eq_false k7]
    have k8 : kind = 7 := by omega
    subst k8
    refine iteF ?_
    refine ⟨_, rfl, _, rfl, by show 2 ≤ sizeLine; decide, fun l7 n7 => ?_⟩
    generalize hq7 : upd H6 l7 _ = H7
    obtain ⟨e7, h7⟩ := gen1 hq7 n7
    exact q H7 l7 _ (e16.trans e7) h7 (.cons (.lst (e7 _ _ hg6) (DaAll.ex e7 _ gd)) (.cons (.lst (e7 _ _ hk6) (DaAll.ex e7 _ kd)) .nil))
end
end Own

namespace Own
open PySem PySem.Spec PyProof.Rows L2 Evl
theorem okN_toldK {g k : List Rw} {a : A3} (ok : SOk g k a) (hg : g.length ≤ 60) (hk : k.length ≤ 60) (kind : Nat) (h8 : kind < 8) : okN 5 5545483 (.list (toldK kind g k a)) := by
  have hgk : ∀ r ∈ g ++ k, nR r := fun r hr => by
    rcases List.mem_append.mp hr with h | h
    · exact ok.gn r h
    · exact ok.bn r h
  have lgk : (g ++ k).length ≤ 120 := by rw [List.length_append]; omega
  have rows : ∀ {rs : List Rw}, (∀ r ∈ rs, nR r) → rs.length ≤ 60 → okN 4 693183 (.list (rs.map rwD)) := fun hr hl => (okN_list (n := 3) (W := 1200) (m := 60) (fun d hd => by
    obtain ⟨r, h, rfl⟩ := List.mem_map.mp hd
    exact okN_row (hr r h)) (by rw [List.length_map]; exact hl)).mono (by decide) (by decide)
  have nms : okN 5 5545483 (.list ((srtL (namesOf g k a)).map .str)) := by
    refine (okN_nms (m := 120) (fun z hz => ?_) ?_).mono (by decide) (by decide)
    · obtain ⟨r, hr, rfl⟩ := List.mem_map.mp hz
      exact (hgk r hr).1
    · unfold namesOf
      rw [List.length_map]
      exact lgk
  have ths : okN 5 5545483 (.list ((srtL (thsOf g k a)).map .str)) := by
    refine (okN_nms (m := 500) (fun z hz => ?_) ?_).mono (by decide) (by decide)
    · unfold thsOf abcOf at hz
      obtain ⟨b, hb, hz⟩ := List.mem_flatMap.mp hz
      have nb : nA b := by
        rcases List.mem_append.mp hb with hb | hb
        · obtain ⟨f, hf, hb⟩ := List.mem_flatten.mp hb
          obtain ⟨r, hr, rfl⟩ := List.mem_map.mp hf
          exact (hgk r hr).2.2.2 b hb
        · rw [List.mem_singleton.mp hb]
          exact ok.an
      simp only [List.mem_cons, List.not_mem_nil, or_false] at hz
      rcases hz with rfl | rfl
      · exact nb.2.1
      · exact nb.2.2
    · unfold thsOf
      rw [abc_len, List.length_append]
      have z := fl_len (n := 2) (fs := fcs g k) fun f hf => by
        obtain ⟨r, hr, rfl⟩ := List.mem_map.mp hf
        exact (hgk r hr).2.2.1
      rw [fcs_len] at z
      show 2 * (_ + 1) ≤ 500
      omega
  have both : ∀ {x y : PyData}, okN 4 693183 x → okN 4 693183 y → okN 5 5545483 (.list [x, y]) := fun hx hy => (okN_list (n := 4) (W := 693183) (m := 2) (fun d hd => by
    simp only [List.mem_cons, List.not_mem_nil, or_false] at hd
    rcases hd with rfl | rfl
    · exact hx
    · exact hy) (Nat.le_refl _)).mono (by decide) (by decide)
  match kind, h8 with
  | 0, _ => exact (rows ok.gn hg).mono (by decide) (by decide)
  | 1, _ => exact (rows ok.bn hk).mono (by decide) (by decide)
  | 2, _ => exact both (rows ok.gn hg) (rows ok.bn hk)
  | 3, _ => exact both ((okN_atom ok.an).mono (by decide) (by decide)) ((okN_nat (by omega)).mono (by decide) (by decide))
  | 4, _ => exact nms
  | 5, _ => exact ths
  | 6, _ => exact both ((okN_owns (by decide +kernel) (by decide +kernel) ok.gn hg).mono (by decide) (Nat.le_refl _)) ((okN_owns (by decide +kernel) (by decide +kernel) ok.bn hk).mono (by decide) (Nat.le_refl _))
  | 7, _ => exact both (rows ok.gn hg) (rows ok.bn hk)
abbrev s_l_alike : Stmt := top 25
theorem sc_l_alike : FnScope ["_law_found", "_law_due_here"] ["_law_found", "_law_due_here"] (defScope s_l_alike) := ⟨rfl, rfl, rfl, by decide +kernel, rfl, by decide +kernel, by decide +kernel⟩
/-- two things that are alike -/
def AlkP (H : Hp) (x y : V) : Prop := ∃ d, Da H x d ∧ Da H y d ∧ okD 40 16000000 d ∧ (d.canLay0 = true ∨ ∃ (t t' : Addr) (xs : List V), x = .ref t ∧ y = .ref t' ∧ H t = some (.tup xs) ∧ H t' = some (.tup xs) ∧ xs.all plV = true)
section
variable {P : Program} {w : World} {K : PySem.W.Frag} {mg : Str → Option Value} {base : Heap}
def spAlk : Sp := fun vs H Q _ => ∃ x y, vs = [x, y] ∧ AlkP H x y ∧ Q (.bl true) H
theorem ok_alk (T : Txt0 mg) (hsys : SysAt base) (D : Df K mg "_law_alike" s_l_alike) : CalG P w K mg base 1 "_law_alike" spAlk := by
  refine cal_mk D sc_l_alike (fun _ _ _ _ _ _ us hl => match us, hl with | [_, _], _ => rfl) (fun vs H Q E h => ?_) (fun f cdv A outer s H vs Q E hr hG h => ?_)
  · obtain ⟨x, y, rfl, _⟩ := h
    rfl
  · obtain ⟨x, y, rfl, ⟨d, h1, h2, ok, hc⟩, q⟩ := h
    refine ⟨_, (pss_one (ps_ret (pe_and (pe_cmpR (opEqX hr) (pv 0) (pv 1) (nomark _)) (pe_one (pe_cmpR (opEq hr) (pe_callB (callReprX hsys hG hr) (by rfl) T.repr (by decide +kernel) (pa_cons (pv 0) pa_nil)) (pe_callB (callReprX hsys hG hr) (by rfl) T.repr (by decide +kernel) (pa_cons (pv 1) pa_nil)) (nomark _)))))), ?_⟩
    refine ⟨_, rfl, _, rfl, ?_⟩
    rcases hc with hc | ⟨t, t', xs, rfl, rfl, z1, z2, hp⟩
    · have shp : SeqAt.shaped d = true := by
        unfold SeqAt.shaped
        rw [hc, Bool.true_and]
        exact decide_eq_true (Nat.le_trans ok.2.1 (by decide))
      refine .inl (.inr ⟨d, d, Da.dp d hc h1, Da.dp d hc h2, shp, shp, ?_⟩)
      rw [PySem.SeqAt.eqv_refl d hc]
      refine ⟨true, rfl, iteT ?_⟩
      refine ⟨_, rfl, x, d, rfl, h1, ok, ?_⟩
      refine ⟨_, rfl, y, d, rfl, h2, ok, ?_⟩
      refine .inl ⟨rfl, ?_⟩
      rw [decide_eq_true rfl]
      exact q
    · refine .inr ⟨t, t', xs, rfl, rfl, st_of z1, st_of z2, hp, ?_⟩
      refine ⟨true, rfl, iteT ?_⟩
      refine ⟨_, rfl, .ref t, d, rfl, h1, ok, ?_⟩
      refine ⟨_, rfl, .ref t', d, rfl, h2, ok, ?_⟩
      refine .inl ⟨rfl, ?_⟩
      rw [decide_eq_true rfl]
      exact q
end
abbrev s_l_right : Stmt := top 37
theorem sc_l_right : FnScope ["_law_bag_here", "_law_start", "_law_board", "_law_shelf", "_law_aim", "_law_kind", "_law_found", "_law_some_here"] ["_law_bag_here", "_law_start", "_law_board", "_law_shelf", "_law_aim"] (defScope s_l_right) := ⟨rfl, rfl, rfl, by decide +kernel, rfl, by decide +kernel, by decide +kernel⟩
theorem rg8 : RgOk 0 8 := ⟨by decide, by decide, by decide⟩
section
variable {P : Program} {w : World} {K : PySem.W.Frag} {mg : Str → Option Value} {base : Heap} {rel : Addr}
def spRight (C : Addr) : Sp := fun vs H Q _ => ∃ (b : Addr) (v : V) (pg pk : Addr) (va : V) (ug uk : List V) (g k : List Rw) (a : A3), vs = [.ref b, v, .ref pg, .ref pk, va] ∧ BagAt H b ∧ StartAt C H v g k a ∧ SOk g k a ∧ g.length ≤ 60 ∧ k.length ≤ 60 ∧ H pg = some (.lst ug) ∧ AllRw H ug g ∧ H pk = some (.lst uk) ∧ AllRw H uk k ∧ AtomAt H va a ∧
  ∀ H', Ex H H' → Q (.bl true) H'
theorem ok_right {C : Addr} (T : Txt0 mg) (c_l_take : CalG P w K mg base 1 "_law_take" spTake) (c_l_told : CalG P w K mg base 5 "_law_told" (spToldK C)) (c_l_due : CalG P w K mg base 2 "_law_due" spDueK) (c_l_alike : CalG P w K mg base 1 "_law_alike" spAlk) (D : Df K mg "_law_right" s_l_right) : CalG P w K mg base 6 "_law_right" (spRight C) := by
  refine cal_mk D sc_l_right (fun _ _ _ _ _ _ us hl => match us, hl with | [_, _, _, _, _], _ => rfl) (fun vs H Q E h => ?_) (fun f cdv A outer s H vs Q E hr hG h => ?_)
  · obtain ⟨b, v, pg, pk, va, ug, uk, g, k, a, rfl, _⟩ := h
    rfl
  · obtain ⟨b, v, pg, pk, va, ug, uk, g, k, a, rfl, hb, hst, ok, lg, lk, hpg, hAg, hpk, hAk, ha, q⟩ := h
    refine ⟨_, (pss_cons (ps_forO (ps_for PassesOwn.never rfl (piAny (pe_op opAdd (pe_op opAdd (pe_lst (pa_cons (pe_cG c_l_take hr hG (by decide) rfl (pa_cons (pv 0) (pa_cons pe_int pa_nil))) pa_nil)) (pe_listRg rfl (by rfl) T.list (prg_1 (by rfl) T.range pe_int))) (pe_listRg rfl (by rfl) T.list (prg_1 (by rfl) T.range pe_int)))) (pg_name (i := 5) sc_l_right.nd rfl (Or.inl rfl))
        (pss_cons (ps_set (i := 6) sc_l_right.nd rfl (Or.inl rfl) (pe_cG c_l_told hr hG (by decide) rfl (pa_cons (pv 5) (pa_cons (pv 1) pa_nil))))
      (pss_cons (ps_if (pt_not (pt_val (pe_cG c_l_alike hr hG (by decide) rfl (pa_cons (pv 6) (pa_cons (pe_cG c_l_due hr hG (by decide) rfl (pa_cons (pv 5) (pa_cons (pv 2) (pa_cons (pv 3) (pa_cons (pv 4) pa_nil))))) pa_nil))))) (pss_one (ps_ret pe_bl)) pss_nil)
      (pss_cons (ps_forO (ps_for PassesOwn.never rfl (piAny (pe_op opMul (pv 6) (pe_callTy call_int1 (by rfl) T.int (by decide +kernel) (pa_cons (pe_cmpR opIn (pv 5) (pe_tup (pa_cons pe_int (pa_cons pe_int pa_nil))) rfl) pa_nil)))) (pg_name (i := 7) sc_l_right.nd rfl (Or.inl rfl))
        (pss_cons (ps_expr (pe_bm PySem.F.plainAttrs_list PySem.F.slot_list_append PySem.F.type_list_append mt_append (pv 7) (pa_cons pe_non pa_nil)))
      (pss_one (ps_expr (pe_bm0 PySem.F.plainAttrs_list PySem.F.slot_list_reverse PySem.F.type_list_reverse mt_reverse (pv 7)))))))
      (pss_one (ps_if (pt_cmpR (opNe hr) (pv 5) pe_int (nomark _)) (pss_cons (ps_expr (pe_bm PySem.F.plainAttrs_list PySem.F.slot_list_append PySem.F.type_list_append mt_append (pv 6) (pa_cons pe_non pa_nil)))
      (pss_one (ps_expr (pe_bm0 PySem.F.plainAttrs_list PySem.F.slot_list_reverse PySem.F.type_list_reverse mt_reverse (pv 6))))) pss_nil)))))))
      (pss_one (ps_ret pe_bl))), ?_⟩
    refine .inl ⟨_, rfl, b, 8, rfl, hb, by decide, by decide, fun H1 r r0 r1 e1 => ⟨by show 1 ≤ sizeLine; decide, fun l2 n2 => ?_⟩⟩
    generalize hq2 : upd H1 l2 _ = H2
    obtain ⟨e2, h2⟩ := gen1 hq2 n2
    refine ⟨8, rfl, rg8, fun l3 n3 => ?_⟩
    generalize hq3 : upd H2 l3 _ = H3
    obtain ⟨e3, h3⟩ := gen1 hq3 n3
    refine .inr (.inr (.inl ⟨l2, l3, _, _, rfl, rfl, e3 _ _ h2, h3, Nat.le_trans (Nat.le_of_eq (by rfl : _ = 9)) (by decide), fun l4 n4 => ?_⟩))
    generalize hq4 : upd H3 l4 _ = H4
    obtain ⟨e4, h4⟩ := gen1 hq4 n4
    refine ⟨8, rfl, rg8, fun l5 n5 => ?_⟩
    generalize hq5 : upd H4 l5 _ = H5
    obtain ⟨e5, h5⟩ := gen1 hq5 n5
    refine .inr (.inr (.inl ⟨l4, l5, _, _, rfl, rfl, e5 _ _ h4, h5, Nat.le_trans (Nat.le_of_eq (by rfl : _ = 17)) (by decide), fun l6 n6 => ?_⟩))
    generalize hq6 : upd H5 l6 _ = H6
    obtain ⟨e6, h6⟩ := gen1 hq6 n6
    have e16 := (((e1.trans e2).trans (e3.trans e4)).trans e5).trans e6
    obtain ⟨ks, hks, hk8⟩ : ∃ ks : List Nat, [V.int r] ++ rgV 0 8 ++ rgV 0 8 = ks.map (fun (n : Nat) => V.int (n : Int)) ∧ ∀ n ∈ ks, n < 8 := by
      obtain ⟨n, rfl⟩ : ∃ n : Nat, r = (n : Int) := ⟨r.toNat, by omega⟩
      refine ⟨[n] ++ List.range 8 ++ List.range 8, ?_, fun m hm => ?_⟩
      · rw [List.map_append, List.map_append]
        rfl
      · simp only [List.mem_append, List.mem_singleton, List.mem_range] at hm
        omega
    rw [hks] at h6
    refine ⟨l6, rfl, ⟨_, sq_of h6⟩, ?_⟩
    refine frG (walk_list (xs := ks.map (fun (n : Nat) => V.int (n : Int)))) (fun i σ H' => ∃ x5 x6 x7 : Option V, σ = [some (.ref b), some v, some (.ref pg), some (.ref pk), some va, x5, x6, x7] ∧ Ex H6 H') ⟨_, _, _, rfl, Ex.refl _⟩ (fun _ _ _ _ ⟨_, _, _, _, e⟩ => sq_of (e _ _ h6)) ?_ ?_
    · rintro i x σ H7 H8 hi ⟨x5, x6, x7, rfl, e7⟩ ⟨rfl, hx⟩
      obtain ⟨kind, hkx, rfl⟩ : ∃ n, ks[i]? = some n ∧ x = .int (n : Int) := by
        rw [List.getElem?_map] at hx
        cases e : ks[i]? with
        | none => rw [e] at hx; cases hx
        | some n => rw [e] at hx; exact ⟨n, rfl, (Option.some.inj hx).symm⟩
      have h8 := hk8 kind (List.mem_of_getElem? hkx)
      have e18 := e16.trans e7
      refine ⟨_, rfl, _, rfl, kind, v, g, k, a, rfl, h8, hst.ex e18, ok, fun H9 p9 us9 qs e9 n9 h9 l9 hd9 hqs => ?_⟩
      have e19 := e18.trans e9
      refine ⟨_, rfl, _, rfl, _, rfl, _, rfl, _, rfl, kind, pg, pk, va, ug, uk, g, k, a, rfl, h8, e19 _ _ hpg, hAg.tex (TEx.of e19), e19 _ _ hpk, hAk.tex (TEx.of e19), ha.ex e19, ok, fun H10 p10 us10 e10 h10 hd10 => ?_⟩
      have z := okN_toldK ok lg lk kind h8
      refine ⟨.ref p9, .ref p10, rfl, ⟨_, .lst (e10 _ _ h9) (DaAll.ex e10 _ hd9), .lst h10 hd10, z.1.mono (by decide) (by decide), .inl z.2⟩, _, rfl, iteF ?_⟩
      have h9' := e10 _ _ h9
      have e810 := e9.trans e10
      refine .inl ⟨_, rfl, _, rfl, by show 2 ≤ sizeLine; decide, fun t11 n11 => ?_⟩
      generalize hq11 : upd H10 t11 _ = H11
      obtain ⟨e11, h11⟩ := gen1 hq11 n11
      refine .inl ⟨t11, _, rfl, .inr (st_of h11), rfl, rfl, ?_⟩
      have hin : (if false = true then !inV (V.int (kind : Int)) [V.int 2, V.int 6] else inV (V.int (kind : Int)) [V.int 2, V.int 6]) = decide (kind = 2 ∨ kind = 6) := by
        match kind, h8 with
        | 0, _ => decide +kernel
        | 1, _ => decide +kernel
        | 2, _ => decide +kernel
        | 3, _ => decide +kernel
        | 4, _ => decide +kernel
        | 5, _ => decide +kernel
        | 6, _ => decide +kernel
        | 7, _ => decide +kernel
      rw [hin]
      refine .inr ⟨_, rfl, ?_⟩
      obtain ⟨m, hm, m1, m2⟩ : ∃ m : Nat, (if decide (kind = 2 ∨ kind = 6) = true then (1 : Int) else 0) = (m : Int) ∧ m ≤ 1 ∧ (m = 1 → kind = 2 ∨ kind = 6) := by
        by_cases hk : kind = 2 ∨ kind = 6
        · rw [decide_eq_true hk]
          exact ⟨1, rfl, Nat.le_refl _, fun _ => hk⟩
        · rw [decide_eq_false hk]
          exact ⟨0, rfl, Nat.zero_le _, fun h => by cases h⟩
      rw [hm]
      refine .inr ⟨p9, (m : Int), us9, rfl, rfl, e11 _ _ h9', by omega, by omega, ?_, fun l12 n12 => ⟨l12, rfl, ⟨_, sq_of upd_same⟩, ?_⟩⟩
      · show us9.length * m ≤ _
        have : us9.length * m ≤ us9.length * 1 := Nat.mul_le_mul_left _ m1
        exact Nat.le_trans (show us9.length * m ≤ 1000 by omega) (by decide)
      generalize hq12 : upd H11 l12 _ = H12
      obtain ⟨e12, h12⟩ := gen1 hq12 n12
      have e812 := (e810.trans e11).trans e12
      obtain ⟨qs', hqs', hq8⟩ : ∃ qs' : List Addr, (List.replicate (m : Int).toNat us9).flatten = qs'.map V.ref ∧ ∀ q ∈ qs', q ≠ p9 ∧ H8 q = none ∧ ∃ zs, H11 q = some (.lst zs) ∧ zs.length ≤ 1000 := by
        have hmm : m = 0 ∨ m = 1 := by omega
        rcases hmm with rfl | rfl
        · exact ⟨[], rfl, fun q hq => by cases hq⟩
        · obtain ⟨y1, y2⟩ := hqs (m2 rfl)
          refine ⟨qs, ?_, fun q hq => ?_⟩
          · rw [← y1]
            show us9 ++ [] = us9
            rw [List.append_nil]
          · obtain ⟨w1, w2, zs, w3, w4⟩ := y2 q hq
            exact ⟨w1, w2, zs, (e10.trans e11) _ _ w3, w4⟩
      have lq : qs'.length ≤ 1000 := by
        have := congrArg List.length hqs'
        rw [List.length_map] at this
        rw [← this]
        have hmm : m = 0 ∨ m = 1 := by omega
        rcases hmm with rfl | rfl
        · exact Nat.zero_le _
        · show (us9 ++ []).length ≤ _
          rw [List.append_nil]
          exact l9
      rw [hqs'] at h12
      have nl : ∀ q ∈ qs', q ≠ l12 := fun q hq e => by
        obtain ⟨_, _, zs, w3, _⟩ := hq8 q hq
        rw [e, n12] at w3
        cases w3
      have np9 : p9 ≠ l12 := fun e => by
        have := e11 _ _ h9'
        rw [e, n12] at this
        cases this
      refine frG (walk_list (xs := qs'.map V.ref)) (fun i σ H' => ∃ x7 : Option V, σ = [some (.ref b), some v, some (.ref pg), some (.ref pk), some va, some (.int (kind : Int)), some (.ref p9), x7] ∧ Ex H8 H' ∧ H' l12 = some (.lst (qs'.map V.ref)) ∧ H' p9 = some (.lst us9) ∧ ∀ q ∈ qs', ∃ zs, H' q = some (.lst zs) ∧ zs.length ≤ 1000 + i)
        ⟨_, rfl, e812, h12, (e11.trans e12) _ _ h9', fun q hq => (hq8 q hq).2.2.elim fun zs w => ⟨zs, e12 _ _ w.1, by have := w.2; omega⟩⟩ (fun _ _ _ _ ⟨_, _, _, e, _⟩ => sq_of e) ?_ ?_
      · rintro i2 x σ H13 H14 hi2 ⟨x7', rfl, e13, hl13, hp13, hz13⟩ ⟨rfl, hx2⟩
        obtain ⟨q1, hq1, rfl⟩ : ∃ q1, qs'[i2]? = some q1 ∧ x = .ref q1 := by
          rw [List.getElem?_map] at hx2
          cases e : qs'[i2]? with
          | none => rw [e] at hx2; cases hx2
          | some n => rw [e] at hx2; exact ⟨n, rfl, (Option.some.inj hx2).symm⟩
        have hm := List.mem_of_getElem? hq1
        obtain ⟨m1, m2, _⟩ := hq8 q1 hm
        obtain ⟨zs, hzs, lzs⟩ := hz13 q1 hm
        have li : i2 < qs'.length := by rw [List.length_map] at hi2; exact hi2
        refine ⟨_, rfl, .inl ⟨rfl, _, sq_of hzs⟩, q1, zs, _, rfl, rfl, hzs, sz_lt (by omega), ?_⟩
        refine ⟨_, rfl, .inl ⟨rfl, _, sq_of upd_same⟩, q1, _, rfl, rfl, upd_same, ?_⟩
        have eM := Ex.mut (o := .lst (zs ++ [V.non]).reverse) (Ex.mut (o := .lst (zs ++ [V.non])) e13 m2) m2
        have ne2 : ∀ c, c ≠ q1 → upd (upd H14 q1 (.lst (zs ++ [V.non]))) q1 (.lst (zs ++ [V.non]).reverse) c = H14 c := fun c hc => by rw [upd_ne hc, upd_ne hc]
        refine ⟨_, rfl, eM, by rw [ne2 _ (Ne.symm (nl q1 hm))]; exact hl13, by rw [ne2 _ (Ne.symm m1)]; exact hp13, fun q hq => ?_⟩
        by_cases eq : q = q1
        · subst eq
          exact ⟨_, upd_same, by rw [List.length_reverse, List.length_append]; show zs.length + 1 ≤ _; omega⟩
        · obtain ⟨zs2, w1, w2⟩ := hz13 q hq
          exact ⟨zs2, by rw [ne2 _ eq]; exact w1, by omega⟩
      · rintro σ H13 ⟨x7', rfl, e13, hl13, hp13, _⟩
        refine ⟨_, rfl, .inl ⟨rfl, _, rfl, ?_⟩⟩
        refine ite2 (fun _ => ?_) (fun _ => ⟨_, _, _, rfl, e7.trans e13⟩)
        refine ⟨_, rfl, .inl ⟨rfl, _, sq_of hp13⟩, p9, us9, _, rfl, rfl, hp13, sz_lt (by omega), ?_⟩
        refine ⟨_, rfl, .inl ⟨rfl, _, sq_of upd_same⟩, p9, _, rfl, rfl, upd_same, ?_⟩
        exact ⟨_, _, _, rfl, e7.trans (Ex.mut (Ex.mut e13 n9) n9)⟩
    · rintro σ H7 ⟨x5, x6, x7, rfl, e7⟩
      exact q _ (e16.trans e7)
end
end Own

namespace Own
open PySem PySem.Spec PyProof.Rows L2 Evl
abbrev s_Start___contains__ : Stmt := inClass (top 21) 3
theorem sc_Start___contains__ : FnScope ["self", "x"] ["self", "x"] (defScope s_Start___contains__) := ⟨rfl, rfl, rfl, by decide +kernel, rfl, by decide +kernel, by decide +kernel⟩
theorem opInD {X : Cx} {k : Nat} (hr : Room k X.A) : OpR X (compareOp .In) (rInD X.K) := op_inD (by have := hr.un; omega)
def rInX (K : PySem.W.Frag) : R2 := fun x y H Z => rInD K x y H Z ∨ rInN K x y H Z
theorem opInX {X : Cx} {k : Nat} (hr : Room k X.A) : OpR X (compareOp .In) (rInX X.K) := OpR.or (opInD hr) (op_inN hr.units)
theorem opInXB {X : Cx} {s : Shared} {H : Hp} {sc : Scope} {ce : Env} {fp : List Addr} {k : Nat} (hr : Room k X.A) : OpR (X.blk s H sc ce fp) (compareOp .In) (rInX X.K) := opInX (X := X.blk s H sc ce fp) hr
theorem op_inOB {X : Cx} {s : Shared} {H : Hp} {sc : Scope} {ce : Env} {fp : List Addr} {k j : Nat} {C : Addr} {sp : Sp} (c : MetG X.prog X.w X.K X.mg X.base k C "__contains__" sp) (hr : Room j X.A) (hg0 : X.A.guards = some []) (hkp : k ≤ j) : OpR (X.blk s H sc ce fp) (compareOp .In) (rInO X.K C sp) := op_inO (X := X.blk s H sc ce fp) c hr hg0 hkp
theorem eqv_str {a : Str} {d : PyData} (h : PyData.eqv (.str a) d = true) : d = .str a := by
  cases d with
  | str b =>
    have h : (a == b) = true := h
    rw [eq_of_beq h]
  | _ => cases h
theorem eqv_tup {xs : List PyData} {d : PyData} (h : PyData.eqv (.tuple xs) d = true) : ∃ ds, d = .tuple ds ∧ PyData.eqvAll xs ds = true := by
  cases d with
  | tuple ds => exact ⟨ds, rfl, h⟩
  | _ => cases h
theorem eqvAll_map {α : Type} {f : α → PyData} (hf : ∀ x d, PyData.eqv (f x) d = true → d = f x) : ∀ (xs : List α) (ds : List PyData), PyData.eqvAll (xs.map f) ds = true → ds = xs.map f
  | [], [], _ => rfl
  | [], _ :: _, h => by cases h
  | _ :: _, [], h => by cases h
  | x :: xs, d :: ds, h => by
    have h : (PyData.eqv (f x) d && PyData.eqvAll (xs.map f) ds) = true := h
    rw [Bool.and_eq_true] at h
    rw [List.map_cons, hf x d h.1, eqvAll_map hf xs ds h.2]
theorem eqv_atD (a : A3) (d : PyData) (h : PyData.eqv (atD a) d = true) : d = atD a := by
  obtain ⟨ds, rfl, h⟩ := eqv_tup (xs := (sl3 a).map PyData.str) h
  rw [eqvAll_map (fun x d h => eqv_str h) (sl3 a) ds h]
  rfl
theorem eqv_faD (as : List A3) (d : PyData) (h : PyData.eqv (faD as) d = true) : d = faD as := by
  obtain ⟨ds, rfl, h⟩ := eqv_tup (xs := as.map atD) h
  rw [eqvAll_map eqv_atD as ds h]
  rfl
theorem eqv_rwD (r : Rw) (d : PyData) (h : PyData.eqv (rwD r) d = true) : d = rwD r := by
  obtain ⟨ds, rfl, h⟩ := eqv_tup (xs := [.str r.1, faD r.2]) h
  match ds, h with
  | [x, y], h =>
    have h : (PyData.eqv (.str r.1) x && (PyData.eqv (faD r.2) y && true)) = true := h
    rw [Bool.and_eq_true, Bool.and_eq_true] at h
    rw [eqv_str h.1, eqv_faD _ _ h.2.1]
    rfl
  | [], h => cases h
  | [x], h =>
    have h : (PyData.eqv (.str r.1) x && false) = true := h
    rw [Bool.and_false] at h
    cases h
  | x :: y :: _ :: _, h =>
    have h : (PyData.eqv (.str r.1) x && (PyData.eqv (faD r.2) y && false)) = true := h
    rw [Bool.and_false, Bool.and_false] at h
    cases h
/-- whether some of the rows is this -/
def inRs (d : PyData) (rs : List Rw) : Bool := (rs.map rwD).any fun z => PyData.eqv z d
theorem inRs_app (d : PyData) (rs qs : List Rw) : inRs d (rs ++ qs) = (inRs d rs || inRs d qs) := by
  unfold inRs
  rw [List.map_append, List.any_append]
theorem inRs_no {d : PyData} {rs : List Rw} (h : rowD d = false) (hn : ∀ r ∈ rs, nR r) : inRs d rs = false := by
  unfold inRs
  rw [List.any_eq_false]
  intro z hz e
  obtain ⟨r, hr, rfl⟩ := List.mem_map.mp hz
  have e2 := eqv_rwD r d (by simpa using e)
  rw [e2, (hn r hr).rowD] at h
  cases h
theorem shpR {rs : List Rw} (hn : ∀ r ∈ rs, nR r) : SeqAt.shaped (.list (rs.map rwD)) = true := by
  have c : PyData.canLayAll0 (rs.map rwD) = true := lay_all fun d hd => by
    obtain ⟨r, hr, rfl⟩ := List.mem_map.mp hd
    exact (okN_row (hn r hr)).2
  show (PyData.canLayAll0 (rs.map rwD) && decide (PyData.depthAll (rs.map rwD) + 1 ≤ 64)) = true
  rw [c, Bool.true_and]
  refine decide_eq_true ?_
  have z : PyData.depthAll (rs.map rwD) ≤ 3 := depthAll_le.mpr fun d hd => by
    obtain ⟨r, hr, rfl⟩ := List.mem_map.mp hd
    exact (okN_row (hn r hr)).1.2.1
  omega
theorem shpD {d : PyData} {n W : Nat} (h : okN n W d) (hn : n ≤ 40) : SeqAt.shaped d = true := by
  unfold SeqAt.shaped
  rw [h.2, Bool.true_and]
  exact decide_eq_true (Nat.le_trans h.1.2.1 (by omega))
section
variable {P : Program} {w : World} {K : PySem.W.Frag} {mg : Str → Option Value} {base : Heap} {rel : Addr}
def spCont (C : Addr) : Sp := fun vs H Q _ => ∃ (v vx : V) (g k : List Rw) (a : A3) (dx : PyData), vs = [v, vx] ∧ StartAt C H v g k a ∧ SOk g k a ∧ Da H vx dx ∧ okD 40 16000000 dx ∧ ∀ H', Ex H H' → Q (.bl (inRs dx (g ++ k))) H'
theorem ok_cont {C fi : Addr} {fdi : FuncData} (S : ClsS K C) (T : Txt0 mg) (c_is_row : CalG P w K mg base 4 "is_row" (spIs rowD)) (F : Fun K "__contains__" "Start.__contains__" s_Start___contains__ fi fdi) : FnG P w K mg base 5 fi fdi ["self", "x"] (spCont C) := by
  refine fn_mkQ F sc_Start___contains__ (fun vs H Q E h => ?_) (fun cdv A outer s H vs Q E hr hG h => ?_)
  · obtain ⟨v, vx, g, k, a, dx, rfl, _⟩ := h
    rfl
  · obtain ⟨_, vx, g, k, a, dx, rfl, ⟨y, d, p, q0, ug, ub, va, rfl, h2, h3, h4, h5, h6, h7⟩, ok, hx, kx, q⟩ := h
    refine ⟨_, (pss_one (ps_ret (pe_and (pe_cG c_is_row hr hG (by decide) rfl (pa_cons (pv 1) pa_nil)) (pe_one (pe_or (pe_cmpR (opInD hr) (pv 1) (pe_fld (pv 0) (by rfl)) rfl) (pe_one (pe_cmpR (opInD hr) (pv 1) (pe_fld (pv 0) (by rfl)) rfl))))))), ?_⟩
    refine ⟨_, rfl, vx, dx, rfl, hx, kx, fun H1 e1 => ⟨_, rfl, ?_⟩⟩
    have hgk : ∀ r ∈ g ++ k, nR r := fun r hr => by
      rcases List.mem_append.mp hr with h | h
      · exact ok.gn r h
      · exact ok.bn r h
    cases hrow : rowD dx with
    | false =>
      refine iteF ?_
      rw [← inRs_no hrow hgk]
      exact q _ e1
    | true =>
      obtain ⟨r, rfl, nr⟩ := rowD_inv hrow
      have hx1 : Dp K H1 vx (rwD r) := (Da.row (Da.ex e1 _ hx)).dp
      have sx := shpD (okN_row nr) (by decide)
      have D1 : Dp K H1 (.ref p) (.list (g.map rwD)) := .lst (sq_of (e1 _ _ h3)) (h4.tex (TEx.of e1)).dp
      have D2 : Dp K H1 (.ref q0) (.list (k.map rwD)) := .lst (sq_of (e1 _ _ h5)) (h6.tex (TEx.of e1)).dp
      refine iteT ⟨_, rfl, _, rfl, y, C, d, _, _, rfl, e1 _ _ h2, S.cl, S.n1, by rfl, ?_⟩
      refine ⟨_, _, hx1, D1, sx, shpR ok.gn, _, rfl, ?_⟩
      rw [inRs_app] at q
      have e2 : ((g.map rwD).any fun z => PyData.eqv z (rwD r)) = inRs (rwD r) g := rfl
      rw [e2]
      cases hi : inRs (rwD r) g with
      | true =>
        rw [hi, Bool.true_or] at q
        exact iteT (q _ e1)
      | false =>
        rw [hi, Bool.false_or] at q
        refine iteF ⟨_, rfl, _, rfl, y, C, d, _, _, rfl, e1 _ _ h2, S.cl, S.n2, by rfl, ?_⟩
        exact ⟨_, _, hx1, D2, sx, shpR ok.bn, q _ e1⟩
end
end Own

namespace Own
open PySem PySem.Spec PyProof.Rows L2 Evl
abbrev s_law : Stmt := top 38
theorem sc_law : FnScope ["_law_script", "_law_bag_here", "_law_starts", "_law_k", "_law_world_here", "_law_board", "_law_shelf", "_law_aim", "_law_handed", "_law_first", "_law_start", "_law_near", "_law_row_here", "_law_thing"] ["_law_script"] (defScope s_law) := ⟨rfl, rfl, rfl, by decide +kernel, rfl, by decide +kernel, by decide +kernel⟩
theorem pe_revTB {X : Cx} {s : Shared} {H : Hp} {sc : Scope} {ce : Env} {fp : List Addr} {e es : Expr} {te ts : TE} {p3 pos : Pos} (he : PE (X.blk s H sc ce fp) e te) (hs : PE (X.blk s H sc ce fp) es ts)
    (hsub : ∀ (a l : Addr), subscripted (.Slice none none (some es) p3) false (.ref a) (.ref l) = operate [.ref a, .ref l] (getItem (.ref a) (.ref l)) := by intro _ _; with_unfolding_all rfl) : PE (X.blk s H sc ce fp) (.Subscript e (.Slice none none (some es) p3) pos) (tRevT X.K te ts) := pe_revT (X := X.blk s H sc ce fp) he hs hsub
theorem cut_upto (xs : List V) (j : Nat) : cutV xs none (some (j : Int)) = xs.take j := by
  unfold cutV
  rw [HT.sIx_nat, HT.sIx_none, List.drop_zero, Nat.sub_zero]
  by_cases h : j ≤ xs.length
  · rw [Nat.min_eq_left h]
  · rw [Nat.min_eq_right (by omega), List.take_of_length_le (Nat.le_refl _), List.take_of_length_le (by omega)]
theorem AllAt.snocX {H : Hp} {v : V} {a : A3} (hv : AtomAt H v a) : ∀ {vs : List V} {as : List A3}, AllAt H vs as → AllAt H (vs ++ [v]) (as ++ [a])
  | [], [], _ => ⟨hv, trivial⟩
  | _ :: _, _ :: _, h => ⟨h.1, AllAt.snocX hv h.2⟩
  | [], _ :: _, h => h.elim
  | _ :: _, [], h => h.elim
theorem AllAt.rev {H : Hp} : ∀ {vs : List V} {as : List A3}, AllAt H vs as → AllAt H vs.reverse as.reverse
  | [], [], _ => trivial
  | _ :: _, _ :: _, h => by
    rw [List.reverse_cons, List.reverse_cons]
    exact AllAt.snocX h.1 (AllAt.rev h.2)
  | [], _ :: _, h => h.elim
  | _ :: _, [], h => h.elim
/-- data that may be asked for -/
def nrD (d : PyData) : Prop := okD 6 5000 d ∧ (d.canLay0 = true ∨ ∃ ks, d = .dict ks)
def NrL (H : Hp) (us : List V) : Prop := ∀ v ∈ us, ∃ d, Da H v d ∧ nrD d
theorem NrL.ex {H H' : Hp} {us : List V} (e : Ex H H') (h : NrL H us) : NrL H' us := fun v hv => by
  obtain ⟨d, h1, h2⟩ := h v hv
  exact ⟨d, Da.ex e d h1, h2⟩
theorem NrL.app {H : Hp} {us ws : List V} (h : NrL H us) (k : NrL H ws) : NrL H (us ++ ws) := fun v hv => (List.mem_append.mp hv).elim (h v) (k v)
theorem NrL.of {H : Hp} {v : V} {us : List V} {d : PyData} (h : Da H v d) (n : nrD d) (k : NrL H us) : NrL H (v :: us) := fun u hu => by
  rcases List.mem_cons.mp hu with rfl | hu
  · exact ⟨d, h, n⟩
  · exact k u hu
theorem NrL.nil {H : Hp} : NrL H [] := fun v hv => by cases hv
theorem NrL.all {H : Hp} : ∀ {us : List V}, NrL H us → ∃ ds, DaAll H us ds ∧ ∀ d ∈ ds, nrD d
  | [], _ => ⟨[], .nil, fun d hd => by cases hd⟩
  | v :: us, h => by
    obtain ⟨d, h1, h2⟩ := h v List.mem_cons_self
    obtain ⟨ds, h3, h4⟩ := NrL.all (us := us) fun u hu => h u (List.mem_cons_of_mem _ hu)
    refine ⟨d :: ds, .cons h1 h3, fun e he => ?_⟩
    rcases List.mem_cons.mp he with rfl | he
    · exact h2
    · exact h4 e he
theorem okN.nr {n W : Nat} {d : PyData} (h : okN n W d) (h1 : n ≤ 6) (h2 : W ≤ 5000) : nrD d := ⟨h.1.mono h1 h2, .inl h.2⟩
theorem rows_nr {H : Hp} : ∀ {us : List V} {rs : List Rw}, AllRw H us rs → (∀ r ∈ rs, nR r) → NrL H us
  | [], [], _, _ => NrL.nil
  | _ :: _, r :: _, h, n => NrL.of h.1.da ((okN_row (n r List.mem_cons_self)).nr (by decide) (by decide)) (rows_nr h.2 fun q hq => n q (List.mem_cons_of_mem _ hq))
  | [], _ :: _, h, _ => h.elim
  | _ :: _, [], h, _ => h.elim
theorem inRs_dict (ks : List (PyData × PyData)) (rs : List Rw) : inRs (.dict ks) rs = false := by
  unfold inRs
  rw [List.any_eq_false]
  intro z hz e
  obtain ⟨r, hr, rfl⟩ := List.mem_map.mp hz
  have e2 := eqv_rwD r _ (by simpa using e)
  cases e2
theorem bools_ok (bs : List Bool) (h : bs.length ≤ 100) : okN 6 5000 (.list (bs.map PyData.bool)) := by
  refine (okN_list (n := 0) (W := 5) (m := 100) (fun d hd => ?_) (by rw [List.length_map]; exact h)).mono (by decide) (by decide)
  obtain ⟨b, hb, rfl⟩ := List.mem_map.mp hd
  cases b <;> exact ⟨⟨rfl, by decide, by decide⟩, rfl⟩
theorem bools_da {H : Hp} : ∀ bs : List Bool, DaAll H (bs.map V.bl) (bs.map PyData.bool)
  | [] => .nil
  | b :: bs => .cons (.bl b) (bools_da bs)
theorem tup_a_nr : nrD (.tuple [.str "a", .tuple []]) := ⟨⟨by decide +kernel, by decide +kernel, by decide +kernel⟩, .inl (by decide +kernel)⟩
/-- a start none of whose lists is at Ls -/
def StL (C Ls : Addr) (H : Hp) (v : V) (gs bs : List Rw) (a : A3) : Prop := ∃ (y d g b : Addr) (ug ub : List V) (va : V), v = .ref y ∧ H y = some (.ins C d [("goal_rows", .ref g), ("book_rows", .ref b), ("aim_atom", va)]) ∧
  H g = some (.lst ug) ∧ AllRw H ug gs ∧ H b = some (.lst ub) ∧ AllRw H ub bs ∧ AtomAt H va a ∧ g ≠ Ls ∧ b ≠ Ls
theorem StL.st {C Ls : Addr} {H : Hp} {v : V} {gs bs : List Rw} {a : A3} (h : StL C Ls H v gs bs a) : StartAt C H v gs bs a := by
  obtain ⟨y, d, g, b, ug, ub, va, h1, h2, h3, h4, h5, h6, h7, _⟩ := h
  exact ⟨y, d, g, b, ug, ub, va, h1, h2, h3, h4, h5, h6, h7⟩
theorem StL.mv {C Ls : Addr} {H H' : Hp} {v : V} {gs bs : List Rw} {a : A3} {z : List V} (hL : H Ls = some (.lst z)) (e : ExB Ls H H') (h : StL C Ls H v gs bs a) : StL C Ls H' v gs bs a := by
  have t : TEx H H' := fun a xs q => e a _ (fun z => by rw [z, hL] at q; cases q) q
  obtain ⟨y, d, g, b, ug, ub, va, h1, h2, h3, h4, h5, h6, h7, n1, n2⟩ := h
  exact ⟨y, d, g, b, ug, ub, va, h1, e _ _ (fun z => by rw [z, hL] at h2; cases h2) h2, e _ _ n1 h3, h4.tex t, e _ _ n2 h5, h6.tex t, h7.tex t, n1, n2⟩
/-- an entry of the law's list: a start and what it was made of -/
structure Ent (C Ls : Addr) (H : Hp) (t : Addr) (vst : V) (pg pk : Addr) (va : V) (ug uk : List V) (g k : List Rw) (a : A3) : Prop where
  ht : H t = some (.tup [vst, .ref pg, .ref pk, va])
  st : StL C Ls H vst g k a
  ok : SOk g k a
  lg : g.length ≤ 6
  lk : k.length ≤ 3
  hg : H pg = some (.lst ug)
  ag : AllRw H ug g
  hk : H pk = some (.lst uk)
  ak : AllRw H uk k
  aim : AtomAt H va a
  ng : pg ≠ Ls
  nk : pk ≠ Ls
theorem Ent.mv {C Ls : Addr} {H H' : Hp} {t : Addr} {vst : V} {pg pk : Addr} {va : V} {ug uk : List V} {g k : List Rw} {a : A3} {z : List V} (hL : H Ls = some (.lst z)) (e : ExB Ls H H') (h : Ent C Ls H t vst pg pk va ug uk g k a) : Ent C Ls H' t vst pg pk va ug uk g k a := by
  have x : TEx H H' := fun a xs q => e a _ (fun z => by rw [z, hL] at q; cases q) q
  exact ⟨x _ _ h.ht, h.st.mv hL e, h.ok, h.lg, h.lk, e _ _ h.ng h.hg, h.ag.tex x, e _ _ h.nk h.hk, h.ak.tex x, h.aim.tex x, h.ng, h.nk⟩
def EntAt (C Ls : Addr) (H : Hp) (v : V) : Prop := ∃ (t : Addr) (vst : V) (pg pk : Addr) (va : V) (ug uk : List V) (g k : List Rw) (a : A3), v = .ref t ∧ Ent C Ls H t vst pg pk va ug uk g k a
theorem EntAt.mv {C Ls : Addr} {H H' : Hp} {v : V} {z : List V} (hL : H Ls = some (.lst z)) (e : ExB Ls H H') (h : EntAt C Ls H v) : EntAt C Ls H' v := by
  obtain ⟨t, vst, pg, pk, va, ug, uk, g, k, a, h1, h2⟩ := h
  exact ⟨t, vst, pg, pk, va, ug, uk, g, k, a, h1, h2.mv hL e⟩
theorem upd3_ne {H : Hp} {a b d c : Addr} {x y z : HO} (h1 : c ≠ a) (h2 : c ≠ b) (h3 : c ≠ d) : upd (upd (upd H a x) b y) d z c = H c := by rw [upd_ne h3, upd_ne h2, upd_ne h1]
section
variable {P : Program} {w : World} {K : PySem.W.Frag} {mg : Str → Option Value} {base : Heap} {rel : Addr}
def spLaw (K : PySem.W.Frag) : Sp := fun vs H Q _ => ∃ (a : Addr) (ns : List Int), vs = [.ref a] ∧ SqL K H a (ns.map V.int) ∧ ns.length ≤ 63 ∧ ∀ H', Q (.bl true) H'
theorem ok_law {C fl : Addr} {fdl : FuncData} (S : ClsS K C) (T : Txt0 mg) (F : Fun K "law" "law" s_law fl fdl) (c_l_bag : CalG P w K mg base 1 "_law_bag" (spBag K)) (c_l_take : CalG P w K mg base 1 "_law_take" spTake) (c_l_world : CalG P w K mg base 3 "_law_world" spWorld)
    (c_l_atom : CalG P w K mg base 3 "_law_atom" spAtom) (c_l_row : CalG P w K mg base 5 "_law_row" spRow) (c_l_rows : CalG P w K mg base 6 "_law_rows" spRows) (c_l_odd : CalG P w K mg base 3 "_law_odd" spOdd) (c_l_right : CalG P w K mg base 6 "_law_right" (spRight C)) (c_l_alike : CalG P w K mg base 1 "_law_alike" spAlk)
    (MK : MakG P w K mg base 6 "Start" C (spInit K C)) (MC : MetG P w K mg base 5 C "__contains__" (spCont C)) : FnG P w K mg base 8 fl fdl ["_law_script"] (spLaw K) := by
  refine fn_mk F sc_law (fun vs H Q E h => ?_) (fun cdv A outer s H vs Q E hr hG h => ?_)
  · obtain ⟨a, ns, rfl, _⟩ := h
    rfl
  · obtain ⟨a0, ms, rfl, ha0, hl, q⟩ := h
    refine ⟨_, (pss_cons (ps_par (i := 1) (j := 2) rfl sc_law.nd rfl rfl (by decide) rfl rfl (pa_cons (pe_cG c_l_bag hr hG (by decide) rfl (pa_cons (pv 0) pa_nil)) (pa_cons (pe_lst pa_nil) pa_nil)) (by first | rfl | with_unfolding_all rfl | kernel_rfl))
      (pss_cons (ps_forO (ps_for PassesOwn.never rfl (pi_range1 rfl T.range (pa_cons pe_int pa_nil)) (pg_name (i := 3) sc_law.nd rfl (Or.inl rfl))
        (pss_cons (ps_set (i := 4) sc_law.nd rfl (Or.inl rfl) (pe_cG c_l_world hr hG (by decide) rfl (pa_cons (pv 1) pa_nil)))
      (pss_cons (ps_asg (pe_tup (pa_cons (pe_cG c_l_rows hr hG (by decide) rfl (pa_cons (pv 1) (pa_cons (pv 4) (pa_cons pe_int pa_nil)))) (pa_cons (pe_cG c_l_rows hr hG (by decide) rfl (pa_cons (pv 1) (pa_cons (pv 4) (pa_cons pe_int pa_nil)))) (pa_cons (pe_cG c_l_atom hr hG (by decide) rfl (pa_cons (pv 1) (pa_cons (pe_dget (hu_of hr) (pv 4) pe_str (fun _ _ => rfl)) pa_nil))) pa_nil)))) (pg_tup rfl (pgs_cons (pg_name (i := 5) sc_law.nd rfl (Or.inr rfl)) (pgs_cons (pg_name (i := 6) sc_law.nd rfl (Or.inr rfl)) (pgs_cons (pg_name (i := 7) sc_law.nd rfl (Or.inl rfl)) pgs_nil)))))
      (pss_cons (ps_set (i := 8) sc_law.nd rfl (Or.inl rfl) (pe_lst (pa_cons (pe_callTy call_list_of (by rfl) T.list (by decide +kernel) (pa_cons (pv 5) pa_nil)) (pa_cons (pe_callTy call_list_of (by rfl) T.list (by decide +kernel) (pa_cons (pv 6) pa_nil)) pa_nil))))
      (Evl.pss_cut (ps_set (i := 9) sc_law.nd rfl (Or.inl rfl) (pe_ifExp (pt_cmpR (opEq hr) (pe_cG c_l_take hr hG (by decide) rfl (pa_cons (pv 1) (pa_cons pe_int pa_nil))) pe_int (nomark _)) (pe_ix ixAny (pv 8) pe_int (fun _ _ => rfl)) (pe_callTy call_tuple_of (by rfl) T.tuple (by decide +kernel) (pa_cons (pv 5) pa_nil))))
      (pss_cons (ps_expr (pe_bm PySem.F.plainAttrs_list PySem.F.slot_list_append PySem.F.type_list_append mt_append (pv 2) (pa_cons (pe_tup (pa_cons (pe_mkG MK hr hG (by decide) rfl (pa_cons (pv 9) (pa_cons (pe_ix ixAny (pv 8) pe_int (fun _ _ => rfl)) (pa_cons (pv 7) pa_nil)))) (pa_cons (pv 5) (pa_cons (pv 6) (pa_cons (pv 7) pa_nil))))) pa_nil)))
      (pss_cons (ps_expr (pe_bm PySem.F.plainAttrs_list PySem.F.slot_list_append PySem.F.type_list_append mt_append (pe_ix ixAny (pv 8) pe_int (fun _ _ => rfl)) (pa_cons pe_non pa_nil)))
      (pss_one (ps_expr (pe_bm0 PySem.F.plainAttrs_list PySem.F.slot_list_clear PySem.F.type_list_clear mt_clear (pe_ix ixAny (pv 8) pe_int (fun _ _ => rfl)))))))))))))
      (pss_cons (ps_forO (ps_for PassesOwn.never rfl (piAny (pe_op opAdd (pv 2) (pe_slice slAny (pv 2) po_none (po_some pe_int)))) (pg_tup rfl (pgs_cons (pg_name (i := 10) sc_law.nd rfl (Or.inr rfl)) (pgs_cons (pg_name (i := 5) sc_law.nd rfl (Or.inr rfl)) (pgs_cons (pg_name (i := 6) sc_law.nd rfl (Or.inr rfl)) (pgs_cons (pg_name (i := 7) sc_law.nd rfl (Or.inl rfl)) pgs_nil)))))
        (pss_cons (ps_if (pt_not (pt_val (pe_cG c_l_right hr hG (by decide) rfl (pa_cons (pv 1) (pa_cons (pv 10) (pa_cons (pv 5) (pa_cons (pv 6) (pa_cons (pv 7) pa_nil)))))))) (pss_one (ps_ret pe_bl)) pss_nil)
      (pss_cons (ps_set (i := 11) sc_law.nd rfl (Or.inl rfl) (pe_op opAdd (pe_lcO (pe_lc (own := [("_law_row_here", 12)]) rfl sc_law.nd (piAny (pe_op opAdd (pv 5) (pv 6))) (blkOk_by (own := [("_law_row_here", 12)]) (N := ["_law_script", "_law_bag_here", "_law_starts", "_law_k", "_law_world_here", "_law_board", "_law_shelf", "_law_aim", "_law_handed", "_law_first", "_law_start", "_law_near", "_law_row_here", "_law_thing"]) (sc := defScope s_law) (by first | decide +kernel | kernel_rfl)) (fun _ _ _ _ _ => pg_name (i := 12) sc_law.nd rfl (Or.inl rfl)) (fun _ _ _ _ _ => pts_nil) (fun _ _ _ _ _ => pv 12))) (pe_lst (pa_cons (pe_cG c_l_row hr hG (by decide) rfl (pa_cons (pv 1) (pa_cons (pe_cG c_l_world hr hG (by decide) rfl (pa_cons (pv 1) pa_nil)) pa_nil))) (pa_cons (pe_cG c_l_odd hr hG (by decide) rfl (pa_cons (pv 1) pa_nil)) (pa_cons (pe_lst (pa_cons (pe_slice slAny (pv 5) po_none (po_some pe_int)) pa_nil)) (pa_cons (pe_tup (pa_cons pe_str (pa_cons (pe_tup pa_nil) pa_nil))) pa_nil)))))))
      (pss_cons (ps_set (i := 11) sc_law.nd rfl (Or.inl rfl) (pe_op opAdd (pe_op opAdd (pv 11) (pe_lcO (pe_lc (own := [("_law_row_here", 12)]) rfl sc_law.nd (piAny (pe_slice slAny (pv 5) po_none (po_some pe_int))) (blkOk_by (own := [("_law_row_here", 12)]) (N := ["_law_script", "_law_bag_here", "_law_starts", "_law_k", "_law_world_here", "_law_board", "_law_shelf", "_law_aim", "_law_handed", "_law_first", "_law_start", "_law_near", "_law_row_here", "_law_thing"]) (sc := defScope s_law) (by first | decide +kernel | kernel_rfl)) (fun _ _ _ _ _ => pg_name (i := 12) sc_law.nd rfl (Or.inl rfl)) (fun _ _ _ _ _ => pts_nil) (fun _ _ _ _ _ => pe_callTy call_list_ofB (by rfl) T.list (by decide +kernel) (pa_cons (pv 12) pa_nil))))) (pe_lcO (pe_lc (own := [("_law_row_here", 12)]) rfl sc_law.nd (piAny (pv 5)) (blkOk_by (own := [("_law_row_here", 12)]) (N := ["_law_script", "_law_bag_here", "_law_starts", "_law_k", "_law_world_here", "_law_board", "_law_shelf", "_law_aim", "_law_handed", "_law_first", "_law_start", "_law_near", "_law_row_here", "_law_thing"]) (sc := defScope s_law) (by first | decide +kernel | kernel_rfl)) (fun _ _ _ _ _ => pg_name (i := 12) sc_law.nd rfl (Or.inl rfl)) (fun _ _ _ _ _ => pts_nil) (fun _ _ _ _ _ => pe_tup (pa_cons (pe_ix ixAnyB (pv 12) pe_int (fun _ _ => rfl)) (pa_cons (pe_revTB (pe_ix ixAnyB (pv 12) pe_int (fun _ _ => rfl)) (pe_un un_neg pe_int)) pa_nil)))))))
      (pss_one (ps_if (pt_not (pt_val (pe_cG c_l_alike hr hG (by decide) rfl (pa_cons (pe_lcO (pe_lc (own := [("_law_thing", 13)]) rfl sc_law.nd (piAny (pv 11)) (blkOk_by (own := [("_law_thing", 13)]) (N := ["_law_script", "_law_bag_here", "_law_starts", "_law_k", "_law_world_here", "_law_board", "_law_shelf", "_law_aim", "_law_handed", "_law_first", "_law_start", "_law_near", "_law_row_here", "_law_thing"]) (sc := defScope s_law) (by first | decide +kernel | kernel_rfl)) (fun _ _ _ _ _ => pg_name (i := 13) sc_law.nd rfl (Or.inl rfl)) (fun _ _ _ _ _ => pts_nil) (fun _ _ _ _ _ => pe_cmpR (op_inOB MC hr hG (by decide)) (pv 13) (pv 10) rfl))) (pa_cons (pe_lcO (pe_lc (own := [("_law_thing", 13)]) rfl sc_law.nd (piAny (pv 11)) (blkOk_by (own := [("_law_thing", 13)]) (N := ["_law_script", "_law_bag_here", "_law_starts", "_law_k", "_law_world_here", "_law_board", "_law_shelf", "_law_aim", "_law_handed", "_law_first", "_law_start", "_law_near", "_law_row_here", "_law_thing"]) (sc := defScope s_law) (by first | decide +kernel | kernel_rfl)) (fun _ _ _ _ _ => pg_name (i := 13) sc_law.nd rfl (Or.inl rfl)) (fun _ _ _ _ _ => pts_nil) (fun _ _ _ _ _ => pe_cmpR (opInXB hr) (pv 13) (pe_op opAddB (pv 5) (pv 6)) rfl))) pa_nil))))) (pss_one (ps_ret pe_bl)) pss_nil)))))))
      (pss_one (ps_ret pe_bl))))), ?_⟩
    refine ⟨_, rfl, a0, ms, rfl, ha0, hl, fun H1 b e1 hb => ?_⟩
    refine ⟨by show 0 ≤ sizeLine; decide, fun Ls nLs => ?_⟩
    generalize hq2 : upd H1 Ls _ = H2
    obtain ⟨e2, h2⟩ := gen1 hq2 nLs
    refine ⟨_, _, rfl, ?_⟩
    refine ⟨2, rfl, by decide, by decide, ?_⟩
    refine frG (walk_range (lo := 0) (n := 2)) (fun i σ H' => ∃ (x3 x4 x5 x6 x7 x8 x9 x10 x11 x12 x13 : Option V) (ss : List V), σ = [some (.ref a0), some (.ref b), some (.ref Ls), x3, x4, x5, x6, x7, x8, x9, x10, x11, x12, x13] ∧ Ex H1 H' ∧ H' Ls = some (.lst ss) ∧ ss.length = i ∧ ∀ v ∈ ss, EntAt C Ls H' v)
      ⟨_, _, _, _, _, _, _, _, _, _, _, _, rfl, e2, h2, rfl, fun v hv => by cases hv⟩ (fun _ _ _ _ _ => trivial) ?_ ?_
    · rintro i0 x σ H3 H4 hi ⟨x3, x4, x5, x6, x7, x8, x9, x10, x11, x12, x13, ss, rfl, e3, hLs, lss, hss⟩ ⟨rfl, rfl⟩
      refine ⟨_, rfl, b, rfl, hb.ex e3, fun H5 wv ns ts e5 hwv hw => ?_⟩
      have ht2 := hw.t2
      have ht4 := hw.t4
      have e35 := e3.trans e5
      refine ⟨_, rfl, _, rfl, b, wv, ns, ts, 6, rfl, hb.ex e35, hwv, hw, by decide, by decide, fun H6 pg ug g e6 ng hpg hga hgn hgl => ?_⟩
      refine ⟨_, rfl, _, rfl, b, wv, ns, ts, 3, rfl, hb.ex (e35.trans e6), hwv.ex e6, hw, by decide, by decide, fun H7 pk uk k e7 nk hpk hka hkn hkl => ?_⟩
      have e57 := e6.trans e7
      obtain ⟨dw, pn, pt, kvs, rfl, hdw, hkvn, hkvt, hpn, hpt⟩ := id (hwv.ex e57)
      refine ⟨_, rfl, _, rfl, dw, .ref pt, rfl, .inl ⟨kvs, Sum.inr "things", .inl hdw, rfl, hkvt.symm⟩, ?_⟩
      refine ⟨b, pt, ts, rfl, hb.ex (e35.trans e57), hpt, (fun e => by rw [e] at ht2; exact absurd ht2 (by decide)), by omega, fun H8 va a e8 ha a1 a2 a3 => ?_⟩
      have na : nA a := hw.nA a1 a2 a3
      have ok : SOk g k a := ⟨by omega, by omega, hgn, hkn, na⟩
      refine ⟨by show 3 ≤ sizeLine; decide, fun t9 n9 => ?_⟩
      generalize hq9 : upd H8 t9 _ = H9
      obtain ⟨e9, h9⟩ := gen1 hq9 n9
      refine ⟨t9, _, rfl, st_of h9, rfl, _, _, rfl, _, _, rfl, _, _, rfl, rfl, ?_⟩
      have e49 := ((e5.trans e57).trans e8).trans e9
      have hLs9 := e49 _ _ hLs
      have hg9 := ((e7.trans e8).trans e9) _ _ hpg
      have hk9 := (e8.trans e9) _ _ hpk
      have ga9 := hga.tex (TEx.of ((e7.trans e8).trans e9))
      have ka9 := hka.tex (TEx.of (e8.trans e9))
      refine ⟨_, rfl, pg, ug, rfl, .inl (sq_of hg9), fun h0 nh0 => ?_⟩
      generalize hq10 : upd H9 h0 _ = H10
      obtain ⟨e10, h10⟩ := gen1 hq10 nh0
      refine ⟨_, rfl, pk, uk, rfl, .inl (sq_of (e10 _ _ hk9)), fun h1 nh1 => ?_⟩
      generalize hq11 : upd H10 h1 _ = H11
      obtain ⟨e11, h11⟩ := gen1 hq11 nh1
      refine ⟨by show 2 ≤ sizeLine; decide, fun Lh nLh => ?_⟩
      generalize hq12 : upd H11 Lh _ = H12
      obtain ⟨e12, h12⟩ := gen1 hq12 nLh
      have d1 : h0 ≠ Ls := fun e => by rw [e, hLs9] at nh0; cases nh0
      have d2 : h1 ≠ Ls := fun e => by rw [e, e10 _ _ hLs9] at nh1; cases nh1
      have d3 : h1 ≠ h0 := fun e => by rw [e, h10] at nh1; cases nh1
      have d4 : Lh ≠ Ls := fun e => by rw [e, (e10.trans e11) _ _ hLs9] at nLh; cases nLh
      have d5 : Lh ≠ h0 := fun e => by rw [e, e11 _ _ h10] at nLh; cases nLh
      have d6 : Lh ≠ h1 := fun e => by rw [e, h11] at nLh; cases nLh
      have d7 : pg ≠ Ls := fun e => by rw [e, e5 _ _ hLs] at ng; cases ng
      have d8 : pk ≠ Ls := fun e => by rw [e, (e5.trans e6) _ _ hLs] at nk; cases nk
      have d9 : pg ≠ h0 := fun e => by rw [← e, hg9] at nh0; cases nh0
      have d10 : pk ≠ h0 := fun e => by rw [← e, hk9] at nh0; cases nh0
      have d11 : pg ≠ h1 := fun e => by rw [← e, e10 _ _ hg9] at nh1; cases nh1
      have d12 : pk ≠ h1 := fun e => by rw [← e, e10 _ _ hk9] at nh1; cases nh1
      have e912 := (e10.trans e11).trans e12
      have e412 := e49.trans e912
      refine ⟨fun σ' H' => ∃ vf : V, σ' = [some (.ref a0), some (.ref b), some (.ref Ls), some (.int (0 + (i0 : Int))), some (.ref dw), some (.ref pg), some (.ref pk), some va, some (.ref Lh), some vf, x10, x11, x12, x13] ∧ Ex H12 H' ∧ SqR K H' vf g, ?_, ?_⟩
      · refine ⟨_, rfl, b, 2, rfl, hb.ex (e3.trans e412), by decide, by decide, fun H13 r r0 r1 e13 => .inl ⟨rfl, _, rfl, ite2 (fun _ => ?_) (fun _ => ?_)⟩⟩
        · refine ⟨_, rfl, .inl ⟨Lh, _, 0, _, rfl, rfl, sq_of (e13 _ _ h12), rfl, ?_⟩⟩
          exact ⟨_, rfl, e13, h0, ug, rfl, .inl (((e11.trans e12).trans e13) _ _ h10), ga9.tex (TEx.of (e912.trans e13))⟩
        · refine ⟨_, rfl, pg, ug, rfl, .inl ⟨sq_of ((e912.trans e13) _ _ hg9), fun t nt => ?_⟩⟩
          exact ⟨_, rfl, e13.trans (Ex.new nt), t, ug, rfl, .inr upd_same, ga9.tex (TEx.of ((e912.trans e13).trans (Ex.new nt)))⟩
      · rintro σ' H14 ⟨vf, rfl, e14, hvf⟩
        have e914 := e912.trans e14
        have hLs14 := e914 _ _ hLs9
        have hLh14 := e14 _ _ h12
        have hh014 := ((e11.trans e12).trans e14) _ _ h10
        have hh114 := (e12.trans e14) _ _ h11
        refine ⟨_, rfl, .inl ⟨rfl, _, sq_of hLs14⟩, ?_⟩
        refine ⟨_, rfl, _, rfl, .inl ⟨Lh, _, 1, _, rfl, rfl, sq_of hLh14, rfl, _, rfl, ?_⟩⟩
        refine fun y d n1 n2 n3 => mk_start n1 n2 n3 hvf ⟨h1, uk, rfl, .inl hh114, ka9.tex (TEx.of e914)⟩ (ha.ex (e9.trans e914)) ok fun H15 e15 hst hfr => ⟨rfl, ?_⟩
        refine ⟨_, rfl, _, rfl, _, rfl, by show 4 ≤ sizeLine; decide, fun t16 n16 => ?_⟩
        generalize hq16 : upd H15 t16 _ = H16
        obtain ⟨e16, h16⟩ := gen1 hq16 n16
        have e1416 := e15.trans e16
        have e916 := e914.trans e1416
        have e416 := e49.trans e916
        have hLs16 := e1416 _ _ hLs14
        have hLh16 := e1416 _ _ hLh14
        have hh016 := e1416 _ _ hh014
        have hh116 := e1416 _ _ hh114
        refine ⟨Ls, ss, _, rfl, rfl, hLs16, sz_lt (by omega), ?_⟩
        have hLh17 : upd H16 Ls (.lst (ss ++ [V.ref t16])) Lh = _ := (upd_ne d4).trans hLh16
        have hh017 : upd H16 Ls (.lst (ss ++ [V.ref t16])) h0 = _ := (upd_ne d1).trans hh016
        have hh117 : upd H16 Ls (.lst (ss ++ [V.ref t16])) h1 = _ := (upd_ne d2).trans hh116
        have lug := ga9.len
        refine ⟨_, rfl, .inl ⟨Lh, _, 0, _, rfl, rfl, sq_of hLh17, rfl, .inl ⟨rfl, _, sq_of hh017⟩, h0, ug, _, rfl, rfl, hh017, sz_lt (by omega), ?_⟩⟩
        refine ⟨_, rfl, .inl ⟨Lh, _, 1, _, rfl, rfl, sq_of ((upd_ne d5).trans hLh17), rfl, .inl ⟨rfl, _, sq_of ((upd_ne d3).trans hh117)⟩, h1, uk, rfl, rfl, (upd_ne d3).trans hh117, ?_⟩⟩
        have off : ∀ {c : Addr} {x y z : HO}, c ≠ Ls → c ≠ h0 → c ≠ h1 → upd (upd (upd H16 Ls x) h0 y) h1 z c = H16 c := fun k1 k2 k3 => upd3_ne k1 k2 k3
        have n40 : H4 h0 = none := none_of e49 nh0
        have n41 : H4 h1 = none := none_of (e49.trans e10) nh1
        refine ⟨_, _, _, _, _, _, _, _, _, _, _, ss ++ [.ref t16], rfl, Ex.mut (Ex.mut (Ex.mut (e3.trans e416) nLs) (none_of (e3.trans e49) nh0)) (none_of (e3.trans (e49.trans e10)) nh1), (upd_ne (Ne.symm d2)).trans ((upd_ne (Ne.symm d1)).trans upd_same), by rw [List.length_append, lss]; rfl, fun v hv => ?_⟩
        rcases List.mem_append.mp hv with hv | hv
        · refine (hss v hv).mv hLs fun c o hne hc => ?_
          rw [off hne (fun e => by rw [e, n40] at hc; cases hc) (fun e => by rw [e, n41] at hc; cases hc)]
          exact e416 _ _ hc
        · rw [List.mem_singleton] at hv
          subst hv
          have tx : ∀ {x y z : List V}, TEx H16 (upd (upd (upd H16 Ls (.lst x)) h0 (.lst y)) h1 (.lst z)) := fun {x y z} c xs hc => by
            rw [off (fun e => by rw [e, hLs16] at hc; cases hc) (fun e => by rw [e, hh016] at hc; cases hc) (fun e => by rw [e, hh116] at hc; cases hc)]
            exact hc
          obtain ⟨y1, dd1, g1, b1, ug1, ub1, va1, he, f2, f3, f4, f5, f6, f7⟩ := hst
          cases he
          obtain ⟨dd2, g2, b2, va2, hf, m1, m2⟩ := hfr
          rw [f2] at hf
          cases hf
          have fr : ∀ {c : Addr}, H14 c = none → c ≠ Ls ∧ c ≠ h0 ∧ c ≠ h1 := fun {c} hc => ⟨(fun e => by rw [e, hLs14] at hc; cases hc), (fun e => by rw [e, hh014] at hc; cases hc), (fun e => by rw [e, hh114] at hc; cases hc)⟩
          obtain ⟨p1, p2, p3⟩ := fr m1
          obtain ⟨q1, q2, q3⟩ := fr m2
          have y16 := e16 _ _ f2
          refine ⟨t16, .ref y, pg, pk, va, ug, uk, g, k, a, rfl, tx _ _ h16, ⟨y, dd1, g1, b1, ug1, ub1, va1, rfl, ?_, ?_, (f4.tex (TEx.of e16)).tex tx, ?_, (f6.tex (TEx.of e16)).tex tx, (f7.ex e16).tex tx, p1, q1⟩, ok, by omega, by omega, ?_, (ga9.tex (TEx.of e916)).tex tx, ?_, (ka9.tex (TEx.of e916)).tex tx, (ha.ex (e9.trans e916)).tex tx, d7, d8⟩
          · rw [off (fun e => by rw [e, hLs16] at y16; cases y16) (fun e => by rw [e, hh016] at y16; cases y16) (fun e => by rw [e, hh116] at y16; cases y16)]
            exact y16
          · rw [off p1 p2 p3]
            exact e16 _ _ f3
          · rw [off q1 q2 q3]
            exact e16 _ _ f5
          · rw [off d7 d9 d11]
            exact e916 _ _ hg9
          · rw [off d8 d10 d12]
            exact e916 _ _ hk9
    · rintro σ H3 ⟨x3, x4, x5, x6, x7, x8, x9, x10, x11, x12, x13, ss, rfl, e3, hLs, lss, hss⟩
      have hb3 := hb.ex e3
      refine .inl ⟨_, rfl, _, rfl, 1, rfl, .inl ⟨Ls, ss, rfl, sq_of hLs, fun s1 ns1 => ?_⟩⟩
      generalize hq4 : upd H3 s1 _ = H4
      obtain ⟨e4, h4⟩ := gen1 hq4 ns1
      rw [show cutV ss none (some 1) = ss.take 1 from cut_upto ss 1] at h4
      have hLs4 := e4 _ _ hLs
      refine .inr (.inr (.inl ⟨Ls, s1, _, _, rfl, rfl, hLs4, h4, by rw [List.length_take]; exact Nat.le_trans (show ss.length + min 1 ss.length ≤ 3 by omega) (by decide), fun s2 ns2 => ?_⟩))
      generalize hq5 : upd H4 s2 _ = H5
      obtain ⟨e5, h5⟩ := gen1 hq5 ns2
      have e35 := e4.trans e5
      have hall : ∀ v ∈ ss ++ ss.take 1, EntAt C Ls H5 v := fun v hv => by
        have hv' : v ∈ ss := by
          rcases List.mem_append.mp hv with h | h
          · exact h
          · exact List.mem_of_mem_take h
        exact (hss v hv').mv hLs fun c o _ hc => e35 _ _ hc
      have hb5 := hb3.ex e35
      refine ⟨s2, rfl, ⟨_, sq_of h5⟩, ?_⟩
      refine frG (walk_list (xs := ss ++ ss.take 1)) (fun i σ H' => ∃ x3 x4 x5 x6 x7 x8 x9 x10 x11 x12 x13 : Option V, σ = [some (.ref a0), some (.ref b), some (.ref Ls), x3, x4, x5, x6, x7, x8, x9, x10, x11, x12, x13] ∧ Ex H5 H')
        ⟨_, _, _, _, _, _, _, _, _, _, _, rfl, Ex.refl _⟩ (fun _ _ _ _ ⟨_, _, _, _, _, _, _, _, _, _, _, _, e⟩ => sq_of (e _ _ h5)) ?_ ?_
      · rintro i x σ H6 H7 hi ⟨x3, x4, x5, x6, x7, x8, x9, x10, x11, x12, x13, rfl, e6⟩ ⟨rfl, hx⟩
        obtain ⟨t, vst, pg, pk, va, ug, uk, g, k, a, rfl, en⟩ := hall x (List.mem_of_getElem? hx)
        have en := en.mv ((e35) _ _ hLs) fun c o _ hc => e6 _ _ hc
        have hb6 := hb5.ex e6
        obtain ⟨ht, st, ok, lg, lk, hpg, hga, hpk, hka, ha, _, _⟩ := en
        have st := st.st
        have lug := hga.len
        have luk := hka.len
        have hgk : ∀ r ∈ g ++ k, nR r := fun r hr => (List.mem_append.mp hr).elim (ok.gn r) (ok.bn r)
        refine ⟨t, _, rfl, st_of ht, rfl, _, _, rfl, _, _, rfl, _, _, rfl, _, _, rfl, rfl, ?_⟩
        refine ⟨_, rfl, _, rfl, _, rfl, _, rfl, _, rfl, b, vst, pg, pk, va, ug, uk, g, k, a, rfl, hb6, st, ok, by omega, by omega, hpg, hga, hpk, hka, ha, fun H8 e8 => ⟨_, rfl, iteF ?_⟩⟩
        have hpg8 := e8 _ _ hpg
        have hpk8 := e8 _ _ hpk
        -- near
        refine .inl ⟨_, rfl, _, rfl, .inr (.inr (.inl ⟨pg, pk, _, _, rfl, rfl, hpg8, hpk8, Nat.le_trans (show ug.length + uk.length ≤ 9 by omega) (by decide), fun t1 n1 => ?_⟩))⟩
        generalize hq9 : upd H8 t1 _ = H9
        obtain ⟨e9, h9⟩ := gen1 hq9 n1
        refine ⟨t1, rfl, ⟨_, sq_of h9⟩, ?_⟩
        refine lcG (walk_list (xs := ug ++ uk)) (by rw [List.length_append]; omega) (sq_of h9) (fun _ _ e h => ex_l e h) yAt_ex (fun i ys _ => ys = (ug ++ uk).take i) (fun _ _ _ _ _ h => h) rfl ?_ ?_
        · rintro i x H10 H11 ys hi e10 ⟨rfl, hx⟩ rfl N N0 kN kN0
          refine ⟨rfl, _, rfl, kN _ _ (Ex.refl _) ?_⟩
          rw [List.take_add_one, hx]
          rfl
        rintro D10 H10 ys hD10 e10 hD10' hl10 rfl
        rw [List.take_of_length_le (Nat.le_refl _)] at hD10'
        have e810 := e9.trans e10
        have hb10 := hb6.ex (e8.trans e810)
        refine ⟨_, rfl, _, rfl, b, rfl, hb10, fun H11 wv ns ts e11 hwv hw => ⟨b, wv, ns, ts, rfl, hb10.ex e11, hwv, hw, fun H12 ur r12 e12 hur nr12 => ?_⟩⟩
        refine ⟨_, rfl, b, rfl, hb10.ex (e11.trans e12), fun H13 uo dod e13 huo oko oro => ?_⟩
        have e1013 := (e11.trans e12).trans e13
        have e813 := e810.trans e1013
        have hpg13 := e813 _ _ hpg8
        refine ⟨_, rfl, 1, rfl, .inl ⟨pg, ug, rfl, sq_of hpg13, fun l14 n14 => ?_⟩⟩
        generalize hq14 : upd H13 l14 _ = H14
        obtain ⟨e14, h14⟩ := gen1 hq14 n14
        rw [show cutV ug none (some 1) = ug.take 1 from cut_upto ug 1] at h14
        refine ⟨by show 1 ≤ sizeLine; decide, fun l15 n15 => ?_⟩
        generalize hq15 : upd H14 l15 _ = H15
        obtain ⟨e15, h15⟩ := gen1 hq15 n15
        refine ⟨by show 0 ≤ sizeLine; decide, fun t16 n16 => ?_⟩
        generalize hq16 : upd H15 t16 _ = H16
        obtain ⟨e16, h16⟩ := gen1 hq16 n16
        refine ⟨by show 2 ≤ sizeLine; decide, fun t17 n17 => ?_⟩
        generalize hq17 : upd H16 t17 _ = H17
        obtain ⟨e17, h17⟩ := gen1 hq17 n17
        refine ⟨by show 4 ≤ sizeLine; decide, fun l18 n18 => ?_⟩
        generalize hq18 : upd H17 l18 _ = H18
        obtain ⟨e18, h18⟩ := gen1 hq18 n18
        have e1318 := (((e14.trans e15).trans e16).trans e17).trans e18
        have e1018 := e1013.trans e1318
        refine .inr (.inr (.inl ⟨D10, l18, _, _, rfl, rfl, e1018 _ _ hD10', h18, Nat.le_trans (show (ug ++ uk).length + 4 ≤ 13 by rw [List.length_append]; omega) (by decide), fun l19 n19 => ?_⟩))
        generalize hq19 : upd H18 l19 _ = H19
        obtain ⟨e19, h19⟩ := gen1 hq19 n19
        have e819 := (e810.trans e1018).trans e19
        have gtake : ∀ r ∈ g.take 1, nR r := fun r hr => ok.gn r (List.mem_of_mem_take hr)
        have N19 : NrL H19 (ug ++ uk ++ [ur, uo, .ref l15, .ref t17]) := by
          refine NrL.app (rows_nr ((hga.app hka).tex (TEx.of (e8.trans e819))) hgk) ?_
          refine NrL.of (hur.tex (TEx.of ((e13.trans e1318).trans e19))).da ((okN_row nr12).nr (by decide) (by decide)) ?_
          refine NrL.of (Da.ex (e1318.trans e19) _ (DaA.da _ huo)) ⟨oko.mono (by decide) (by decide), oro⟩ ?_
          refine NrL.of (.lst ((((e16.trans e17).trans e18).trans e19) _ _ h15) (.cons (.lst (((((e15.trans e16).trans e17).trans e18).trans e19) _ _ h14) ((hga.tex (TEx.of (e8.trans e819))).da.take 1)) .nil)) ?_ ?_
          · refine okN.nr (n := 5) (W := 1210) (okN_list (n := 4) (W := 1205) (m := 1) (fun d hd => ?_) (Nat.le_refl _)) (by decide) (by decide)
            rw [List.mem_singleton.mp hd, ← List.map_take]
            refine okN_list (n := 3) (W := 1200) (m := 1) (fun d hd => ?_) (by rw [List.length_map, List.length_take]; omega)
            obtain ⟨r, hr, rfl⟩ := List.mem_map.mp hd
            exact okN_row (gtake r hr)
          · exact NrL.of (.tup ((e18.trans e19) _ _ h17) (.cons (.str "a") (.cons (.tup (((e17.trans e18).trans e19) _ _ h16) .nil) .nil))) tup_a_nr NrL.nil
        have e8' := e819
        -- near, more
        have hpg19 := e819 _ _ hpg8
        refine ⟨_, rfl, .inl ⟨_, rfl, 1, rfl, .inl ⟨pg, ug, rfl, sq_of hpg19, fun l20 n20 => ?_⟩⟩⟩
        generalize hq20 : upd H19 l20 _ = H20
        obtain ⟨e20, h20⟩ := gen1 hq20 n20
        rw [show cutV ug none (some 1) = ug.take 1 from cut_upto ug 1] at h20
        have hga20 := hga.tex (TEx.of ((e8.trans e819).trans e20))
        refine ⟨l20, rfl, ⟨_, sq_of h20⟩, ?_⟩
        refine lcL (walk_list (xs := ug.take 1)) (sq_of h20) (fun _ _ e h => ex_l e h) yAt_ex (by rw [List.length_take]; omega) (fun D i ys H' => ∀ v ∈ ys, ∃ (l : Addr) (vf : V) (r : Rw), v = .ref l ∧ l ≠ D ∧ H' l = some (.lst [.str r.1, vf]) ∧ FactAt H' vf r.2 ∧ nR r)
          (fun D i ys H H' t x h v hv => by
            obtain ⟨l, vf, r, h1, h2, h3, h4, h5⟩ := h v hv
            exact ⟨l, vf, r, h1, h2, x _ _ h2 h3, h4.tx t, h5⟩) (fun D v hv => by cases hv) ?_ ?_
        · rintro D i x H21 H22 ys hi e21 ⟨rfl, hx⟩ hD hd hys N N0 kN kN0
          have hx' : ug[i]? = some x := by
            rw [List.getElem?_take] at hx
            split at hx
            · exact hx
            · cases hx
          obtain ⟨r, hr1, q1, vf, rfl, hq1, hvf⟩ := (hga20.tex (TEx.of e21)).at hx'
          refine ⟨rfl, _, rfl, q1, _, rfl, .inr (st_of hq1), fun l23 n23 => ?_⟩
          generalize hq23 : upd H22 l23 _ = H23
          obtain ⟨e23, h23⟩ := gen1 hq23 n23
          refine kN _ _ e23 fun v hv => ?_
          rcases List.mem_append.mp hv with hv | hv
          · obtain ⟨l, vf, r, h1, h2, h3, h4, h5⟩ := hys v hv
            exact ⟨l, vf, r, h1, h2, e23 _ _ h3, h4.tx (TEx.of e23), h5⟩
          · rw [List.mem_singleton] at hv
            exact ⟨l23, vf, r, hv, (fun e => by rw [e, hd] at n23; cases n23), h23, hvf.tx (TEx.of e23), ok.gn r (List.mem_of_getElem? hr1)⟩
        rintro D21 H21 ys21 hD21 e21 hD21' hl21 hys21
        have e1921 := e20.trans e21
        have hl21' : ys21.length ≤ 1 := by rw [List.length_take] at hl21; omega
        refine .inr (.inr (.inl ⟨l19, D21, _, _, rfl, rfl, e1921 _ _ h19, hD21', Nat.le_trans (show (ug ++ uk ++ [ur, uo, .ref l15, .ref t17]).length + ys21.length ≤ 14 by simp only [List.length_append, List.length_cons, List.length_nil]; omega) (by decide), fun l22 n22 => ?_⟩))
        generalize hq22 : upd H21 l22 _ = H22
        obtain ⟨e22, h22⟩ := gen1 hq22 n22
        have N22 : NrL H22 (ug ++ uk ++ [ur, uo, .ref l15, .ref t17] ++ ys21) := by
          refine NrL.app (N19.ex (e1921.trans e22)) fun v hv => ?_
          obtain ⟨l, vf, r, rfl, h2, h3, h4, h5⟩ := hys21 v hv
          exact ⟨.list [.str r.1, faD r.2], .lst (e22 _ _ h3) (.cons (.str _) (.cons (h4.tx (TEx.of e22)).da .nil)), (show okN 3 1200 (.list [.str r.1, faD r.2]) from okN_row h5).nr (by decide) (by decide)⟩
        have e822 := (e819.trans e1921).trans e22
        have hga22 := hga.tex (TEx.of (e8.trans e822))
        refine .inl ⟨_, rfl, pg, rfl, ⟨_, sq_of (e822 _ _ hpg8)⟩, ?_⟩
        refine lcG (walk_list (xs := ug)) (by omega) (sq_of (e822 _ _ hpg8)) (fun _ _ e h => ex_l e h) yAt_ex (fun i ys H' => ∀ v ∈ ys, ∃ r : Rw, RowAt H' v r ∧ nR r) (fun _ _ _ _ t h v hv => by
          obtain ⟨r, h1, h2⟩ := h v hv
          exact ⟨r, h1.tex t, h2⟩) (fun v hv => by cases hv) ?_ ?_
        · rintro i x H23 H24 ys hi e23 ⟨rfl, hx⟩ hys N N0 kN kN0
          obtain ⟨r, hr1, q1, vf, rfl, hq1, q2, xs2, rfl, hq2, hat2⟩ := (hga22.tex (TEx.of e23)).at hx
          refine ⟨rfl, _, rfl, .inr (.inl ⟨q1, _, 0, _, rfl, rfl, st_of hq1, atI_nat (j := 0) rfl, ?_⟩)⟩
          refine ⟨_, rfl, .inr (.inl ⟨q1, _, 1, _, rfl, rfl, st_of hq1, atI_nat (j := 1) rfl, ?_⟩)⟩
          refine ⟨1, rfl, -1, rfl, q2, xs2, rfl, st_of hq2, rfl, fun t25 n25 => ?_⟩
          generalize hq25 : upd H24 t25 _ = H25
          obtain ⟨e25, h25⟩ := gen1 hq25 n25
          refine ⟨by show 2 ≤ sizeLine; decide, fun t26 n26 => ?_⟩
          generalize hq26 : upd H25 t26 _ = H26
          obtain ⟨e26, h26⟩ := gen1 hq26 n26
          have e2426 := e25.trans e26
          refine kN _ _ e2426 fun v hv => ?_
          rcases List.mem_append.mp hv with hv | hv
          · obtain ⟨r, h1, h2⟩ := hys v hv
            exact ⟨r, h1.tex (TEx.of e2426), h2⟩
          · rw [List.mem_singleton] at hv
            have nr := ok.gn r (List.mem_of_getElem? hr1)
            refine ⟨(r.1, r.2.reverse), ⟨t26, _, hv, h26, t25, _, rfl, e26 _ _ h25, (hat2.tex (TEx.of e2426)).rev⟩, nr.1, ?_, ?_, ?_⟩
            · show 1 ≤ r.2.reverse.length
              rw [List.length_reverse]
              exact nr.2.1
            · show r.2.reverse.length ≤ 2
              rw [List.length_reverse]
              exact nr.2.2.1
            · exact fun c hc => nr.2.2.2 c (List.mem_reverse.mp hc)
        rintro D23 H23 ys23 hD23 e23 hD23' hl23 hys23
        have e2223 := e22.trans e23
        have hnl : (ug ++ uk ++ [ur, uo, V.ref l15, V.ref t17] ++ ys21).length ≤ 14 := by simp only [List.length_append, List.length_cons, List.length_nil]; omega
        refine .inr (.inr (.inl ⟨l22, D23, _, _, rfl, rfl, e23 _ _ h22, hD23', Nat.le_trans (show (ug ++ uk ++ [ur, uo, V.ref l15, V.ref t17] ++ ys21).length + ys23.length ≤ 20 by omega) (by decide), fun l24 n24 => ?_⟩))
        generalize hq24 : upd H23 l24 _ = H24
        obtain ⟨e24, h24⟩ := gen1 hq24 n24
        have N24 : NrL H24 (ug ++ uk ++ [ur, uo, V.ref l15, V.ref t17] ++ ys21 ++ ys23) := by
          refine NrL.app (N22.ex (e23.trans e24)) fun v hv => ?_
          obtain ⟨r, h1, h2⟩ := hys23 v hv
          exact ⟨rwD r, (h1.tex (TEx.of e24)).da, (okN_row h2).nr (by decide) (by decide)⟩
        obtain ⟨zs, hzs⟩ : ∃ zs, (ug ++ uk ++ [ur, uo, V.ref l15, V.ref t17] ++ ys21 ++ ys23) = zs := ⟨_, rfl⟩
        have hzl : zs.length ≤ 20 := by
          rw [← hzs, List.length_append]
          omega
        rw [hzs] at h24 N24
        obtain ⟨ds, hds, hnr⟩ := N24.all
        have hdl := hds.len
        have e824 := (e822.trans e23).trans e24
        have st24 := st.ex (e8.trans e824)
        -- in the start
        refine .inl ⟨_, rfl, l24, rfl, ⟨_, sq_of h24⟩, ?_⟩
        have bt : ∀ {i : Nat} {d : PyData}, ds[i]? = some d → ((ds.take (i + 1)).map fun d => inRs d (g ++ k)).map V.bl = ((ds.take i).map fun d => inRs d (g ++ k)).map V.bl ++ [V.bl (inRs d (g ++ k))] := fun {i d} h => by
          rw [List.take_add_one, h, List.map_append, List.map_append]
          rfl
        refine lcG (walk_list (xs := zs)) (by omega) (sq_of h24) (fun _ _ e h => ex_l e h) yAt_ex (fun i ys _ => ys = ((ds.take i).map fun d => inRs d (g ++ k)).map V.bl) (fun _ _ _ _ _ h => h) rfl ?_ ?_
        · rintro i x H25 H26 ys hi e25 ⟨rfl, hx⟩ rfl N N0 kN kN0
          obtain ⟨d, hd1, hd2⟩ := hds.at hx
          have nd := hnr d (List.mem_of_getElem? hd1)
          obtain ⟨y, dd, p, q0, ug1, ub1, va1, rfl, f2, _⟩ := id (st24.ex e25)
          refine ⟨rfl, _, rfl, _, rfl, y, dd, _, rfl, f2, ?_⟩
          refine ⟨.ref y, x, g, k, a, d, rfl, st24.ex e25, ok, Da.ex e25 _ hd2, nd.1.mono (by decide) (by decide), fun H27 e27 => ⟨⟨_, rfl⟩, kN _ _ e27 ?_⟩⟩
          exact (bt hd1).symm
        rintro D25 H25 ys25 hD25 e25 hD25' hl25 rfl
        have hpg25 := (e824.trans e25) _ _ hpg8
        have hpk25 := (e824.trans e25) _ _ hpk8
        refine .inl ⟨_, rfl, l24, rfl, ⟨_, sq_of (e25 _ _ h24)⟩, ?_⟩
        refine lcG (walk_list (xs := zs)) (by omega) (sq_of (e25 _ _ h24)) (fun _ _ e h => ex_l e h) yAt_ex (fun i ys _ => ys = ((ds.take i).map fun d => inRs d (g ++ k)).map V.bl) (fun _ _ _ _ _ h => h) rfl ?_ ?_
        · rintro i x H26 H27 ys hi e26 ⟨rfl, hx⟩ rfl N N0 kN kN0
          obtain ⟨d, hd1, hd2⟩ := hds.at hx
          have nd := hnr d (List.mem_of_getElem? hd1)
          refine ⟨rfl, _, rfl, _, rfl, _, rfl, .inr (.inr (.inl ⟨pg, pk, _, _, rfl, rfl, e26 _ _ hpg25, e26 _ _ hpk25, Nat.le_trans (show ug.length + uk.length ≤ 9 by omega) (by decide), fun t28 n28 => ?_⟩))⟩
          generalize hq28 : upd H27 t28 _ = H28
          obtain ⟨e28, h28⟩ := gen1 hq28 n28
          have e2428 := (e25.trans e26).trans e28
          have hx28 := Da.ex e2428 _ hd2
          have hA28 : AllRw H28 (ug ++ uk) (g ++ k) := (hga.app hka).tex (TEx.of (e8.trans (e824.trans e2428)))
          rcases nd.2 with hc | ⟨ks, rfl⟩
          · refine .inl ⟨d, (g ++ k).map rwD, Da.dp d hc hx28, .lst (sq_of h28) hA28.dp, shpD (n := 6) (W := 5000) ⟨nd.1, hc⟩ (by decide), shpR hgk, kN _ _ e28 ?_⟩
            exact (bt hd1).symm
          · cases hx28 with
            | dct z1 z2 =>
              refine .inr ⟨_, t28, _, _, rfl, z1, rfl, sq_of h28, fun u hu => ?_, kN _ _ e28 ?_⟩
              · obtain ⟨j, hj⟩ := List.getElem?_of_mem hu
                obtain ⟨r, _, q1, vf, rfl, hq1, _⟩ := hA28.at hj
                exact ⟨q1, _, rfl, st_of hq1⟩
              · have z := bt hd1
                rw [inRs_dict] at z
                exact z.symm
        rintro D26 H26 ys26 hD26 e26 hD26' hl26 rfl
        rw [hdl, List.take_of_length_le (Nat.le_refl _)] at hD25' hD26'
        have bl : (ds.map fun d => inRs d (g ++ k)).length ≤ 100 := by rw [List.length_map]; omega
        have okb := bools_ok _ bl
        refine ⟨.ref D25, .ref D26, rfl, ⟨_, .lst (e26 _ _ hD25') (bools_da _), .lst hD26' (bools_da _), okb.1.mono (by decide) (by decide), .inl okb.2⟩, _, rfl, iteF ?_⟩
        exact ⟨_, _, _, _, _, _, _, _, _, _, _, rfl, e6.trans (e8.trans ((e824.trans e25).trans e26))⟩
      · rintro σ H6 ⟨x3, x4, x5, x6, x7, x8, x9, x10, x11, x12, x13, rfl, e6⟩
        exact q _
end
end Own

namespace Own
open PySem PySem.Spec PyProof.Rows L2 Evl
/-! ### the end -/
theorem law_callS {P : Program} {w : World} {K : PySem.W.Frag} {mg mb : Str → Option Value} {k : Nat} {fa a : Addr} {fd : FuncData} {x : Str} {sp : Sp} {st : Shared} {vs : List Value} {ns : List Int}
    (inK : K.In st.heap) (gN : st.heap.Ns mainGlobals mg) (bN : st.heap.Ns builtinsNs mb) (bN0 : ∀ x : Str, x ≠ "__name__" → mb x = bootBuiltins x) (noL : st.heap.NoLimit) (g0 : st.gens = #[])
    (at0 : st.heap.get? a = some { cls := .type "list", data := .seq vs.toArray }) (are : IntsAre vs ns) (few : ns.length ≤ sizeLine) (hr : Room k callerA)
    (sysN : ∃ mm, st.heap.Ns sysModules mm) (F : ∀ base : Heap, K.In base → base.Ns mainGlobals mg → SysAt base → FnG P w K mg base k fa fd [x] sp) (bnd : ∀ (s : Shared) (u : Value), BindsTo s fd ⟨[u], []⟩ [(x, u)])
    (want : ∀ H : Hp, Only H → SqL K H a (ns.map V.int) → sp [.ref a] H (fun v _ => v = .bl true) fun _ _ _ => False)
    :
    codeAny (model P w) callerA (.call (.ref fa) ⟨[.ref a], []⟩) (fun r s' => r = .ok (.ret (.bool true)) ∧ OldK st.heap s'.heap ∧ s'.os = st.os ∧ AllBare s'.gens) st := by
  have rvs := vals_ints are
  have lv := are.length
  have main : ∀ H : Hp, Only H → SqL K H a (ns.map V.int) → HOk P w H st.heap → (∀ b, H b ≠ none → b = a) → (H a ≠ none → K.lookup a = none) →
      codeAny (model P w) callerA (.call (.ref fa) ⟨[.ref a], []⟩) (fun r s' => r = .ok (.ret (.bool true)) ∧ OldK st.heap s'.heap ∧ s'.os = st.os ∧ AllBare s'.gens) st := by
    intro H only sq okH ata notK
    have inB : ∀ {b : Addr} {o : Obj}, st.heap.get? b = some o → H b = none → (hidT st.heap H).get? b = some o := fun e n => hidT_get e n
    have nod : ∀ {b : Addr} {o : Obj} {es : Array DictEntry} {ep : Nat}, st.heap.get? b = some o → o.data = .dict es ep → H b = none := fun {b o es ep} e d => by
      cases qq : H b with
      | none => rfl
      | some u =>
        have e' : b = a := ata b (by rw [qq]; simp)
        subst e'
        rw [at0] at e; cases e
        have d' : Data.seq vs.toArray _ = Data.dict es ep := d
        cases d'
    have nsB : ∀ {b : Addr} {m : Str → Option Value}, st.heap.Ns b m → (hidT st.heap H).Ns b m := fun {b m} ⟨o, es, ep, e, d, r⟩ => ⟨o, es, ep, inB e (nod e d), d, r⟩
    have kB : K.In (hidT st.heap H) := fun b o e => inB (inK b o e) (by
      cases qq : H b with
      | none => rfl
      | some u =>
        have e' : b = a := ata b (by rw [qq]; simp)
        subst e'
        rw [notK (by rw [qq]; simp)] at e; cases e)
    have mdl : Mod K mg (hidT st.heap H) := ⟨kB, nsB gN, ⟨mb, nsB bN, bN0⟩, let ⟨mc, h1, h2⟩ := noL; ⟨mc, nsB h1, h2⟩⟩
    have envs : Env0 P w K mg (hidT st.heap H) callerA [] st H := ⟨rfl, mdl, fun b o e => of_hidT e, Nat.le_of_eq (hidT_size _ _), trivial, fun b bN => absurd (show b ∈ ([] : List Addr) from bN) (by simp), okH, .of_eq g0⟩
    refine codeAny_mono ((F _ kB (nsB gN) (let ⟨mm, z⟩ := sysN; ⟨mm, nsB z⟩)).run callerA [] st H ⟨[.ref a], []⟩ [.ref a] [.ref a] _ _ hr rfl envs (bnd st (.ref a)) (.cons rfl .nil) (want H only sq)) fun r s' h => ?_
    cases r with
    | error e => exact (show False from h).elim
    | ok fl =>
      cases fl with
      | next => exact False.elim h
      | brk => exact False.elim h
      | cont => exact False.elim h
      | ret u =>
        obtain ⟨v, H', oss, br, uu, hok', r', qq⟩ := h
        have q' : v = .bl true := qq
        subst q'
        obtain rfl : u = Value.bool true := r'
        refine ⟨rfl, OldK.of_keep fun b o e => ?_, oss, br⟩
        cases qq : H b with
        | none => exact uu.keep b o e qq (by intro zz; exact absurd (show b ∈ ([] : List Addr) from zz) (by simp)) (by simp)
        | some u =>
          rcases only b with zz | ⟨ob, xs, zz⟩
          · rw [qq] at zz; cases zz
          · have zz2 := uu.frzs b ob _ zz
            obtain ⟨e1, _⟩ := okH b _ zz
            obtain ⟨e2, _⟩ := hok' b _ zz2
            rw [e] at e1; cases e1
            exact e2
  cases lkK : K.lookup a with
  | some o =>
    have e := inK a o lkK
    rw [at0] at e
    cases e
    refine main (fun _ => none) (fun _ => .inl rfl) (.inr ⟨_, vs.toArray, _, lkK, rfl, rfl, rfl, by rw [List.size_toArray, lv]; exact few, by simpa using rvs⟩) (fun b u zz => by have z' : (none : Option HO) = some u := zz; cases z') (fun b zz => absurd rfl zz) fun zz => absurd rfl zz
  | none =>
    refine main (fun b => if b = a then some (.frz { cls := .type "list", data := .seq vs.toArray } (.lst (ns.map V.int))) else none) (fun b => ?_) (.inl (.inr ⟨{ cls := .type "list", data := .seq vs.toArray }, if_pos rfl⟩)) (fun b u zz => ?_) (fun b zz => ?_) fun _ => lkK
    · by_cases bN : b = a
      · exact .inr ⟨_, _, if_pos bN⟩
      · exact .inl (if_neg bN)
    · by_cases bN : b = a
      · have z' := (if_pos bN).symm.trans zz
        cases z'
        subst bN
        exact ⟨at0, by rw [List.length_map]; exact few, vs, _, rvs, at0⟩
      · have z' := (if_neg bN).symm.trans zz
        cases z'
    · by_cases bN : b = a
      · exact bN
      · exact absurd (if_neg bN) zz
theorem walk_S {l : PySem.W.OpenLaw} {n k : Nat} {q : Program} {loose : List Str} {XP : (Str → Option Value) → Heap → Prop} {YP : World → Heap → Prop} {d : DefRec} {K : Params → PySem.W.Frag} {sp : World → Sp} {x : Str}
    (most : l.most = some n) (small : n ≤ sizeLine) (nodf : d.params.defaults = []) (room : Room k callerA) (imps : importsNone q = true) (inn : ∀ (w : World) (h : Heap), YP w h → (K w.params).In h)
    (F : ∀ (w : World) (mg : Str → Option Value) (fa : Addr) (h : Heap), (K w.params).In h → h.Ns mainGlobals mg → mg d.name = some (.ref fa) →
      ∃ fd : FuncData, (∀ (s : Shared) (u : Value), BindsTo s fd ⟨[u], []⟩ [(x, u)]) ∧ ∀ base : Heap, (K w.params).In base → base.Ns mainGlobals mg → SysAt base → FnG l.prog w (K w.params) mg base k fa fd [x] (sp w))
    (want : ∀ (w : World) (H : Hp) (a : Addr) (ns : List Int), ns.length ≤ n → SqL (K w.params) H a (ns.map V.int) → sp w [.ref a] H (fun v _ => v = .bl true) fun _ _ _ => False) :
    PySem.W.WalkO q loose XP YP l.row.toRowW d [] (fun f vs => PySem.call f vs) := by
  refine Att.attach_call most nodf fun w s₀ st mg mb fa o pm cd doc a vs ns G Y ho hd hcd hmg hobj hints hlen g0 => ?_
  have KI := inn w _ Y
  obtain ⟨fd, bd, good⟩ := F w mg fa _ KI G.T.g hmg
  exact law_callS KI G.T.g G.T.b G.T.builtins G.T.nolimit g0 hobj hints (Nat.le_trans hlen small) room (let ⟨mm, z, _⟩ := (G.T.seer imps).mods; ⟨mm, z⟩) good bd (fun H _ hS => want w H a ns hlen hS)
theorem df_mk {K : PySem.W.Frag} {h : Heap} {mg : Str → Option Value} {x : Str} {st : Stmt} {f : Addr} {oc : Value} {od an : Option Addr} {sl : Array (Option Value)} {kV doc pm cdv ct : Value} (X : K.In h) (G : h.Ns mainGlobals mg)
    (a : PySem.W.nsIn K mainGlobals x = some (some (.ref f))) (l : K.lookup f = some ⟨oc, od, .func (PySem.W.fnOf x x (defArgs st) (defBody st) (defScope st) .none kV doc pm an cdv ct), sl⟩) (c : PySem.W.codeIn K cdv x = true) (kp : PySem.W.keepIn K (.ref f) = true) : Df K mg x st :=
  ⟨f, _, PySem.W.mg_of X G a, fun_mk l c kp⟩
end Own

namespace Own
open PySem PySem.Spec PyProof.Rows L2 Evl
theorem all_mk {P : Program} {w : World} {K : PySem.W.Frag} {h : Heap} {mg : Str → Option Value} {fa : Addr} (X : K.In h) (G : h.Ns mainGlobals mg) (hfa : mg "law" = some (.ref fa))
    {od0 an0 : Option Addr} {sl0 : Array (Option Value)} {oc0 kV0 dc0 pm0 cd0 ct0 : Value} {f0 : Addr}
    {od1 an1 : Option Addr} {sl1 : Array (Option Value)} {oc1 kV1 dc1 pm1 cd1 ct1 : Value} {f1 : Addr}
    {od2 an2 : Option Addr} {sl2 : Array (Option Value)} {oc2 kV2 dc2 pm2 cd2 ct2 : Value} {f2 : Addr}
    {od3 an3 : Option Addr} {sl3 : Array (Option Value)} {oc3 kV3 dc3 pm3 cd3 ct3 : Value} {f3 : Addr}
    {od4 an4 : Option Addr} {sl4 : Array (Option Value)} {oc4 kV4 dc4 pm4 cd4 ct4 : Value} {f4 : Addr}
    {od5 an5 : Option Addr} {sl5 : Array (Option Value)} {oc5 kV5 dc5 pm5 cd5 ct5 : Value} {f5 : Addr}
    {od6 an6 : Option Addr} {sl6 : Array (Option Value)} {oc6 kV6 dc6 pm6 cd6 ct6 : Value} {f6 : Addr}
    {od7 an7 : Option Addr} {sl7 : Array (Option Value)} {oc7 kV7 dc7 pm7 cd7 ct7 : Value} {f7 : Addr}
    {od8 an8 : Option Addr} {sl8 : Array (Option Value)} {oc8 kV8 dc8 pm8 cd8 ct8 : Value} {f8 : Addr}
    {od9 an9 : Option Addr} {sl9 : Array (Option Value)} {oc9 kV9 dc9 pm9 cd9 ct9 : Value} {f9 : Addr}
    {od10 an10 : Option Addr} {sl10 : Array (Option Value)} {oc10 kV10 dc10 pm10 cd10 ct10 : Value} {f10 : Addr}
    {od11 an11 : Option Addr} {sl11 : Array (Option Value)} {oc11 kV11 dc11 pm11 cd11 ct11 : Value} {f11 : Addr}
    {od12 an12 : Option Addr} {sl12 : Array (Option Value)} {oc12 kV12 dc12 pm12 cd12 ct12 : Value} {f12 : Addr}
    {od13 an13 : Option Addr} {sl13 : Array (Option Value)} {oc13 kV13 dc13 pm13 cd13 ct13 : Value} {f13 : Addr}
    {od14 an14 : Option Addr} {sl14 : Array (Option Value)} {oc14 kV14 dc14 pm14 cd14 ct14 : Value} {f14 : Addr}
    {od15 an15 : Option Addr} {sl15 : Array (Option Value)} {oc15 kV15 dc15 pm15 cd15 ct15 : Value} {f15 : Addr}
    {od16 an16 : Option Addr} {sl16 : Array (Option Value)} {oc16 kV16 dc16 pm16 cd16 ct16 : Value} {f16 : Addr}
    {od17 an17 : Option Addr} {sl17 : Array (Option Value)} {oc17 kV17 dc17 pm17 cd17 ct17 : Value} {f17 : Addr}
    {od18 an18 : Option Addr} {sl18 : Array (Option Value)} {oc18 kV18 dc18 pm18 cd18 ct18 : Value} {f18 : Addr}
    {od19 an19 : Option Addr} {sl19 : Array (Option Value)} {oc19 kV19 dc19 pm19 cd19 ct19 : Value} {f19 : Addr}
    {od20 an20 : Option Addr} {sl20 : Array (Option Value)} {oc20 kV20 dc20 pm20 cd20 ct20 : Value} {f20 : Addr}
    {od21 an21 : Option Addr} {sl21 : Array (Option Value)} {oc21 kV21 dc21 pm21 cd21 ct21 : Value} {f21 : Addr}
    {od22 an22 : Option Addr} {sl22 : Array (Option Value)} {oc22 kV22 dc22 pm22 cd22 ct22 : Value} {f22 : Addr}
    {od23 an23 : Option Addr} {sl23 : Array (Option Value)} {oc23 kV23 dc23 pm23 cd23 ct23 : Value} {f23 : Addr}
    {od24 an24 : Option Addr} {sl24 : Array (Option Value)} {oc24 kV24 dc24 pm24 cd24 ct24 : Value} {f24 : Addr}
    {od25 an25 : Option Addr} {sl25 : Array (Option Value)} {oc25 kV25 dc25 pm25 cd25 ct25 : Value} {f25 : Addr} {rel C NR PE_ pp fIn fLn fGo fBo fRs fRo fCo fNa fTh fOw fAm fEn : Addr} {odR odIn anIn odLn anLn odGo anGo odBo anBo odRs anRs odRo anRo odCo anCo odNa anNa odTh anTh odOw anOw odAm anAm odEn anEn : Option Addr} {nR : Nat} {slR slIn slLn slGo slBo slRs slRo slCo slNa slTh slOw slAm slEn : Array (Option Value)} {tL t1 t2 t3 : Tok} {ocIn kVIn dcIn pmIn cdIn ctIn ocLn kVLn dcLn pmLn cdLn ctLn ocGo kVGo dcGo pmGo cdGo ctGo ocBo kVBo dcBo pmBo cdBo ctBo ocRs kVRs dcRs pmRs cdRs ctRs ocRo kVRo dcRo pmRo cdRo ctRo ocCo kVCo dcCo pmCo cdCo ctCo ocNa kVNa dcNa pmNa cdNa ctNa ocTh kVTh dcTh pmTh cdTh ctTh ocOw kVOw dcOw pmOw cdOw ctOw ocAm kVAm dcAm pmAm cdAm ctAm ocEn kVEn dcEn pmEn cdEn ctEn : Value} {rest : List Value} {nm2 qn2 : Str} {NN2 : Addr} {bs2 : List Value} {sn2 : List Str} {sub2 : List Value} {ab2 : Bool} {col2 : Option Bool} {ddW2 : Option Addr} {m02 m12 m22 m32 m52 : Option Value}
    (a0 : PySem.W.nsIn K mainGlobals "is_integer" = some (some (.ref f0))) (l0 : K.lookup f0 = some ⟨oc0, od0, .func (PySem.W.fnOf "is_integer" "is_integer" (defArgs s_is_integer) (defBody s_is_integer) (defScope s_is_integer) .none kV0 dc0 pm0 an0 cd0 ct0), sl0⟩) (c0 : PySem.W.codeIn K cd0 "is_integer" = true) (k0 : PySem.W.keepIn K (.ref f0) = true)
    (a1 : PySem.W.nsIn K mainGlobals "is_index" = some (some (.ref f1))) (l1 : K.lookup f1 = some ⟨oc1, od1, .func (PySem.W.fnOf "is_index" "is_index" (defArgs s_is_index) (defBody s_is_index) (defScope s_is_index) .none kV1 dc1 pm1 an1 cd1 ct1), sl1⟩) (c1 : PySem.W.codeIn K cd1 "is_index" = true) (k1 : PySem.W.keepIn K (.ref f1) = true)
    (a2 : PySem.W.nsIn K mainGlobals "is_name" = some (some (.ref f2))) (l2 : K.lookup f2 = some ⟨oc2, od2, .func (PySem.W.fnOf "is_name" "is_name" (defArgs s_is_name) (defBody s_is_name) (defScope s_is_name) .none kV2 dc2 pm2 an2 cd2 ct2), sl2⟩) (c2 : PySem.W.codeIn K cd2 "is_name" = true) (k2 : PySem.W.keepIn K (.ref f2) = true)
    (a3 : PySem.W.nsIn K mainGlobals "is_relation" = some (some (.ref f3))) (l3 : K.lookup f3 = some ⟨oc3, od3, .func (PySem.W.fnOf "is_relation" "is_relation" (defArgs s_is_relation) (defBody s_is_relation) (defScope s_is_relation) .none kV3 dc3 pm3 an3 cd3 ct3), sl3⟩) (c3 : PySem.W.codeIn K cd3 "is_relation" = true) (k3 : PySem.W.keepIn K (.ref f3) = true)
    (a4 : PySem.W.nsIn K mainGlobals "is_atom" = some (some (.ref f4))) (l4 : K.lookup f4 = some ⟨oc4, od4, .func (PySem.W.fnOf "is_atom" "is_atom" (defArgs s_is_atom) (defBody s_is_atom) (defScope s_is_atom) .none kV4 dc4 pm4 an4 cd4 ct4), sl4⟩) (c4 : PySem.W.codeIn K cd4 "is_atom" = true) (k4 : PySem.W.keepIn K (.ref f4) = true)
    (a5 : PySem.W.nsIn K mainGlobals "is_fact" = some (some (.ref f5))) (l5 : K.lookup f5 = some ⟨oc5, od5, .func (PySem.W.fnOf "is_fact" "is_fact" (defArgs s_is_fact) (defBody s_is_fact) (defScope s_is_fact) .none kV5 dc5 pm5 an5 cd5 ct5), sl5⟩) (c5 : PySem.W.codeIn K cd5 "is_fact" = true) (k5 : PySem.W.keepIn K (.ref f5) = true)
    (a6 : PySem.W.nsIn K mainGlobals "is_row" = some (some (.ref f6))) (l6 : K.lookup f6 = some ⟨oc6, od6, .func (PySem.W.fnOf "is_row" "is_row" (defArgs s_is_row) (defBody s_is_row) (defScope s_is_row) .none kV6 dc6 pm6 an6 cd6 ct6), sl6⟩) (c6 : PySem.W.codeIn K cd6 "is_row" = true) (k6 : PySem.W.keepIn K (.ref f6) = true)
    (a7 : PySem.W.nsIn K mainGlobals "marked" = some (some (.ref f7))) (l7 : K.lookup f7 = some ⟨oc7, od7, .func (PySem.W.fnOf "marked" "marked" (defArgs s_marked) (defBody s_marked) (defScope s_marked) .none kV7 dc7 pm7 an7 cd7 ct7), sl7⟩) (c7 : PySem.W.codeIn K cd7 "marked" = true) (k7 : PySem.W.keepIn K (.ref f7) = true)
    (a8 : PySem.W.nsIn K mainGlobals "marked_row" = some (some (.ref f8))) (l8 : K.lookup f8 = some ⟨oc8, od8, .func (PySem.W.fnOf "marked_row" "marked_row" (defArgs s_marked_row) (defBody s_marked_row) (defScope s_marked_row) .none kV8 dc8 pm8 an8 cd8 ct8), sl8⟩) (c8 : PySem.W.codeIn K cd8 "marked_row" = true) (k8 : PySem.W.keepIn K (.ref f8) = true)
    (a9 : PySem.W.nsIn K mainGlobals "are_rows" = some (some (.ref f9))) (l9 : K.lookup f9 = some ⟨oc9, od9, .func (PySem.W.fnOf "are_rows" "are_rows" (defArgs s_are_rows) (defBody s_are_rows) (defScope s_are_rows) .none kV9 dc9 pm9 an9 cd9 ct9), sl9⟩) (c9 : PySem.W.codeIn K cd9 "are_rows" = true) (k9 : PySem.W.keepIn K (.ref f9) = true)
    (a10 : PySem.W.nsIn K mainGlobals "_law_bag" = some (some (.ref f10))) (l10 : K.lookup f10 = some ⟨oc10, od10, .func (PySem.W.fnOf "_law_bag" "_law_bag" (defArgs s_l_bag) (defBody s_l_bag) (defScope s_l_bag) .none kV10 dc10 pm10 an10 cd10 ct10), sl10⟩) (c10 : PySem.W.codeIn K cd10 "_law_bag" = true) (k10 : PySem.W.keepIn K (.ref f10) = true)
    (a11 : PySem.W.nsIn K mainGlobals "_law_take" = some (some (.ref f11))) (l11 : K.lookup f11 = some ⟨oc11, od11, .func (PySem.W.fnOf "_law_take" "_law_take" (defArgs s_l_take) (defBody s_l_take) (defScope s_l_take) .none kV11 dc11 pm11 an11 cd11 ct11), sl11⟩) (c11 : PySem.W.codeIn K cd11 "_law_take" = true) (k11 : PySem.W.keepIn K (.ref f11) = true)
    (a12 : PySem.W.nsIn K mainGlobals "_law_alike" = some (some (.ref f12))) (l12 : K.lookup f12 = some ⟨oc12, od12, .func (PySem.W.fnOf "_law_alike" "_law_alike" (defArgs s_l_alike) (defBody s_l_alike) (defScope s_l_alike) .none kV12 dc12 pm12 an12 cd12 ct12), sl12⟩) (c12 : PySem.W.codeIn K cd12 "_law_alike" = true) (k12 : PySem.W.keepIn K (.ref f12) = true)
    (a13 : PySem.W.nsIn K mainGlobals "_law_some" = some (some (.ref f13))) (l13 : K.lookup f13 = some ⟨oc13, od13, .func (PySem.W.fnOf "_law_some" "_law_some" (defArgs s_l_some) (defBody s_l_some) (defScope s_l_some) .none kV13 dc13 pm13 an13 cd13 ct13), sl13⟩) (c13 : PySem.W.codeIn K cd13 "_law_some" = true) (k13 : PySem.W.keepIn K (.ref f13) = true)
    (a14 : PySem.W.nsIn K mainGlobals "_law_names" = some (some (.ref f14))) (l14 : K.lookup f14 = some ⟨oc14, od14, .func (PySem.W.fnOf "_law_names" "_law_names" (defArgs s_l_names) (defBody s_l_names) (defScope s_l_names) .none kV14 dc14 pm14 an14 cd14 ct14), sl14⟩) (c14 : PySem.W.codeIn K cd14 "_law_names" = true) (k14 : PySem.W.keepIn K (.ref f14) = true)
    (a15 : PySem.W.nsIn K mainGlobals "_law_world" = some (some (.ref f15))) (l15 : K.lookup f15 = some ⟨oc15, od15, .func (PySem.W.fnOf "_law_world" "_law_world" (defArgs s_l_world) (defBody s_l_world) (defScope s_l_world) .none kV15 dc15 pm15 an15 cd15 ct15), sl15⟩) (c15 : PySem.W.codeIn K cd15 "_law_world" = true) (k15 : PySem.W.keepIn K (.ref f15) = true)
    (a16 : PySem.W.nsIn K mainGlobals "_law_atom" = some (some (.ref f16))) (l16 : K.lookup f16 = some ⟨oc16, od16, .func (PySem.W.fnOf "_law_atom" "_law_atom" (defArgs s_l_atom) (defBody s_l_atom) (defScope s_l_atom) .none kV16 dc16 pm16 an16 cd16 ct16), sl16⟩) (c16 : PySem.W.codeIn K cd16 "_law_atom" = true) (k16 : PySem.W.keepIn K (.ref f16) = true)
    (a17 : PySem.W.nsIn K mainGlobals "_law_fact" = some (some (.ref f17))) (l17 : K.lookup f17 = some ⟨oc17, od17, .func (PySem.W.fnOf "_law_fact" "_law_fact" (defArgs s_l_fact) (defBody s_l_fact) (defScope s_l_fact) .none kV17 dc17 pm17 an17 cd17 ct17), sl17⟩) (c17 : PySem.W.codeIn K cd17 "_law_fact" = true) (k17 : PySem.W.keepIn K (.ref f17) = true)
    (a18 : PySem.W.nsIn K mainGlobals "_law_row" = some (some (.ref f18))) (l18 : K.lookup f18 = some ⟨oc18, od18, .func (PySem.W.fnOf "_law_row" "_law_row" (defArgs s_l_row) (defBody s_l_row) (defScope s_l_row) .none kV18 dc18 pm18 an18 cd18 ct18), sl18⟩) (c18 : PySem.W.codeIn K cd18 "_law_row" = true) (k18 : PySem.W.keepIn K (.ref f18) = true)
    (a19 : PySem.W.nsIn K mainGlobals "_law_rows" = some (some (.ref f19))) (l19 : K.lookup f19 = some ⟨oc19, od19, .func (PySem.W.fnOf "_law_rows" "_law_rows" (defArgs s_l_rows) (defBody s_l_rows) (defScope s_l_rows) .none kV19 dc19 pm19 an19 cd19 ct19), sl19⟩) (c19 : PySem.W.codeIn K cd19 "_law_rows" = true) (k19 : PySem.W.keepIn K (.ref f19) = true)
    (a20 : PySem.W.nsIn K mainGlobals "_law_begun" = some (some (.ref f20))) (l20 : K.lookup f20 = some ⟨oc20, od20, .func (PySem.W.fnOf "_law_begun" "_law_begun" (defArgs s_l_begun) (defBody s_l_begun) (defScope s_l_begun) .none kV20 dc20 pm20 an20 cd20 ct20), sl20⟩) (c20 : PySem.W.codeIn K cd20 "_law_begun" = true) (k20 : PySem.W.keepIn K (.ref f20) = true)
    (a21 : PySem.W.nsIn K mainGlobals "_law_odd" = some (some (.ref f21))) (l21 : K.lookup f21 = some ⟨oc21, od21, .func (PySem.W.fnOf "_law_odd" "_law_odd" (defArgs s_l_odd) (defBody s_l_odd) (defScope s_l_odd) .none kV21 dc21 pm21 an21 cd21 ct21), sl21⟩) (c21 : PySem.W.codeIn K cd21 "_law_odd" = true) (k21 : PySem.W.keepIn K (.ref f21) = true)
    (a22 : PySem.W.nsIn K mainGlobals "_law_told" = some (some (.ref f22))) (l22 : K.lookup f22 = some ⟨oc22, od22, .func (PySem.W.fnOf "_law_told" "_law_told" (defArgs s_l_told) (defBody s_l_told) (defScope s_l_told) .none kV22 dc22 pm22 an22 cd22 ct22), sl22⟩) (c22 : PySem.W.codeIn K cd22 "_law_told" = true) (k22 : PySem.W.keepIn K (.ref f22) = true)
    (a23 : PySem.W.nsIn K mainGlobals "_law_due" = some (some (.ref f23))) (l23 : K.lookup f23 = some ⟨oc23, od23, .func (PySem.W.fnOf "_law_due" "_law_due" (defArgs s_l_due) (defBody s_l_due) (defScope s_l_due) .none kV23 dc23 pm23 an23 cd23 ct23), sl23⟩) (c23 : PySem.W.codeIn K cd23 "_law_due" = true) (k23 : PySem.W.keepIn K (.ref f23) = true)
    (a24 : PySem.W.nsIn K mainGlobals "_law_right" = some (some (.ref f24))) (l24 : K.lookup f24 = some ⟨oc24, od24, .func (PySem.W.fnOf "_law_right" "_law_right" (defArgs s_l_right) (defBody s_l_right) (defScope s_l_right) .none kV24 dc24 pm24 an24 cd24 ct24), sl24⟩) (c24 : PySem.W.codeIn K cd24 "_law_right" = true) (k24 : PySem.W.keepIn K (.ref f24) = true)
    (a25 : PySem.W.nsIn K mainGlobals "law" = some (some (.ref f25))) (l25 : K.lookup f25 = some ⟨oc25, od25, .func (PySem.W.fnOf "law" "law" (defArgs s_law) (defBody s_law) (defScope s_law) .none kV25 dc25 pm25 an25 cd25 ct25), sl25⟩) (c25 : PySem.W.codeIn K cd25 "law" = true) (k25 : PySem.W.keepIn K (.ref f25) = true)
    (z_abs : PySem.W.nsIn K mainGlobals "abs" = some none)
    (z_int : PySem.W.nsIn K mainGlobals "int" = some none)
    (z_len : PySem.W.nsIn K mainGlobals "len" = some none)
    (z_tuple : PySem.W.nsIn K mainGlobals "tuple" = some none)
    (z_list : PySem.W.nsIn K mainGlobals "list" = some none)
    (z_all : PySem.W.nsIn K mainGlobals "all" = some none)
    (z_any : PySem.W.nsIn K mainGlobals "any" = some none)
    (z_zip : PySem.W.nsIn K mainGlobals "zip" = some none)
    (z_range : PySem.W.nsIn K mainGlobals "range" = some none)
    (z_repr : PySem.W.nsIn K mainGlobals "repr" = some none)
    (z_dict : PySem.W.nsIn K mainGlobals "dict" = some none)
    (z_isinstance : PySem.W.nsIn K mainGlobals "isinstance" = some none)
    (z_str : PySem.W.nsIn K mainGlobals "str" = some none)
    (z_bool : PySem.W.nsIn K mainGlobals "bool" = some none)
    (z_sorted : PySem.W.nsIn K mainGlobals "sorted" = some none)
    (z_set : PySem.W.nsIn K mainGlobals "set" = some none)
    (z_sum : PySem.W.nsIn K mainGlobals "sum" = some none)
    (z_enumerate : PySem.W.nsIn K mainGlobals "enumerate" = some none)
    (gLong : PySem.W.nsIn K mainGlobals "LONGEST_NAME" = some (some (.int 8 tL)))
    (gRel : PySem.W.nsIn K mainGlobals "RELATIONS" = some (some (.ref rel)))
    (lRel : K.lookup rel = some ⟨.type "tuple", odR, .seq #[.str "eq" t1, .str "lt" t2, .str "gt" t3] nR, slR⟩)
    (gC : PySem.W.nsIn K mainGlobals "Start" = some (some (.ref C)))
    (gN : PySem.W.nsIn K mainGlobals "NoRow" = some (some (.ref NR)))
    (aIn : PySem.W.findIn K (.ref C) "__init__" = some (some (.ref fIn)))
    (iIn : PySem.W.isFn K (.ref fIn) = true)
    (lkIn : K.lookup fIn = some ⟨ocIn, odIn, .func (PySem.W.fnOf "__init__" "Start.__init__" (defArgs s_Start___init__) (defBody s_Start___init__) (defScope s_Start___init__) .none kVIn dcIn pmIn anIn cdIn ctIn), slIn⟩)
    (cIn : PySem.W.codeIn K cdIn "Start.__init__" = true)
    (kIn : PySem.W.keepIn K (.ref fIn) = true)
    (aLn : PySem.W.findIn K (.ref C) "__len__" = some (some (.ref fLn)))
    (iLn : PySem.W.isFn K (.ref fLn) = true)
    (lkLn : K.lookup fLn = some ⟨ocLn, odLn, .func (PySem.W.fnOf "__len__" "Start.__len__" (defArgs s_Start___len__) (defBody s_Start___len__) (defScope s_Start___len__) .none kVLn dcLn pmLn anLn cdLn ctLn), slLn⟩)
    (cLn : PySem.W.codeIn K cdLn "Start.__len__" = true)
    (kLn : PySem.W.keepIn K (.ref fLn) = true)
    (aGo : PySem.W.findIn K (.ref C) "goal" = some (some (.ref fGo)))
    (iGo : PySem.W.isFn K (.ref fGo) = true)
    (lkGo : K.lookup fGo = some ⟨ocGo, odGo, .func (PySem.W.fnOf "goal" "Start.goal" (defArgs s_Start_goal) (defBody s_Start_goal) (defScope s_Start_goal) .none kVGo dcGo pmGo anGo cdGo ctGo), slGo⟩)
    (cGo : PySem.W.codeIn K cdGo "Start.goal" = true)
    (kGo : PySem.W.keepIn K (.ref fGo) = true)
    (aBo : PySem.W.findIn K (.ref C) "book" = some (some (.ref fBo)))
    (iBo : PySem.W.isFn K (.ref fBo) = true)
    (lkBo : K.lookup fBo = some ⟨ocBo, odBo, .func (PySem.W.fnOf "book" "Start.book" (defArgs s_Start_book) (defBody s_Start_book) (defScope s_Start_book) .none kVBo dcBo pmBo anBo cdBo ctBo), slBo⟩)
    (cBo : PySem.W.codeIn K cdBo "Start.book" = true)
    (kBo : PySem.W.keepIn K (.ref fBo) = true)
    (aRs : PySem.W.findIn K (.ref C) "rows" = some (some (.ref fRs)))
    (iRs : PySem.W.isFn K (.ref fRs) = true)
    (lkRs : K.lookup fRs = some ⟨ocRs, odRs, .func (PySem.W.fnOf "rows" "Start.rows" (defArgs s_Start_rows) (defBody s_Start_rows) (defScope s_Start_rows) .none kVRs dcRs pmRs anRs cdRs ctRs), slRs⟩)
    (cRs : PySem.W.codeIn K cdRs "Start.rows" = true)
    (kRs : PySem.W.keepIn K (.ref fRs) = true)
    (aRo : PySem.W.findIn K (.ref C) "row" = some (some (.ref fRo)))
    (iRo : PySem.W.isFn K (.ref fRo) = true)
    (lkRo : K.lookup fRo = some ⟨ocRo, odRo, .func (PySem.W.fnOf "row" "Start.row" (defArgs s_Start_row) (defBody s_Start_row) (defScope s_Start_row) .none kVRo dcRo pmRo anRo cdRo ctRo), slRo⟩)
    (cRo : PySem.W.codeIn K cdRo "Start.row" = true)
    (kRo : PySem.W.keepIn K (.ref fRo) = true)
    (aCo : PySem.W.findIn K (.ref C) "__contains__" = some (some (.ref fCo)))
    (iCo : PySem.W.isFn K (.ref fCo) = true)
    (lkCo : K.lookup fCo = some ⟨ocCo, odCo, .func (PySem.W.fnOf "__contains__" "Start.__contains__" (defArgs s_Start___contains__) (defBody s_Start___contains__) (defScope s_Start___contains__) .none kVCo dcCo pmCo anCo cdCo ctCo), slCo⟩)
    (cCo : PySem.W.codeIn K cdCo "Start.__contains__" = true)
    (kCo : PySem.W.keepIn K (.ref fCo) = true)
    (aNa : PySem.W.findIn K (.ref C) "names" = some (some (.ref fNa)))
    (iNa : PySem.W.isFn K (.ref fNa) = true)
    (lkNa : K.lookup fNa = some ⟨ocNa, odNa, .func (PySem.W.fnOf "names" "Start.names" (defArgs s_Start_names) (defBody s_Start_names) (defScope s_Start_names) .none kVNa dcNa pmNa anNa cdNa ctNa), slNa⟩)
    (cNa : PySem.W.codeIn K cdNa "Start.names" = true)
    (kNa : PySem.W.keepIn K (.ref fNa) = true)
    (aTh : PySem.W.findIn K (.ref C) "things" = some (some (.ref fTh)))
    (iTh : PySem.W.isFn K (.ref fTh) = true)
    (lkTh : K.lookup fTh = some ⟨ocTh, odTh, .func (PySem.W.fnOf "things" "Start.things" (defArgs s_Start_things) (defBody s_Start_things) (defScope s_Start_things) .none kVTh dcTh pmTh anTh cdTh ctTh), slTh⟩)
    (cTh : PySem.W.codeIn K cdTh "Start.things" = true)
    (kTh : PySem.W.keepIn K (.ref fTh) = true)
    (aOw : PySem.W.findIn K (.ref C) "owners" = some (some (.ref fOw)))
    (iOw : PySem.W.isFn K (.ref fOw) = true)
    (lkOw : K.lookup fOw = some ⟨ocOw, odOw, .func (PySem.W.fnOf "owners" "Start.owners" (defArgs s_Start_owners) (defBody s_Start_owners) (defScope s_Start_owners) .none kVOw dcOw pmOw anOw cdOw ctOw), slOw⟩)
    (cOw : PySem.W.codeIn K cdOw "Start.owners" = true)
    (kOw : PySem.W.keepIn K (.ref fOw) = true)
    (pAt : PySem.W.findIn K (.ref C) "aim" = some (some (.ref pp)))
    (pGt : PySem.W.specialIn K (.ref pp) "__get__" = some (some (.builtin "property.__get__")))
    (pTk : PySem.W.takesIn K (.ref pp) = some true)
    (pRc : PySem.W.recIn K pp "property" = some (.ref fAm :: rest))
    (lkAm : K.lookup fAm = some ⟨ocAm, odAm, .func (PySem.W.fnOf "aim" "Start.aim" (defArgs s_Start_aim) (defBody s_Start_aim) (defScope s_Start_aim) .none kVAm dcAm pmAm anAm cdAm ctAm), slAm⟩)
    (cAm : PySem.W.codeIn K cdAm "Start.aim" = true)
    (kAm : PySem.W.keepIn K (.ref fAm) = true)
    (vL : K.lookup NR = some (excClassObj nm2 qn2 NR NN2 bs2 [.ref PE_, .type "ValueError", .type "Exception", .type "BaseException", .type "object"] true sn2 sub2 ab2 col2 ddW2 m02 m12 m22 m32 m52 "ValueError.__new__"))
    (vIn : PySem.W.findIn K (.ref NR) "__init__" = some (some (.ref fEn)))
    (vFn : PySem.W.typeIn K (.ref fEn) = some (.type "function"))
    (lkEn : K.lookup fEn = some ⟨ocEn, odEn, .func (PySem.W.fnOf "__init__" "NoRow.__init__" (defArgs s_NoRow___init__) (defBody s_NoRow___init__) (defScope s_NoRow___init__) .none kVEn dcEn pmEn anEn cdEn ctEn), slEn⟩)
    (cEn : PySem.W.codeIn K cdEn "NoRow.__init__" = true)
    (kEn : PySem.W.keepIn K (.ref fEn) = true)
    (vSa : PySem.W.findIn K (.ref NR) "__setattr__" = some (some (.builtin "object.__setattr__")))
    (vEx : PySem.W.subIn K (.ref NR) (.type "BaseException") = some true)
    (vTy : PySem.W.typeIn K (.ref NR) = some (.type "type"))
    (vKp : PySem.W.keepIn K (.ref NR) = true)
    (vNp : PySem.W.findIn K (.ref NR) "at" = some none)
    (pgC : PySem.W.plainGet K C Str.empty = true)
    (hdC : PySem.W.hasDictIn K C = true)
    (poC : PySem.W.plainOver K C = true)
    (saC : PySem.W.findIn K (.ref C) "__setattr__" = some (some (.builtin "object.__setattr__")))
    (mkC : PySem.W.makesIn K C = true)
    (kcC : PySem.W.keepIn K (.ref C) = true)
    (nA1 : PySem.W.findIn K (.ref C) "goal_rows" = some none)
    (nA2 : PySem.W.findIn K (.ref C) "book_rows" = some none)
    (nA3 : PySem.W.findIn K (.ref C) "aim_atom" = some none) :
    ∃ fd : FuncData, (∀ (s : Shared) (v : Value), BindsTo s fd ⟨[v], []⟩ [("_law_script", v)]) ∧ ∀ base : Heap, K.In base → base.Ns mainGlobals mg → SysAt base → FnG P w K mg base 8 fa fd ["_law_script"] (spLaw K) := by
  have e := hfa.symm.trans (PySem.W.mg_of X G a25)
  cases e
  have D_is_integer : Df K mg "is_integer" s_is_integer := df_mk X G a0 l0 c0 k0
  have D_is_index : Df K mg "is_index" s_is_index := df_mk X G a1 l1 c1 k1
  have D_is_name : Df K mg "is_name" s_is_name := df_mk X G a2 l2 c2 k2
  have D_is_relation : Df K mg "is_relation" s_is_relation := df_mk X G a3 l3 c3 k3
  have D_is_atom : Df K mg "is_atom" s_is_atom := df_mk X G a4 l4 c4 k4
  have D_is_fact : Df K mg "is_fact" s_is_fact := df_mk X G a5 l5 c5 k5
  have D_is_row : Df K mg "is_row" s_is_row := df_mk X G a6 l6 c6 k6
  have D_marked : Df K mg "marked" s_marked := df_mk X G a7 l7 c7 k7
  have D_marked_row : Df K mg "marked_row" s_marked_row := df_mk X G a8 l8 c8 k8
  have D_are_rows : Df K mg "are_rows" s_are_rows := df_mk X G a9 l9 c9 k9
  have D_l_bag : Df K mg "_law_bag" s_l_bag := df_mk X G a10 l10 c10 k10
  have D_l_take : Df K mg "_law_take" s_l_take := df_mk X G a11 l11 c11 k11
  have D_l_alike : Df K mg "_law_alike" s_l_alike := df_mk X G a12 l12 c12 k12
  have D_l_some : Df K mg "_law_some" s_l_some := df_mk X G a13 l13 c13 k13
  have D_l_names : Df K mg "_law_names" s_l_names := df_mk X G a14 l14 c14 k14
  have D_l_world : Df K mg "_law_world" s_l_world := df_mk X G a15 l15 c15 k15
  have D_l_atom : Df K mg "_law_atom" s_l_atom := df_mk X G a16 l16 c16 k16
  have D_l_fact : Df K mg "_law_fact" s_l_fact := df_mk X G a17 l17 c17 k17
  have D_l_row : Df K mg "_law_row" s_l_row := df_mk X G a18 l18 c18 k18
  have D_l_rows : Df K mg "_law_rows" s_l_rows := df_mk X G a19 l19 c19 k19
  have D_l_begun : Df K mg "_law_begun" s_l_begun := df_mk X G a20 l20 c20 k20
  have D_l_odd : Df K mg "_law_odd" s_l_odd := df_mk X G a21 l21 c21 k21
  have D_l_told : Df K mg "_law_told" s_l_told := df_mk X G a22 l22 c22 k22
  have D_l_due : Df K mg "_law_due" s_l_due := df_mk X G a23 l23 c23 k23
  have D_l_right : Df K mg "_law_right" s_l_right := df_mk X G a24 l24 c24 k24
  have F_law := fun_mk (st := s_law) l25 c25 k25
  refine ⟨PySem.W.fnOf "law" "law" (defArgs s_law) (defBody s_law) (defScope s_law) .none kV25 dc25 pm25 an25 cd25 ct25, fun s v => .of_eq rfl, fun base _ _ hsys => ?_⟩
  have T : Txt0 mg := ⟨PySem.W.mg_none_of X G z_abs, PySem.W.mg_none_of X G z_int, PySem.W.mg_none_of X G z_len, PySem.W.mg_none_of X G z_tuple, PySem.W.mg_none_of X G z_list, PySem.W.mg_none_of X G z_all, PySem.W.mg_none_of X G z_any, PySem.W.mg_none_of X G z_zip, PySem.W.mg_none_of X G z_range, PySem.W.mg_none_of X G z_repr, PySem.W.mg_none_of X G z_dict⟩
  have TI : TxtI K mg rel := ⟨PySem.W.mg_none_of X G z_isinstance, PySem.W.mg_none_of X G z_str, PySem.W.mg_none_of X G z_bool, T.tuple, ⟨_, PySem.W.mg_of X G gLong⟩, PySem.W.mg_of X G gRel, fun H => .inr ⟨_, _, _, lRel, rfl, rfl, by show 3 ≤ sizeLine; decide, .cons ⟨_, rfl⟩ (.cons ⟨_, rfl⟩ (.cons ⟨_, rfl⟩ .nil))⟩⟩
  have TZ : TxtZ mg := ⟨PySem.W.mg_none_of X G z_sorted, PySem.W.mg_none_of X G z_set, PySem.W.mg_none_of X G z_sum, PySem.W.mg_none_of X G z_enumerate⟩
  have CL : Cls K C := ⟨pgC, hdC, poC, saC⟩
  have S : ClsS K C := ⟨CL, nA1, nA2, nA3⟩
  have hC := PySem.W.mg_of X G gC
  have ON : OexC K NR := ⟨⟨_, _, _, _, _, _, _, _, _, _, _, _, _, _, _, vL, rfl⟩, vSa, vEx, vTy, vKp⟩
  have FIn := fun_mk (st := s_Start___init__) lkIn cIn kIn
  have bIn := FIn.binds (ps := ["self", "goal", "book", "aim"]) fun _ _ _ _ _ _ us hl => match us, hl with | [_, _, _, _], _ => rfl
  have FLn := fun_mk (st := s_Start___len__) lkLn cLn kLn
  have bLn := FLn.binds (ps := ["self"]) fun _ _ _ _ _ _ us hl => match us, hl with | [_], _ => rfl
  have FGo := fun_mk (st := s_Start_goal) lkGo cGo kGo
  have bGo := FGo.binds (ps := ["self"]) fun _ _ _ _ _ _ us hl => match us, hl with | [_], _ => rfl
  have FBo := fun_mk (st := s_Start_book) lkBo cBo kBo
  have bBo := FBo.binds (ps := ["self"]) fun _ _ _ _ _ _ us hl => match us, hl with | [_], _ => rfl
  have FRs := fun_mk (st := s_Start_rows) lkRs cRs kRs
  have bRs := FRs.binds (ps := ["self", "home"]) fun _ _ _ _ _ _ us hl => match us, hl with | [_, _], _ => rfl
  have FRo := fun_mk (st := s_Start_row) lkRo cRo kRo
  have bRo := FRo.binds (ps := ["self", "home", "at"]) fun _ _ _ _ _ _ us hl => match us, hl with | [_, _, _], _ => rfl
  have FCo := fun_mk (st := s_Start___contains__) lkCo cCo kCo
  have bCo := FCo.binds (ps := ["self", "x"]) fun _ _ _ _ _ _ us hl => match us, hl with | [_, _], _ => rfl
  have FNa := fun_mk (st := s_Start_names) lkNa cNa kNa
  have bNa := FNa.binds (ps := ["self"]) fun _ _ _ _ _ _ us hl => match us, hl with | [_], _ => rfl
  have FTh := fun_mk (st := s_Start_things) lkTh cTh kTh
  have bTh := FTh.binds (ps := ["self"]) fun _ _ _ _ _ _ us hl => match us, hl with | [_], _ => rfl
  have FOw := fun_mk (st := s_Start_owners) lkOw cOw kOw
  have bOw := FOw.binds (ps := ["self", "home"]) fun _ _ _ _ _ _ us hl => match us, hl with | [_, _], _ => rfl
  have FAm := fun_mk (st := s_Start_aim) lkAm cAm kAm
  have bAm := FAm.binds (ps := ["self"]) fun _ _ _ _ _ _ us hl => match us, hl with | [_], _ => rfl
  have FEn := fun_mk (st := s_NoRow___init__) lkEn cEn kEn
  have bEn := FEn.binds (ps := ["self", "at"]) fun _ _ _ _ _ _ us hl => match us, hl with | [_, _], _ => rfl
  have EN : ErrF P w K mg base "NoRow" "at" NR := ⟨PySem.W.mg_of X G gN, ON, _, _, vIn, vFn, ok_i_NoRow ON vNp FEn, bEn⟩
  have c1 : CalG P w K mg base 1 "_law_take" spTake := take_ext (ok_takeL T D_l_take)
  have c2 := bag_ext (ok_bagL (P := P) (w := w) (base := base) T D_l_bag)
  have c3 := ok_some (K := K) T D_l_some c1
  have c4 := ok_names T D_l_names c1
  have c5 := ok_world T D_l_world c1 c4
  have c6 := ok_atom T D_l_atom c1 c3
  have c7 := ok_fact T D_l_fact c1 c6
  have c8 := ok_row T D_l_row c3 c7
  have c9 := ok_rows T D_l_rows c1 c8
  have c10 := ok_odd T D_l_odd c3
  have c12 := ok_is_name (P := P) (w := w) (base := base) T TI D_is_name
  have c13 := ok_is_relation (P := P) (w := w) (base := base) T TI D_is_relation
  have c14 := ok_is_atom T TI D_is_atom c13 c12
  have c15 := ok_is_fact T TI D_is_fact c14
  have c16 := ok_is_row T TI D_is_row c12 c15
  have c17 := ok_are_rows T TI ⟨T.list⟩ D_are_rows c16
  have c25 := ok_is_integer (P := P) (w := w) (base := base) T TI D_is_integer
  have c26 := ok_is_index (P := P) (w := w) (base := base) D_is_index c25
  have c27 := ok_marked_row (P := P) (w := w) (base := base) T D_marked_row
  have c28 := ok_marked T TZ.enum D_marked c27
  have c29 := ok_begun (P := P) (w := w) (base := base) T D_l_begun
  have c30 := ok_dueK (P := P) (w := w) (base := base) T TZ c29 D_l_due
  have c18 := ok_init S T FIn c17 c14
  have MK : MakG P w K mg base 6 "Start" C (spInit K C) := ⟨hC, _, _, _, c18, ⟨mkC, aIn, iIn, kcC⟩, bIn⟩
  have M_len : MetG P w K mg base 1 C "__len__" (spLen C) := ⟨CL, _, _, _, ok_len S T FLn, ⟨aLn, iLn, kLn⟩, bLn⟩
  have M_goal : MetG P w K mg base 1 C "goal" (spGiv C fun g _ => g) := ⟨CL, _, _, _, ok_goal S T FGo, ⟨aGo, iGo, kGo⟩, bGo⟩
  have M_book : MetG P w K mg base 1 C "book" (spGiv C fun _ k => k) := ⟨CL, _, _, _, ok_book S T FBo, ⟨aBo, iBo, kBo⟩, bBo⟩
  have M_rows : MetG P w K mg base 1 C "rows" (spRowsH C) := ⟨CL, _, _, _, ok_rowsH S T FRs, ⟨aRs, iRs, kRs⟩, bRs⟩
  have M_names : MetG P w K mg base 1 C "names" (spSrt C namesOf) := ⟨CL, _, _, _, ok_namesS S T TZ FNa, ⟨aNa, iNa, kNa⟩, bNa⟩
  have M_things : MetG P w K mg base 1 C "things" (spSrt C thsOf) := ⟨CL, _, _, _, ok_thingsS S T TZ FTh, ⟨aTh, iTh, kTh⟩, bTh⟩
  have M_owners : MetG P w K mg base 3 C "owners" (spOwn C) := ⟨CL, _, _, _, ok_owners S T M_rows c28 FOw, ⟨aOw, iOw, kOw⟩, bOw⟩
  have M_row : MetX P w K mg base 4 C "row" (spRowX C NR) := ⟨CL, _, _, _, ok_rowX T EN M_rows c26 FRo, ⟨aRo, iRo, kRo⟩, bRo⟩
  have MC : MetG P w K mg base 5 C "__contains__" (spCont C) := ⟨CL, _, _, _, ok_cont S T c16 FCo, ⟨aCo, iCo, kCo⟩, bCo⟩
  have FG : FnOk P w K mg base CX0 1 fAm _ ["self"] (getSp C "aim_atom") := ok_getaim S FAm
  have hp : PropOf K C "aim" pp fAm := ⟨pAt, pGt, pTk, ⟨_, pRc⟩⟩
  have c40 := ok_toldK S T M_goal M_book hp FG bAm M_len M_names M_things M_owners M_rows M_row D_l_told
  have c42 := ok_alk (P := P) (w := w) T hsys D_l_alike
  have c43 := ok_right T c1 c40 c30 c42 D_l_right
  exact ok_law S T F_law c2 c1 c5 c6 c8 c9 c10 c43 c42 MK MC
theorem walk {l : PySem.W.OpenLaw} {q : Program} {loose : List Str} {XP : (Str → Option Value) → Heap → Prop} {YP : World → Heap → Prop} {d : DefRec} {K : Params → PySem.W.Frag} (most : l.most = some 63) (nodf : d.params.defaults = [])
    (inn : ∀ (w : World) (h : Heap), YP w h → (K w.params).In h)
    (F : ∀ (w : World) (mg : Str → Option Value) (fa : Addr) (h : Heap), (K w.params).In h → h.Ns mainGlobals mg → mg d.name = some (.ref fa) →
      ∃ fd : FuncData, (∀ (s : Shared) (u : Value), BindsTo s fd ⟨[u], []⟩ [("_law_script", u)]) ∧ ∀ base : Heap, (K w.params).In base → base.Ns mainGlobals mg → SysAt base → FnG l.prog w (K w.params) mg base 8 fa fd ["_law_script"] (spLaw (K w.params))) (imps : importsNone q = true) :
    PySem.W.WalkO q loose XP YP l.row.toRowW d [] (fun f vs => PySem.call f vs) :=
  walk_S (n := 63) (k := 8) (x := "_law_script") (sp := fun w => spLaw (K w.params)) most (by decide) nodf ⟨rfl, by decide, by decide⟩ imps inn F (fun _ _ a ns hl hS => ⟨a, ns, rfl, hS, hl, fun _ => rfl⟩)
end Own
open PySem PySem.W PyProof.Rows in
set_option maxRecDepth 100000 in
set_option maxHeartbeats 0 in
theorem PySem.Challenge.cw_scriptpicks_k20_starts_told_holds : PySem.Challenge.rw_scriptpicks_k20_starts_told.Holds := by
  w_on; o_law; k_head; (case hw => w_witness2)
  k_fill
  refine Own.walk (l := PySem.Challenge.rw_scriptpicks_k20_starts_told) rfl rfl (fun w h Y => PySem.W.kIn_of Y) ?F ?imps
  case imps => decide +kernel
  case F =>
    intro w mg fa h KX G hmg
    refine' Own.all_mk KX G hmg ?a0 ?l0 ?c0 ?k0 ?a1 ?l1 ?c1 ?k1 ?a2 ?l2 ?c2 ?k2 ?a3 ?l3 ?c3 ?k3 ?a4 ?l4 ?c4 ?k4 ?a5 ?l5 ?c5 ?k5 ?a6 ?l6 ?c6 ?k6 ?a7 ?l7 ?c7 ?k7 ?a8 ?l8 ?c8 ?k8 ?a9 ?l9 ?c9 ?k9 ?a10 ?l10 ?c10 ?k10 ?a11 ?l11 ?c11 ?k11 ?a12 ?l12 ?c12 ?k12 ?a13 ?l13 ?c13 ?k13 ?a14 ?l14 ?c14 ?k14 ?a15 ?l15 ?c15 ?k15 ?a16 ?l16 ?c16 ?k16 ?a17 ?l17 ?c17 ?k17 ?a18 ?l18 ?c18 ?k18 ?a19 ?l19 ?c19 ?k19 ?a20 ?l20 ?c20 ?k20 ?a21 ?l21 ?c21 ?k21 ?a22 ?l22 ?c22 ?k22 ?a23 ?l23 ?c23 ?k23 ?a24 ?l24 ?c24 ?k24 ?a25 ?l25 ?c25 ?k25 ?z_abs ?z_int ?z_len ?z_tuple ?z_list ?z_all ?z_any ?z_zip ?z_range ?z_repr ?z_dict ?z_isinstance ?z_str ?z_bool ?z_sorted ?z_set ?z_sum ?z_enumerate ?gLong ?gRel ?lRel ?gC ?gN ?aIn ?iIn ?lkIn ?cIn ?kIn ?aLn ?iLn ?lkLn ?cLn ?kLn ?aGo ?iGo ?lkGo ?cGo ?kGo ?aBo ?iBo ?lkBo ?cBo ?kBo ?aRs ?iRs ?lkRs ?cRs ?kRs ?aRo ?iRo ?lkRo ?cRo ?kRo ?aCo ?iCo ?lkCo ?cCo ?kCo ?aNa ?iNa ?lkNa ?cNa ?kNa ?aTh ?iTh ?lkTh ?cTh ?kTh ?aOw ?iOw ?lkOw ?cOw ?kOw ?pAt ?pGt ?pTk ?pRc ?lkAm ?cAm ?kAm ?vL ?vIn ?vFn ?lkEn ?cEn ?kEn ?vSa ?vEx ?vTy ?vKp ?vNp ?pgC ?hdC ?poC ?saC ?mkC ?kcC ?nA1 ?nA2 ?nA3
    (case a0 => k_is)
    (case l0 => k_is)
    (case c0 => k_is)
    (case k0 => k_is)
    (case a1 => k_is)
    (case l1 => k_is)
    (case c1 => k_is)
    (case k1 => k_is)
    (case a2 => k_is)
    (case l2 => k_is)
    (case c2 => k_is)
    (case k2 => k_is)
    (case a3 => k_is)
    (case l3 => k_is)
    (case c3 => k_is)
    (case k3 => k_is)
    (case a4 => k_is)
    (case l4 => k_is)
    (case c4 => k_is)
    (case k4 => k_is)
    (case a5 => k_is)
    (case l5 => k_is)
    (case c5 => k_is)
    (case k5 => k_is)
    (case a6 => k_is)
    (case l6 => k_is)
    (case c6 => k_is)
    (case k6 => k_is)
    (case a7 => k_is)
    (case l7 => k_is)
    (case c7 => k_is)
    (case k7 => k_is)
    (case a8 => k_is)
    (case l8 => k_is)
    (case c8 => k_is)
    (case k8 => k_is)
    (case a9 => k_is)
    (case l9 => k_is)
    (case c9 => k_is)
    (case k9 => k_is)
    (case a10 => k_is)
    (case l10 => k_is)
    (case c10 => k_is)
    (case k10 => k_is)
    (case a11 => k_is)
    (case l11 => k_is)
    (case c11 => k_is)
    (case k11 => k_is)
    (case a12 => k_is)
    (case l12 => k_is)
    (case c12 => k_is)
    (case k12 => k_is)
    (case a13 => k_is)
    (case l13 => k_is)
    (case c13 => k_is)
    (case k13 => k_is)
    (case a14 => k_is)
    (case l14 => k_is)
    (case c14 => k_is)
    (case k14 => k_is)
    (case a15 => k_is)
    (case l15 => k_is)
    (case c15 => k_is)
    (case k15 => k_is)
    (case a16 => k_is)
    (case l16 => k_is)
    (case c16 => k_is)
    (case k16 => k_is)
    (case a17 => k_is)
    (case l17 => k_is)
    (case c17 => k_is)
    (case k17 => k_is)
    (case a18 => k_is)
    (case l18 => k_is)
    (case c18 => k_is)
    (case k18 => k_is)
    (case a19 => k_is)
    (case l19 => k_is)
    (case c19 => k_is)
    (case k19 => k_is)
    (case a20 => k_is)
    (case l20 => k_is)
    (case c20 => k_is)
    (case k20 => k_is)
    (case a21 => k_is)
    (case l21 => k_is)
    (case c21 => k_is)
    (case k21 => k_is)
    (case a22 => k_is)
    (case l22 => k_is)
    (case c22 => k_is)
    (case k22 => k_is)
    (case a23 => k_is)
    (case l23 => k_is)
    (case c23 => k_is)
    (case k23 => k_is)
    (case a24 => k_is)
    (case l24 => k_is)
    (case c24 => k_is)
    (case k24 => k_is)
    (case a25 => k_is)
    (case l25 => k_is)
    (case c25 => k_is)
    (case k25 => k_is)
    (case z_abs => k_is)
    (case z_int => k_is)
    (case z_len => k_is)
    (case z_tuple => k_is)
    (case z_list => k_is)
    (case z_all => k_is)
    (case z_any => k_is)
    (case z_zip => k_is)
    (case z_range => k_is)
    (case z_repr => k_is)
    (case z_dict => k_is)
    (case z_isinstance => k_is)
    (case z_str => k_is)
    (case z_bool => k_is)
    (case z_sorted => k_is)
    (case z_set => k_is)
    (case z_sum => k_is)
    (case z_enumerate => k_is)
    (case gLong => k_is)
    (case gRel => k_is)
    (case lRel => k_is)
    (case gC => k_is)
    (case gN => k_is)
    (case aIn => k_is)
    (case iIn => k_is)
    (case lkIn => k_is)
    (case cIn => k_is)
    (case kIn => k_is)
    (case aLn => k_is)
    (case iLn => k_is)
    (case lkLn => k_is)
    (case cLn => k_is)
    (case kLn => k_is)
    (case aGo => k_is)
    (case iGo => k_is)
    (case lkGo => k_is)
    (case cGo => k_is)
    (case kGo => k_is)
    (case aBo => k_is)
    (case iBo => k_is)
    (case lkBo => k_is)
    (case cBo => k_is)
    (case kBo => k_is)
    (case aRs => k_is)
    (case iRs => k_is)
    (case lkRs => k_is)
    (case cRs => k_is)
    (case kRs => k_is)
    (case aRo => k_is)
    (case iRo => k_is)
    (case lkRo => k_is)
    (case cRo => k_is)
    (case kRo => k_is)
    (case aCo => k_is)
    (case iCo => k_is)
    (case lkCo => k_is)
    (case cCo => k_is)
    (case kCo => k_is)
    (case aNa => k_is)
    (case iNa => k_is)
    (case lkNa => k_is)
    (case cNa => k_is)
    (case kNa => k_is)
    (case aTh => k_is)
    (case iTh => k_is)
    (case lkTh => k_is)
    (case cTh => k_is)
    (case kTh => k_is)
    (case aOw => k_is)
    (case iOw => k_is)
    (case lkOw => k_is)
    (case cOw => k_is)
    (case kOw => k_is)
    (case pAt => k_is)
    (case pGt => k_is)
    (case pTk => k_is)
    (case pRc => k_is)
    (case lkAm => k_is)
    (case cAm => k_is)
    (case kAm => k_is)
    (case vL => k_is)
    (case vIn => k_is)
    (case vFn => k_is)
    (case lkEn => k_is)
    (case cEn => k_is)
    (case kEn => k_is)
    (case vSa => k_is)
    (case vEx => k_is)
    (case vTy => k_is)
    (case vKp => k_is)
    (case vNp => k_is)
    (case pgC => k_is)
    (case hdC => k_is)
    (case poC => k_is)
    (case saC => k_is)
    (case mkC => k_is)
    (case kcC => k_is)
    (case nA1 => k_is)
    (case nA2 => k_is)
    (case nA3 => k_is)
