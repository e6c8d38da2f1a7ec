import PyProof.Rows.All
import Wide.All
import OpenK.AllK
import Wide.FinOn
import HandS.ForMost
import HandS.ForExc
import HandS.TupAny
import HandS.Deep
import HandS.IsInst
import HandS.Zip
import HandS.Rev
import HandS.Property
import HandS.DictComp
import HandS.Flow
import HandS.Wide
import HandS.RaiseMore
import HandS.Style
import HandS.TupMul
import HandS.Walk
import HandS.Base
import HandS.Call
import HandS.Exc
import HandS.ExcInit
import KE.KIsAll
import KE.KTryMore
import HandS.ExcIs
import HandS.ExcField
import HandS.MakeKwOnly
import HandS.Lambda
import HandS.EndTab
import PySem.Challenge.RW_seldomseen_k75_errors_with_any_value
set_option Elab.async false
set_option linter.all false
set_option maxRecDepth 100000
set_option maxHeartbeats 8000000
/-! SdA: defs that are called where no repr is under way; the law's end for such -/
namespace Sd
open PySem PySem.Spec PyProof.Rows L2

/-- a def's promise where nothing is being shown around the call -/
structure FnG (P : Program) (w : World) (K : PySem.W.Frag) (mg : Str → Option Value) (base : Heap) (cx : CXT)
    (k : Nat) (f : Addr) (fd : FuncData) (ps : List Str) (sp : Sp) : Prop where
  many : ∀ vs H Q E, sp vs H Q E → vs.length = ps.length
  go : ∀ (A : Around) (out : List Env) (s : Shared) (H : Hp) (args : Args) (us : List Value) (vs : List V) (Q : VK) (E : XK),
    A.guards = some [] → Room k A → Env0 P w K mg base A out s H → BindsTo s fd args (ps.zip us) →
    Vals vs us → sp vs H Q E → codeAny (model P w) A (.call (.ref f) args) (CR cx out P w H s Q E) s

section
variable {P : Program} {w : World} {K : PySem.W.Frag} {mg : Str → Option Value} {base : Heap} {cx : CXT}
variable {k j : Nat} {f : Addr} {fd : FuncData} {ps : List Str} {sp : Sp}
theorem FnG.of (o : FnOk P w K mg base cx k f fd ps sp) : FnG P w K mg base cx k f fd ps sp :=
  ⟨o.len, fun A out s H args us vs Q E _ hr => o.run A out s H args us vs Q E hr⟩
theorem FnG.up (o : FnG P w K mg base cx j f fd ps sp) (h : j ≤ k) : FnG P w K mg base cx k f fd ps sp :=
  ⟨o.many, fun A out s H args us vs Q E g r => o.go A out s H args us vs Q E g (r.mono h)⟩
end

section
variable {X : Cx} {cx : CXT} {k : Nat} {f : Addr} {fd : FuncData} {ps : List Str} {sp : Sp} {dvs : List V} {ds : List Value}
variable {E : XK} {x : Str} {p pos : Pos} {e : Expr} {es : List Expr} {t : TA}
theorem go_fn {pins : List (Addr × Obj)} {σ : L2.St} {H : Hp} {s : Shared} {Q : VK} {us : List Value} {vs : List V}
    (o : FnG X.prog X.w X.K X.mg X.base cx k f fd ps sp) (hG : X.A.guards = some []) (hr : Room k X.A)
    (hb : Binds X.K fd ps ds) (hd : Vals dvs ds) (hx : Passes cx X E) (I : Inv X pins σ H s) (r : Vals vs us)
    (h : sp (vs ++ dvs) H Q E) : wpAny (model X.prog X.w) X.A (call (.ref f) us) (EP X pins σ Q) X.xe s := by
  have r2 := r.append hd
  have hl : (us ++ ds).length = ps.length := r2.length.symm.trans (o.many _ _ _ _ h)
  refine wpAny_call (codeAny_mono (o.go X.A X.stack s H ⟨us, []⟩ (us ++ ds) (vs ++ dvs) Q E hG hr I.env0
    (hb s us I.kIn hl) r2 h) ?_)
  intro z s' hq
  match z, hq with
  | .error e, hq => exact hx pins σ H s e s' I hq
  | .ok (.ret u), hq => exact I.after hq
  | .ok .next, hq => exact hq.elim
  | .ok .brk, hq => exact hq.elim
  | .ok .cont, hq => exact hq.elim
/-- f(e, ..) -/
theorem pe_callG (o : FnG X.prog X.w X.K X.mg X.base cx k f fd ps sp) (hG : X.A.guards = some []) (hr : Room k X.A)
    (hg : Gl X x) (hm : X.mg x = some (.ref f)) (hk : PySem.W.keepIn X.K (.ref f) = true) (hb : Binds X.K fd ps ds)
    (hd : Vals dvs ds) (hx : Passes cx X E) (ha : PA X (e :: es) t) (hdb : (x == ("__debug__" : Str)) = false := by decide)
    (he : starEach (e :: es) X.env = (false, eval e X.env) :: starEach es X.env := by rfl)
    (hpl : (backTo pos (starEach es X.env)).any (·.1) = false := by rfl) :
    PE X (.Call (.Name x p) (e :: es) [] pos) (tCall sp dvs E t) := by
  constructor
  intro pins s σ H Q I h
  refine wpAny_Call_Name_kw (ld_glob I hg hm ?_ hdb)
  refine PySem.W.callWith_K (h₀ := X.base) I.ok.mod.kin hk (thn (ha.run pos pins s σ H _ I h) ?_) he hpl
  rintro us s1 ⟨vs, H1, I1, r, q⟩
  exact ⟨I1.kIn, go_fn o hG hr hb hd hx I1 r q⟩
/-- f() -/
theorem pe_callG0 (o : FnG X.prog X.w X.K X.mg X.base cx k f fd ps sp) (hG : X.A.guards = some []) (hr : Room k X.A)
    (hg : Gl X x) (hm : X.mg x = some (.ref f)) (hk : PySem.W.keepIn X.K (.ref f) = true) (hb : Binds X.K fd ps ds)
    (hd : Vals dvs ds) (hx : Passes cx X E) (hdb : (x == ("__debug__" : Str)) = false := by decide) :
    PE X (.Call (.Name x p) [] [] pos) (tCall sp dvs E tNil) := by
  constructor
  intro pins s σ H Q I h
  refine wpAny_Call_Name_kw (ld_glob I hg hm ?_ hdb)
  exact PySem.W.callWith_K0 I.kIn hk (go_fn (us := []) o hG hr hb hd hx I .nil h)
end

/-- a def by its body, where nothing is being shown -/
theorem fnG_of {cx : CXT} {P : Program} {w : World} {K : PySem.W.Frag} {mg : Str → Option Value} {base : Heap} {k : Nat} {f : Addr}
    {name qual : Str} {params : Arguments} {body : List Stmt} {sc : Scope} {dV kV doc pm cdv ct oc : Value} {an od : Option Addr}
    {osl : Array (Option Value)} {N ps : List Str} {sp : Sp}
    (lk : K.lookup f = some ⟨oc, od, .func (PySem.W.fnOf name qual params body sc dV kV doc pm an cdv ct), osl⟩)
    (hcd : PySem.W.codeIn K cdv qual = true) (S : FnScope N ps sc) (many : ∀ vs H Q E, sp vs H Q E → vs.length = ps.length)
    (hb : ∀ (A : Around) (out : List Env) (s : Shared) (H : Hp) (vs : List V) (Q : VK) (E : XK), A.guards = some [] →
      Room k (A.deeper (envOfC qual sc s.heap.objs.size f cdv)) → sp vs H Q E →
      ∃ t, PSs (cxOf cx P w K mg base N qual sc f cdv A out s H E) body t ∧ t { nx := fun _ H' => Q .non H', rt := Q } (start N vs) H) :
    FnG P w K mg base cx (k + 1) f (PySem.W.fnOf name qual params body sc dV kV doc pm an cdv ct) ps sp := by
  refine ⟨many, ?_⟩
  intro A out s H args us vs Q E hG hr e0 hbi r hsp
  have hl := many _ _ _ _ hsp
  have KX : K.In s.heap := e0.mod.kin.keeps fun b o e => (e0.bs b o e).1
  have lim : s.heap.NoLimit := e0.mod.nolimit.keeps fun b o e => (e0.bs b o e).1
  have hk : ∀ y ∈ ps.zip us, sc.names.lookup y.1 = some .local ∨
      (sc.names.lookup y.1 = some .cell ∧ ((cellsFrom (s.heap.objs.size + 1) sc.names []).lookup y.1).isSome = true) := by
    rintro ⟨n, v⟩ hy
    rcases S.par n (List.of_mem_zip hy).1 with q | q
    · exact .inl q
    · exact .inr ⟨q, PySem.W.cellsFrom_some _ _ _ (.inl q)⟩
  refine codeAny_call_function hr.depth (KX _ _ lk) rfl S.co S.gen rfl (PySem.W.codeRec_of KX hcd) (hbi _ _ _ _ ?_)
  refine wpAny_newFunctionEnv_cells S.kind hk fun env he s1 x => ?_
  subst he
  refine ⟨lim.keeps x.toInCall.keep, codeAny_func ?_⟩
  obtain ⟨t, ht, hq⟩ := hb A out s H vs Q E hG (hr.deeper _) hsp
  have I : Inv (cxOf cx P w K mg base N qual sc f cdv A out s H E) [] (start N vs) H s1 := inv_start S hr.hd e0 hl r x
  refine wpAny_mono (ht.run [] s1 (start N vs) H _ I hq) ?_ fun e s' hs => hs
  have fin : ∀ {σ' : L2.St} {H' : Hp} {v : V} {u : Value} {s' : Shared},
      Inv (cxOf cx P w K mg base N qual sc f cdv A out s H E) [] σ' H' s' → RelV v u → Q v H' → CE out P w H s Q u s' :=
    fun {_ H' v _ _} J rv q => ⟨v, H', J.os, J.bare, J.base, J.hok, rv, q⟩
  intro fl s' hs
  match fl, hs with
  | .ret u, ⟨v, σ', H', J, rv, q⟩ => exact fin J rv q
  | .next, ⟨σ', H', J, q⟩ => exact fin (v := V.non) (u := Value.none) J rfl q
  | .brk, ⟨_, _, _, q⟩ => exact q.elim
  | .cont, ⟨_, _, _, q⟩ => exact q.elim
theorem Fun.okG {P : Program} {w : World} {K : PySem.W.Frag} {mg : Str → Option Value} {base : Heap} {x qual : Str} {st : Stmt} {f : Addr}
    {fd : FuncData} {N ps : List Str} {k : Nat} {sp : Sp} (F : Fun K x qual st f fd) (S : FnScope N ps (defScope st))
    (many : ∀ vs H Q E, sp vs H Q E → vs.length = ps.length)
    (hb : ∀ (cdv : Value) (A : Around) (out : List Env) (s : Shared) (H : Hp) (vs : List V) (Q : VK) (E : XK), A.guards = some [] →
      Room k (A.deeper (envOfC qual (defScope st) s.heap.objs.size f cdv)) → sp vs H Q E →
      ∃ t, PSs (cxOf (L2.CX P w) P w K mg base N qual (defScope st) f cdv A out s H E) (defBody st) t ∧
        t { nx := fun _ H' => Q .non H', rt := Q } (start N vs) H) : FnG P w K mg base (L2.CX P w) (k + 1) f fd ps sp := by
  obtain ⟨oc, od, kV, doc, pm, an, cdv, ct, osl, rfl, lk, hcd⟩ := F.ex
  exact fnG_of lk hcd S many fun A out s H vs Q E g hr h => hb cdv A out s H vs Q E g hr h

end Sd
/-! SdB: how heaps go on, repr of data, rules for operands of several kinds -/
namespace Sd
open PySem PySem.Spec PyProof.Rows L2

/-! ### how the tracked heap goes on -/
/-- what nothing changes -/
def Fix : HO → Bool
  | .tup _ | .ins _ _ _ | .own _ | .frz _ _ | .rng _ _ | .met _ _ => true
  | _ => false
/-- from H to H' nothing but lists and dicts among M has changed -/
structure Go (M : List Addr) (H H' : Hp) : Prop where
  old : ∀ b o, b ∉ M → H b = some o → H' b = some o
  fix : ∀ b o, Fix o = true → H b = some o → H' b = some o
theorem Go.refl (M : List Addr) (H : Hp) : Go M H H := ⟨fun _ _ _ h => h, fun _ _ _ h => h⟩
theorem Go.trans {M : List Addr} {H H1 H2 : Hp} (a : Go M H H1) (b : Go M H1 H2) : Go M H H2 :=
  ⟨fun c o n h => b.old c o n (a.old c o n h), fun c o n h => b.fix c o n (a.fix c o n h)⟩
theorem Go.mono {M N : List Addr} {H H' : Hp} (a : Go M H H') (h : ∀ b ∈ M, b ∈ N) : Go N H H' :=
  ⟨fun c o n => a.old c o fun z => n (h c z), a.fix⟩
theorem Go.wide {M : List Addr} {H H' : Hp} (a : Go [] H H') : Go M H H' := a.mono fun _ h => nomatch h
theorem Go.new {M : List Addr} {H : Hp} {p : Addr} {o : HO} (h : H p = none) : Go M H (upd H p o) :=
  ⟨fun b u _ e => by rw [upd_ne (ne_of_none e h)]; exact e, fun b u _ e => by rw [upd_ne (ne_of_none e h)]; exact e⟩
theorem Go.put {M : List Addr} {H : Hp} {p : Addr} {o u : HO} (h : H p = some u) (hf : Fix u = false) (hp : p ∈ M) : Go M H (upd H p o) :=
  ⟨fun b v n e => by rw [upd_ne fun z => n (by rw [z]; exact hp)]; exact e, fun b v f e => by
    rw [upd_ne fun z => ?_]
    · exact e
    · subst z; rw [h] at e; cases e; rw [hf] at f; cases f⟩
theorem Go.free {M : List Addr} {H H' : Hp} (g : Go M H H') {p : Addr} (hm : p ∉ M) (h : H' p = none) : H p = none := by
  cases e : H p with
  | none => rfl
  | some o => rw [g.old p o hm e] at h; cases h
theorem Go.same {H H' : Hp} (g : Go [] H H') : Same H H' := fun b o e => g.old b o (fun z => nomatch z) e
theorem Go.ofSame {H H' : Hp} (g : Same H H') : Go [] H H' := ⟨fun b o _ e => g b o e, fun b o _ e => g b o e⟩
/-- a change of what was not there -/
theorem Go.mut {M : List Addr} {H H' : Hp} {p : Addr} {o : HO} (g : Go M H H') (h : H p = none) : Go M H (upd H' p o) :=
  ⟨fun b u n e => by rw [upd_ne (ne_of_none e h)]; exact g.old b u n e, fun b u n e => by rw [upd_ne (ne_of_none e h)]; exact g.fix b u n e⟩
theorem Go.sqT {K : PySem.W.Frag} {M : List Addr} {H H' : Hp} {a : Addr} {xs : List V} (g : Go M H H') (h : SqT K H a xs) : SqT K H' a xs := by
  rcases h with (h | ⟨o, h⟩) | h
  · exact .inl (.inl (g.fix _ _ rfl h))
  · exact .inl (.inr ⟨o, g.fix _ _ rfl h⟩)
  · exact .inr h
theorem Go.sqL {K : PySem.W.Frag} {H H' : Hp} {a : Addr} {xs : List V} (g : Go [] H H') (h : SqL K H a xs) : SqL K H' a xs := g.same.seq h

/-! ### data of tuples alone -/
mutual
def imm : PyData → Bool
  | .none | .bool _ | .int _ | .str _ => true
  | .tuple ds => immAll ds
  | .list _ | .dict _ => false
def immAll : List PyData → Bool
  | [] => true
  | d :: ds => imm d && immAll ds
end
mutual
theorem Dp.go' {K : PySem.W.Frag} {M : List Addr} {H H' : Hp} (g : Go M H H') : ∀ (d : PyData) (v : V), Dp K H v d → imm d = true → Dp K H' v d
  | .none, _, h, _ => by cases h; exact .non
  | .bool b, _, h, _ => by cases h; exact .bl b
  | .int i, _, h, _ => by cases h; exact .int i
  | .str x, _, h, _ => by cases h; exact .str x
  | .tuple ds, _, h, i => by
    cases h with
    | tup h a => exact .tup (g.sqT h) (DpAll.go' g ds _ a (by simpa only [imm] using i))
  | .list _, _, _, i => by simp [imm] at i
  | .dict _, _, h, _ => by cases h
theorem DpAll.go' {K : PySem.W.Frag} {M : List Addr} {H H' : Hp} (g : Go M H H') : ∀ (ds : List PyData) (vs : List V), DpAll K H vs ds → immAll ds = true → DpAll K H' vs ds
  | [], _, h, _ => by cases h; exact .nil
  | d :: ds, _, h, i => by
    cases h with
    | cons h t =>
      simp only [immAll, Bool.and_eq_true] at i
      exact .cons (Dp.go' g d _ h i.1) (DpAll.go' g ds _ t i.2)
end
mutual
theorem Dp.go0' {K : PySem.W.Frag} {H H' : Hp} (g : Go [] H H') : ∀ (d : PyData) (v : V), Dp K H v d → Dp K H' v d
  | .none, _, h => by cases h; exact .non
  | .bool b, _, h => by cases h; exact .bl b
  | .int i, _, h => by cases h; exact .int i
  | .str x, _, h => by cases h; exact .str x
  | .tuple ds, _, h => by
    cases h with
    | tup h a => exact .tup (g.sqT h) (DpAll.go0' g ds _ a)
  | .list ds, _, h => by
    cases h with
    | lst h a => exact .lst (g.sqL h) (DpAll.go0' g ds _ a)
  | .dict _, _, h => by cases h
theorem DpAll.go0' {K : PySem.W.Frag} {H H' : Hp} (g : Go [] H H') : ∀ (ds : List PyData) (vs : List V), DpAll K H vs ds → DpAll K H' vs ds
  | [], _, h => by cases h; exact .nil
  | d :: ds, _, h => by
    cases h with
    | cons h t => exact .cons (Dp.go0' g d _ h) (DpAll.go0' g ds _ t)
end
theorem Dp.go {K : PySem.W.Frag} {M : List Addr} {H H' : Hp} (g : Go M H H') {v : V} {d : PyData} (h : Dp K H v d) (i : imm d = true) : Dp K H' v d := Dp.go' g d v h i
theorem DpAll.go {K : PySem.W.Frag} {M : List Addr} {H H' : Hp} (g : Go M H H') {v : List V} {d : List PyData} (h : DpAll K H v d) (i : immAll d = true) : DpAll K H' v d := DpAll.go' g d v h i
theorem Dp.go0 {K : PySem.W.Frag} {H H' : Hp} (g : Go [] H H') {v : V} {d : PyData} (h : Dp K H v d) : Dp K H' v d := Dp.go0' g d v h
theorem DpAll.go0 {K : PySem.W.Frag} {H H' : Hp} (g : Go [] H H') {v : List V} {d : List PyData} (h : DpAll K H v d) : DpAll K H' v d := DpAll.go0' g d v h
theorem DpAll.len {K : PySem.W.Frag} {H : Hp} : ∀ {vs : List V} {ds : List PyData}, DpAll K H vs ds → vs.length = ds.length
  | [], _, h => by cases h; rfl
  | v :: vs, _, h => by
    cases h with
    | cons h t => exact congrArg (· + 1) (DpAll.len (vs := vs) t)
theorem DpAll.at {K : PySem.W.Frag} {H : Hp} : ∀ {vs : List V} {ds : List PyData} {i : Nat} {v : V}, DpAll K H vs ds → vs[i]? = some v → ∃ d, ds[i]? = some d ∧ Dp K H v d
  | [], _, _, _, _, e => by simp at e
  | w :: vs, _, i, v, h, e => by
    cases h with
    | cons h t =>
      cases i with
      | zero =>
        simp at e
        subst e
        exact ⟨_, rfl, h⟩
      | succ i =>
        obtain ⟨d, h1, h2⟩ := DpAll.at (vs := vs) (i := i) t (by simpa using e)
        exact ⟨d, by simpa using h1, h2⟩
theorem DpAll.atD {K : PySem.W.Frag} {H : Hp} : ∀ {vs : List V} {ds : List PyData} {i : Nat} {d : PyData}, DpAll K H vs ds → ds[i]? = some d → ∃ v, vs[i]? = some v ∧ Dp K H v d
  | [], _, _, _, h, e => by
    cases h
    simp at e
  | w :: vs, _, i, d, h, e => by
    cases h with
    | cons h t =>
      cases i with
      | zero =>
        simp at e
        subst e
        exact ⟨_, rfl, h⟩
      | succ i =>
        obtain ⟨d, h1, h2⟩ := DpAll.atD (vs := vs) (i := i) t (by simpa using e)
        exact ⟨d, by simpa using h1, h2⟩
theorem DpAll.app {K : PySem.W.Frag} {H : Hp} : ∀ {vs ws : List V} {ds es : List PyData}, DpAll K H vs ds → DpAll K H ws es → DpAll K H (vs ++ ws) (ds ++ es)
  | [], _, _, _, h, s => by cases h; exact s
  | v :: vs, _, _, _, h, s => by
    cases h with
    | cons h t => exact .cons h (DpAll.app (vs := vs) t s)
theorem DpAll.strs {K : PySem.W.Frag} {H : Hp} : ∀ (ss : List Str), DpAll K H (ss.map V.str) (ss.map PyData.str)
  | [] => .nil
  | s :: ss => .cons (.str s) (DpAll.strs ss)
theorem DpAll.ints {K : PySem.W.Frag} {H : Hp} : ∀ (ss : List Int), DpAll K H (ss.map V.int) (ss.map PyData.int)
  | [] => .nil
  | s :: ss => .cons (.int s) (DpAll.ints ss)
theorem DpAll.strs_inv {K : PySem.W.Frag} {H : Hp} : ∀ {ss : List Str} {vs : List V}, DpAll K H vs (ss.map PyData.str) → vs = ss.map V.str
  | [], _, h => by cases h; rfl
  | s :: ss, _, h => by
    cases h with
    | cons h t =>
      cases h
      rw [DpAll.strs_inv t]
      rfl
theorem DpAll.ints_inv {K : PySem.W.Frag} {H : Hp} : ∀ {ss : List Int} {vs : List V}, DpAll K H vs (ss.map PyData.int) → vs = ss.map V.int
  | [], _, h => by cases h; rfl
  | s :: ss, _, h => by
    cases h with
    | cons h t =>
      cases h
      rw [DpAll.ints_inv t]
      rfl
theorem dp_tup {K : PySem.W.Frag} {H : Hp} {p : Addr} {xs : List V} {ds : List PyData} (h : H p = some (.tup xs)) (a : DpAll K H xs ds) : Dp K H (.ref p) (.tuple ds) := .tup (SqT.of h) a
theorem imm_strs : ∀ ss : List Str, immAll (ss.map PyData.str) = true
  | [] => rfl
  | s :: ss => by simp only [List.map_cons, immAll, imm, imm_strs ss, Bool.and_self]
theorem imm_ints : ∀ ss : List Int, immAll (ss.map PyData.int) = true
  | [] => rfl
  | s :: ss => by simp only [List.map_cons, immAll, imm, imm_ints ss, Bool.and_self]

/-! ### new objects -/
theorem newO {M : List Addr} {H : Hp} {Q : VK} {o : HO} (k : ∀ p H', H p = none → Go M H H' → H' p = some o → Q (.ref p) H') : ∀ p, H p = none → Q (.ref p) (upd H p o) :=
  fun p hp => k p _ hp (Go.new hp) upd_same

/-! ### one expression, several readings -/
section
variable {X : Cx} {e : Expr} {es : List Expr}
theorem PE.or {t u : TE} (h1 : PE X e t) (h2 : PE X e u) : PE X e (fun σ H Q => t σ H Q ∨ u σ H Q) :=
  ⟨fun pins s σ H Q I h => h.elim (h1.run pins s σ H Q I) (h2.run pins s σ H Q I)⟩
theorem OpR.or {f : Value → Value → Sem Value} {r q : R2} (h1 : OpR X f r) (h2 : OpR X f q) : OpR X f (fun x y H Q => r x y H Q ∨ q x y H Q) :=
  fun pins s σ H x y v u Q I rx ry h => h.elim (h1 pins s σ H x y v u Q I rx ry) (h2 pins s σ H x y v u Q I rx ry)
theorem PI.or {tg it : Expr} {t u : TI} (h1 : PI X tg it t) (h2 : PI X tg it u) : PI X tg it (fun σ H R => t σ H R ∨ u σ H R) :=
  ⟨fun pins s σ H R I h => h.elim (h1.run pins s σ H R I) (h2.run pins s σ H R I)⟩
theorem CallR.or {f : Value} {r q : List V → Hp → VK → Prop} (h1 : CallR X f r) (h2 : CallR X f q) : CallR X f (fun xs H Q => r xs H Q ∨ q xs H Q) :=
  fun pins s σ H xs us Q I rx h => h.elim (h1 pins s σ H xs us Q I rx) (h2 pins s σ H xs us Q I rx)
end

/-! ### repr of data -/
def rRepr (K : PySem.W.Frag) (A : Around) : List V → Hp → VK → Prop := fun xs H Q => ∃ v d, xs = [v] ∧ Dp K H v d ∧ d.showable = true ∧ d.shown.length ≤ sizeLine ∧
  A.units + (d.depth + 1) < cLine ∧ Q (.str d.shown) H
mutual
theorem dp_nodict {K : PySem.W.Frag} {H : Hp} : ∀ (d : PyData) (v : V), Dp K H v d → d.hasDict = false
  | .none, _, h => by simp only [PyData.hasDict]
  | .bool _, _, h => by simp only [PyData.hasDict]
  | .int _, _, h => by simp only [PyData.hasDict]
  | .str _, _, h => by simp only [PyData.hasDict]
  | .tuple ds, _, h => by
    cases h with
    | tup h a => simp only [PyData.hasDict]; exact dpAll_nodict ds _ a
  | .list ds, _, h => by
    cases h with
    | lst h a => simp only [PyData.hasDict]; exact dpAll_nodict ds _ a
  | .dict _, _, h => by cases h
theorem dpAll_nodict {K : PySem.W.Frag} {H : Hp} : ∀ (ds : List PyData) (vs : List V), DpAll K H vs ds → PyData.hasDictAll ds = false
  | [], _, _ => by simp only [PyData.hasDictAll]
  | d :: ds, _, h => by
    cases h with
    | cons h t => simp only [PyData.hasDictAll, dp_nodict d _ h, dpAll_nodict ds _ t, Bool.or_self]
end
theorem call_reprD {X : Cx} (hG : X.A.guards = some []) : CallR X (.builtin "repr") (rRepr X.K X.A) := by
  intro pins s σ H xs us Q I r h
  obtain ⟨v, d, rfl, hd, hs, hz, hu, q⟩ := h
  obtain ⟨u, rfl, rx⟩ := vals1 r
  obtain ⟨as, rd⟩ := Dp.reads I d v u hd rx
  have nd := dp_nodict d v hd
  cases hd with
  | non =>
    cases rx
    refine PySem.P.repr_of_none ⟨.str _, H, I.tok _, ⟨_, rfl⟩, ?_⟩
    exact q
  | bl b =>
    cases rx
    refine PySem.P.repr_of_bool ⟨.str _, H, I.tok _, ⟨_, rfl⟩, ?_⟩
    exact q
  | int i =>
    obtain ⟨t, rfl⟩ := rx
    refine PySem.P.repr_of_int (by simpa [PyData.showable] using hs) ⟨.str _, H, I.tok _, ⟨_, rfl⟩, ?_⟩
    exact q
  | str x =>
    obtain ⟨t, rfl⟩ := rx
    refine PySem.P.repr_of_str ⟨.str _, H, I.tok _, ⟨_, rfl⟩, ?_⟩ hz
    exact q
  | lst h a =>
    cases rx
    exact repr_of_reads' rd hs (fun e => by rw [nd] at e; cases e) hG hu (fun _ _ e => e) (fun h' u tk kp => ⟨.str _, H, I.kept (t' := tk) kp, ⟨_, rfl⟩, q⟩) hz
  | tup h a =>
    cases rx
    exact repr_of_reads' rd hs (fun e => by rw [nd] at e; cases e) hG hu (fun _ _ e => e) (fun h' u tk kp => ⟨.str _, H, I.kept (t' := tk) kp, ⟨_, rfl⟩, q⟩) hz
end Sd
/-! SdC: defs by their names; rules for operands of several kinds -/
namespace Sd
open PySem PySem.Spec PyProof.Rows L2

/-- where a law runs -/
structure Wd where
  P : Program
  w : World
  K : PySem.W.Frag
  mg : Str → Option Value
  base : Heap

/-- a def as the top left it -/
def At (c : Wd) (x qual : Str) (st : Stmt) (ps : List Str) : Prop :=
  ∃ (f : Addr) (fd : FuncData), c.mg x = some (.ref f) ∧ Fun c.K x qual st f fd ∧ Binds c.K fd ps []
/-- a def that keeps its promise; .. where nothing is being shown -/
def Ok (c : Wd) (x : Str) (k : Nat) (ps : List Str) (sp : Sp) : Prop :=
  ∃ (f : Addr) (fd : FuncData), c.mg x = some (.ref f) ∧ PySem.W.keepIn c.K (.ref f) = true ∧ Binds c.K fd ps [] ∧ FnOk c.P c.w c.K c.mg c.base (L2.CX c.P c.w) k f fd ps sp
def OkG (c : Wd) (x : Str) (k : Nat) (ps : List Str) (sp : Sp) : Prop :=
  ∃ (f : Addr) (fd : FuncData), c.mg x = some (.ref f) ∧ PySem.W.keepIn c.K (.ref f) = true ∧ Binds c.K fd ps [] ∧ FnG c.P c.w c.K c.mg c.base (L2.CX c.P c.w) k f fd ps sp
theorem Ok.g {c : Wd} {x : Str} {k : Nat} {ps : List Str} {sp : Sp} (o : Ok c x k ps sp) : OkG c x k ps sp := by
  obtain ⟨f, fd, h1, h2, h3, h4⟩ := o
  exact ⟨f, fd, h1, h2, h3, .of h4⟩
abbrev cxN (c : Wd) (N : List Str) (qual : Str) (st : Stmt) (f : Addr) (cdv : Value) (A : Around) (out : List Env) (s : Shared) (H : Hp) (E : XK) : Cx :=
  cxOf (L2.CX c.P c.w) c.P c.w c.K c.mg c.base N qual (defScope st) f cdv A out s H E
/-- a def that lets nothing out, by its body -/
theorem Ok.of {c : Wd} {x qual : Str} {st : Stmt} {N ps : List Str} {k : Nat} {sp : Sp} (F : At c x qual st ps) (S : FnScope N ps (defScope st))
    (len : ∀ vs H Q E, sp vs H Q E → vs.length = ps.length)
    (h : ∀ (f : Addr) (cdv : Value) (A : Around) (out : List Env) (s : Shared) (H : Hp) (vs : List V) (Q : VK) (E : XK),
      Room k (A.deeper (envOfC qual (defScope st) s.heap.objs.size f cdv)) → sp vs H Q E →
      ∃ t, PSs (cxN c N qual st f cdv A out s H E).nox (defBody st) t ∧ t { nx := fun _ H' => Q .non H', rt := Q } (start N vs) H) : Ok c x (k + 1) ps sp := by
  obtain ⟨f, fd, h1, h2, h3⟩ := F
  refine ⟨f, fd, h1, h2.kp, h3, h2.okX S len fun cdv A out s H vs Q E hr q => ?_⟩
  obtain ⟨t, a, b⟩ := h f cdv A out s H vs Q E hr q
  exact ⟨t, a.nox, b⟩
/-- .. that may raise -/
theorem Ok.ofX {c : Wd} {x qual : Str} {st : Stmt} {N ps : List Str} {k : Nat} {sp : Sp} (F : At c x qual st ps) (S : FnScope N ps (defScope st))
    (len : ∀ vs H Q E, sp vs H Q E → vs.length = ps.length)
    (h : ∀ (f : Addr) (cdv : Value) (A : Around) (out : List Env) (s : Shared) (H : Hp) (vs : List V) (Q : VK) (E : XK),
      Room k (A.deeper (envOfC qual (defScope st) s.heap.objs.size f cdv)) → sp vs H Q E →
      ∃ t, PSs (cxN c N qual st f cdv A out s H E) (defBody st) t ∧ t { nx := fun _ H' => Q .non H', rt := Q } (start N vs) H) : Ok c x (k + 1) ps sp := by
  obtain ⟨f, fd, h1, h2, h3⟩ := F
  exact ⟨f, fd, h1, h2.kp, h3, h2.okX S len fun cdv A out s H vs Q E hr q => h f cdv A out s H vs Q E hr q⟩
theorem OkG.of {c : Wd} {x qual : Str} {st : Stmt} {N ps : List Str} {k : Nat} {sp : Sp} (F : At c x qual st ps) (S : FnScope N ps (defScope st))
    (len : ∀ vs H Q E, sp vs H Q E → vs.length = ps.length)
    (h : ∀ (f : Addr) (cdv : Value) (A : Around) (out : List Env) (s : Shared) (H : Hp) (vs : List V) (Q : VK) (E : XK), A.guards = some [] →
      Room k (A.deeper (envOfC qual (defScope st) s.heap.objs.size f cdv)) → sp vs H Q E →
      ∃ t, PSs (cxN c N qual st f cdv A out s H E).nox (defBody st) t ∧ t { nx := fun _ H' => Q .non H', rt := Q } (start N vs) H) : OkG c x (k + 1) ps sp := by
  obtain ⟨f, fd, h1, h2, h3⟩ := F
  refine ⟨f, fd, h1, h2.kp, h3, Fun.okG h2 S len fun cdv A out s H vs Q E hG hr q => ?_⟩
  obtain ⟨t, a, b⟩ := h f cdv A out s H vs Q E hG hr q
  exact ⟨t, a.nox, b⟩

section
variable {X : Cx} {c : Wd} {x : Str} {k : Nat} {ps : List Str} {sp : Sp} {p pos : Pos} {e : Expr} {es : List Expr} {t : TA}
/-- the context is of the law's -/
structure Of (X : Cx) (c : Wd) : Prop where
  P : X.prog = c.P
  w : X.w = c.w
  K : X.K = c.K
  mg : X.mg = c.mg
  base : X.base = c.base
theorem pe_f (D : Ok c x k ps sp) (hr : Room k X.A) (hg : Gl X x) (ha : PA X (e :: es) t) (hc : Of X c := by exact ⟨rfl, rfl, rfl, rfl, rfl⟩)
    (hdb : (x == ("__debug__" : Str)) = false := by decide) (he : starEach (e :: es) X.env = (false, eval e X.env) :: starEach es X.env := by rfl)
    (hpl : (backTo pos (starEach es X.env)).any (·.1) = false := by rfl) : PE X (.Call (.Name x p) (e :: es) [] pos) (tCall sp [] E0 t) := by
  obtain ⟨f, fd, h1, h2, h3, h4⟩ := D
  obtain ⟨c1, c2, c3, c4, c5⟩ := hc
  subst_vars
  obtain ⟨P, w, K, mg, base⟩ := c
  dsimp only at c1 c2 c3 c4 c5
  subst c1 c2 c3 c4 c5
  exact pe_call h4 hr hg h1 h2 h3 .nil passL ha hdb he hpl
theorem pe_fG (D : OkG c x k ps sp) (hG : X.A.guards = some []) (hr : Room k X.A) (hg : Gl X x) (ha : PA X (e :: es) t) (hc : Of X c := by exact ⟨rfl, rfl, rfl, rfl, rfl⟩)
    (hdb : (x == ("__debug__" : Str)) = false := by decide) (he : starEach (e :: es) X.env = (false, eval e X.env) :: starEach es X.env := by rfl)
    (hpl : (backTo pos (starEach es X.env)).any (·.1) = false := by rfl) : PE X (.Call (.Name x p) (e :: es) [] pos) (tCall sp [] E0 t) := by
  obtain ⟨f, fd, h1, h2, h3, h4⟩ := D
  obtain ⟨c1, c2, c3, c4, c5⟩ := hc
  obtain ⟨P, w, K, mg, base⟩ := c
  dsimp only at c1 c2 c3 c4 c5
  subst c1 c2 c3 c4 c5
  exact pe_callG h4 hG hr hg h1 h2 h3 .nil passL ha hdb he hpl
end

theorem _root_.L2.Room.u5 {k : Nat} {A : Around} (r : Room k A) : A.units + 65 < cLine := by have := r.un; omega
/-! ### operands of several kinds -/
section
variable {X : Cx}
def rAddU (K : PySem.W.Frag) : R2 := fun x y H Q => ((rI0 fun i j => .int (i + j)) x y H Q ∨ (∃ i j, x = .str i ∧ y = .str j ∧ i.length + j.length ≤ sizeLine ∧ Q (.str (i ++ j)) H)) ∨ (rCat x y H Q ∨ rCatA K x y H Q)
variable {K : PySem.W.Frag}
theorem op_addU (hK : X.K = K := by rfl) : OpR X (binaryOp .Add) (rAddU K) := by subst hK; exact OpR.or (OpR.or op_add op_add_str) (OpR.or op_cat op_catA)
def rEqU (K : PySem.W.Frag) : R2 := fun x y H Q => rEq x y H Q ∨ rEqD K x y H Q
theorem op_eqU (hu : X.A.units + 64 < cLine) (hK : X.K = K := by rfl) : OpR X (compareOp .Eq) (rEqU K) := by subst hK; exact OpR.or op_eq (op_eqD hu)
def rNeU (K : PySem.W.Frag) : R2 := fun x y H Q => rNe x y H Q ∨ rNeD K x y H Q
theorem op_neU (hu : X.A.units + 64 < cLine) (hK : X.K = K := by rfl) : OpR X (compareOp .NotEq) (rNeU K) := by subst hK; exact OpR.or op_ne (op_neD hu)
/-- one sign in a text -/
def rSgn (neg : Bool) : R2 := fun x y H Q => ∃ (c : Nat) (z : Str), x = .str ⟨#[c]⟩ ∧ y = .str z ∧ Q (.bl (if neg then !decide (c ∈ z.cps.toList) else decide (c ∈ z.cps.toList))) H
def rInU (K : PySem.W.Frag) : R2 := fun x y H Q => (rIn K false x y H Q ∨ rSgn false x y H Q) ∨ rInD K x y H Q
theorem op_inU (hu : X.A.units + 65 < cLine) (hK : X.K = K := by rfl) : OpR X (compareOp .In) (rInU K) := by subst hK; exact OpR.or (OpR.or op_in_seq op_in_sign) (op_inD hu)
def rNiU (K : PySem.W.Frag) : R2 := fun x y H Q => (rIn K true x y H Q ∨ rSgn true x y H Q) ∨ rNotInD K x y H Q
theorem op_niU (hu : X.A.units + 65 < cLine) (hK : X.K = K := by rfl) : OpR X (compareOp .NotIn) (rNiU K) := by subst hK; exact OpR.or (OpR.or op_notIn_seq op_notIn_sign) (op_notInD hu)
def rLtU : R2 := fun x y H Q => (rI0 fun i j => .bl (decide (i < j))) x y H Q ∨ ∃ i j, x = .str i ∧ y = .str j ∧ Q (.bl (decide (i.cps.toList < j.cps.toList))) H
theorem op_ltU : OpR X (compareOp .Lt) rLtU := OpR.or op_lt op_lt_str
def rGtU : R2 := fun x y H Q => (rI0 fun i j => .bl (decide (j < i))) x y H Q ∨ ∃ i j, x = .str i ∧ y = .str j ∧ Q (.bl (decide (j.cps.toList < i.cps.toList))) H
theorem op_gtU : OpR X (compareOp .Gt) rGtU := OpR.or op_gt op_gt_str
def rMulU : R2 := fun x y H Q => (rI CMulW fun i j => .int (i * j)) x y H Q ∨ rRep x y H Q
theorem op_mulU : OpR X (binaryOp .Mult) rMulU := OpR.or op_mulW op_rep
def tIx (K : PySem.W.Frag) (ta tb : TE) : TE := fun σ H Q => tOp (rIx K) ta tb σ H Q ∨ tDGet ta tb σ H Q
theorem pe_ixU {a b : Expr} {ta tb : TE} {pos : Pos} (hu : X.A.units + 1 < cLine) (ha : PE X a ta) (hb : PE X b tb) (hs : PlainIx b) (hs' : NoSl b) (hK : X.K = K := by rfl) : PE X (.Subscript a b pos) (tIx K ta tb) := by
  subst hK
  exact PE.or (pe_ix ix_seq ha hb hs) (pe_dget hu ha hb hs')
def rSlU (K : PySem.W.Frag) : V → Option Int → Option Int → Hp → VK → Prop := fun x lo hi H Q => (rSlL K x lo hi H Q ∨ rSlA K x lo hi H Q) ∨ rSlS x lo hi H Q
theorem sl_U (hK : X.K = K := by rfl) : SlR X (rSlU K) := by subst hK; exact SlR.or (SlR.or sl_list sl_tupA) sl_str
def rLenU (K : PySem.W.Frag) : List V → Hp → VK → Prop := fun xs H Q => (∃ x n, xs = [x] ∧ LenV K x H n ∧ Q (.int n) H)
theorem call_lenU (hK : X.K = K := by rfl) : CallR X (.builtin "len") (rLenU K) := by subst hK; exact call_len
def iSeq (K : PySem.W.Frag) (te : TE) : TI := fun σ H R => (iList K te σ H R ∨ iTup K te σ H R) ∨ iStr te σ H R
theorem pi_seq {tg e : Expr} {te : TE} (h : PE X e te) (hK : X.K = K := by rfl) : PI X tg e (iSeq K te) := by subst hK; exact PI.or (PI.or (pi_list h) (pi_tup h)) (pi_str h)
theorem call_isiU (hK : X.K = K := by rfl) : CallR X (.builtin "isinstance") (rIsi K) := by subst hK; exact call_isi
theorem call_allU (hc : X.calm = true) (hK : X.K = K := by rfl) : CallR X (.builtin "all") (rAll K) := by subst hK; exact cr_all hc
theorem call_anyU (hc : X.calm = true) (hK : X.K = K := by rfl) : CallR X (.builtin "any") (rAny K) := by subst hK; exact cr_any hc
theorem call_sumU (hc : X.calm = true) (hK : X.K = K := by rfl) : CallR X (.builtin "sum") (rSum K) := by subst hK; exact cr_sum hc
theorem call_sortU (hK : X.K = K := by rfl) : CallR X (.builtin "sorted") (rSortedS K) := by subst hK; exact cr_sortedS
def rLstU (K : PySem.W.Frag) : List V → Hp → VK → Prop := fun xs H Q => ∃ p ys, xs = [.ref p] ∧ (SqL K H p ys ∨ SqT K H p ys) ∧ ∀ l, H l = none → Q (.ref l) (upd H l (.lst ys))
theorem call_lstU (hK : X.K = K := by rfl) : CallR X (.type "list") (rLstU K) := by subst hK; exact call_list_of
def rTupU (K : PySem.W.Frag) : List V → Hp → VK → Prop := fun xs H Q => ∃ p ys, xs = [.ref p] ∧ ((SqL K H p ys ∧ ∀ l, H l = none → Q (.ref l) (upd H l (.tup ys))) ∨ (SqT K H p ys ∧ Q (.ref p) H))
theorem call_tupU (hK : X.K = K := by rfl) : CallR X (.type "tuple") (rTupU K) := by subst hK; exact call_tuple_of
def rIntU : List V → Hp → VK → Prop := fun xs H Q => (∃ i, xs = [.int i] ∧ Q (.int i) H) ∨ ∃ k, xs = [.bl k] ∧ Q (.int (if k then 1 else 0)) H
theorem call_intU : CallR X (.type "int") rIntU := call_int1
def rAbsU : List V → Hp → VK → Prop := fun xs H Q => ∃ i, xs = [.int i] ∧ Q (.int (if i < 0 then -i else i)) H
theorem call_absU : CallR X (.builtin "abs") rAbsU := call_abs
theorem call_reprU (hG : X.A.guards = some []) {A : Around} (hK : X.K = K := by rfl) (hA : X.A = A := by rfl) : CallR X (.builtin "repr") (rRepr K A) := by subst hK hA; exact call_reprD hG
theorem pi_zipU {p pos tpos : Pos} {e e2 : Expr} {ta : TA} {elts : List Expr} {kk : Nat} (hg : Gl X "zip") (hm : X.mg "zip" = none) (ha : PA X [e, e2] ta) (hK : X.K = K := by rfl)
    (hs : starEach [e, e2] X.env = (false, eval e X.env) :: starEach [e2] X.env := by rfl) (hpl : (backTo pos (starEach [e2] X.env)).any (·.1) = false := by rfl) :
    PI X (.Tuple elts kk tpos) (.Call (.Name "zip" p) [e, e2] [] pos) (RZ.iZipA K ta) := by
  subst hK
  exact RZ.pi_zipA hg hm ha hs hpl
theorem pg_tupU {es : List Expr} {k : Nat} {t : TGs} {n : Nat} {pos : Pos} (hc : X.calm = true) (h : PGs X es t) (hK : X.K = K := by rfl)
    (hn : (assignEach es X.env).length = n := by rfl) (hst : (assignEach es X.env).findIdx? (·.1) = none := by rfl) : PG X (.Tuple es k pos) (gTup K n t) := by
  subst hK
  exact pg_tup hc h hn hst
end
end Sd
/-! SdD: constants, classes, numbers of any size; steps of a reading -/
namespace Sd
open PySem PySem.Spec PyProof.Rows L2

section
variable {X : Cx}
theorem pe_gi {x : Str} {i : Int} {pos : Pos} (h : ∃ t, X.mg x = some (.int i t)) (hg : Gl X x := by rfl) (hd : (x == ("__debug__" : Str)) = false := by decide) : PE X (.Name x pos) (tC (.int i)) := by
  obtain ⟨t, h⟩ := h
  exact pe_glob hg h ⟨t, rfl⟩ hd
theorem pe_gs {x : Str} {i : Str} {pos : Pos} (h : ∃ t, X.mg x = some (.str i t)) (hg : Gl X x := by rfl) (hd : (x == ("__debug__" : Str)) = false := by decide) : PE X (.Name x pos) (tC (.str i)) := by
  obtain ⟨t, h⟩ := h
  exact pe_glob hg h ⟨t, rfl⟩ hd
theorem pe_ty (x : Str) (T : String) {pos : Pos} (hg : Gl X x) (hm : X.mg x = none) (hv : bootBuiltins x = some (.type T)) (hn : x ≠ "__name__" := by decide) (hd : (x == ("__debug__" : Str)) = false := by decide) : PE X (.Name x pos) (tC (.ty T)) := pe_bltn hg hm hv rfl hn hd
/-- a ** b, together not above 2 ^ 27 bits -/
def CPowW (i j : Int) : Prop := 0 ≤ j ∧ (Builtin.Int.intBits i : Int) * j ≤ 2 ^ 27
def rPowU : R2 := rI CPowW fun i j => .int (i ^ j.toNat)
def rModU : R2 := rI (fun _ j => 0 < j) fun i j => .int (i % j)
def rFdU : R2 := rI CDivN fun i j => .int (i.fdiv j)
def rSubU : R2 := rI0 fun i j => .int (i - j)
theorem op_modU : OpR X (binaryOp .Mod) rModU := op_mod
theorem op_fdU : OpR X (binaryOp .FloorDiv) rFdU := op_fdivN
theorem op_subU : OpR X (binaryOp .Sub) rSubU := op_sub
theorem op_powU : OpR X (binaryOp .Pow) rPowU := by
  intro pins s σ H x y v u Q I rx ry h
  obtain ⟨i, j, rfl, rfl, hc, q⟩ := h
  obtain ⟨t, rfl⟩ := rx
  obtain ⟨t', rfl⟩ := ry
  exact pow_int hc.1 hc.2 ⟨.int _, H, I.tok _, ⟨_, rfl⟩, q⟩
end

/-! ### steps of a reading -/
section
variable {σ : L2.St} {H : Hp} {Q : VK} {K : PySem.W.Frag}
theorem r_c {v : V} (q : Q v H) : tC v σ H Q := q
theorem r_nil {Q : List V → Hp → Prop} (q : Q [] H) : tNil σ H Q := q
theorem r_ix {r : R2} {x y : V} (h : r x y H Q) : r x y H Q := h
theorem ixL {p : Addr} {xs : List V} {i : Nat} {v : V} (h : H p = some (.lst xs)) (hi : xs[i]? = some v) (q : Q v H) : rIx K (.ref p) (.int (i : Int)) H Q :=
  .inl ⟨p, xs, _, v, rfl, rfl, SqL.of h, atI_nat hi, q⟩
theorem ixT {p : Addr} {xs : List V} {i : Nat} {v : V} (h : SqT K H p xs) (hi : xs[i]? = some v) (q : Q v H) : rIx K (.ref p) (.int (i : Int)) H Q :=
  .inr (.inl ⟨p, xs, _, v, rfl, rfl, h, atI_nat hi, q⟩)
theorem r_addI {i j : Int} (q : Q (.int (i + j)) H) : rAddU K (.int i) (.int j) H Q := .inl (.inl ⟨i, j, rfl, rfl, q⟩)
theorem r_gtI {i j : Int} (q : Q (.bl (decide (j < i))) H) : rGtU (.int i) (.int j) H Q := .inl ⟨i, j, rfl, rfl, q⟩
theorem r_ltI {i j : Int} (q : Q (.bl (decide (i < j))) H) : rLtU (.int i) (.int j) H Q := .inl ⟨i, j, rfl, rfl, q⟩
theorem r_mulI {i j : Int} (h : CMulW i j) (q : Q (.int (i * j)) H) : rMulU (.int i) (.int j) H Q := .inl ⟨i, j, rfl, rfl, h, q⟩
theorem r_mod {i j : Int} (h : 0 < j) (q : ∀ m : Int, 0 ≤ m → m < j → m = i % j → Q (.int m) H) : rModU (.int i) (.int j) H Q :=
  ⟨i, j, rfl, rfl, h, q _ (Int.emod_nonneg i (by omega)) (Int.emod_lt_of_pos i h) rfl⟩
theorem r_subI {i j : Int} (q : Q (.int (i - j)) H) : rSubU (.int i) (.int j) H Q := ⟨i, j, rfl, rfl, q⟩
theorem r_pow {i j : Int} (h : CPowW i j) (q : ∀ m : Int, m = i ^ j.toNat → Q (.int m) H) : rPowU (.int i) (.int j) H Q := ⟨i, j, rfl, rfl, h, q _ rfl⟩
theorem r_fdiv {i j : Int} (h0 : 0 < j) (h : j < 1073741824) (q : ∀ m : Int, m = i / j → Q (.int m) H) : rFdU (.int i) (.int j) H Q :=
  ⟨i, j, rfl, rfl, ⟨by omega, by omega⟩, by show Q (.int (i.fdiv j)) H; rw [Int.fdiv_eq_ediv_of_nonneg i (by omega)]; exact q _ rfl⟩
end
end Sd
/-! SdE: comprehensions whose turns leave what they have met -/
namespace Sd
open PySem PySem.Spec PyProof.Rows L2

/-- what a turn gives leaves the heap, or lays a new tuple -/
def Yk (Y : Nat → Hp → V → Hp → Prop) : Prop := ∀ i H x H', Y i H x H' → Go [] H H'
theorem yk_at {xs : List V} : Yk (YAt xs) := fun _ H _ _ h => by rw [h.1]; exact Go.refl _ _
theorem yk_fn {f : Nat → V} : Yk (YFn f) := fun _ H _ _ h => by rw [h.1]; exact Go.refl _ _
theorem yk_pair {f g : Nat → Option V} : Yk (YPair f g) := fun _ H _ _ ⟨T, x, y, _, hT, e, _⟩ => by rw [e]; exact Go.new hT
/-- the signs of a text -/
def YSg (z : Str) : Nat → Hp → V → Hp → Prop := fun i H v H' => H' = H ∧ ∃ c, z.cps[i]? = some c ∧ v = .str ⟨#[c]⟩
theorem yk_sg {z : Str} : Yk (YSg z) := fun _ H _ _ h => by rw [h.1]; exact Go.refl _ _
theorem walk_sg {z : Str} : Walk (Its z) z.cps.size (fun _ => True) (YSg z) := walk_str

section
variable {J : It} {n : Nat} {G : Hp → Prop} {Y : Nat → Hp → V → Hp → Prop}
/-- [e for x in .. if t]: sel tells which turns are kept; R what a kept turn's item is; Z what more stands between the turns (by the cells of M alone) -/
theorem lc_fil (w : Walk J n G Y) {g : TG} {tt : TT} {te : TE} {vs : List Nat} {σ : L2.St} {H1 : Hp} {D : Addr} {Qd : Hp → Prop} (M : List Addr) (Z : Nat → Hp → Prop) (R : Nat → V → Hp → Prop) (sel : Nat → Bool)
    (hy : Yk Y) (hn : n ≤ 100000) (hD : H1 D = none) (hM : ∀ a ∈ M, H1 a ≠ none) (gG : ∀ H, Go M H1 H → G H) (z0 : Z 0 H1) (zm : ∀ i H H', Z i H → (∀ a ∈ M, H' a = H a) → Z i H')
    (rm : ∀ i y N H H', Go N H H' → R i y H → R i y H')
    (turn : ∀ i x H H' (Fin : V → Hp → Prop) (Skip : Hp → Prop), i < n → Go M H1 H → Go [] H H' → Z i H → Y i H x H' →
      (∀ y H4, sel i = true → Go M H H4 → Z (i + 1) H4 → R i y H4 → Fin y H4) → (∀ H3, sel i = false → Go M H H3 → Z (i + 1) H3 → Skip H3) →
      g x (wipe σ vs) H' fun σ2 H2 => wipe σ2 vs = wipe σ vs ∧ tt σ2 H2 fun b H3 => if b = true then te σ2 H3 Fin else Skip H3)
    (done : ∀ H ys, Go M H1 H → Z n H → H D = some (.lst ys) → ys.length = ((List.range n).filter sel).length → (∀ (k : Nat) (y : V) (i : Nat), ys[k]? = some y → ((List.range n).filter sel)[k]? = some i → R i y H) → Qd H) :
    ∃ W : Nat → Nat → Hp → Prop, (∃ m, W 0 m (upd H1 D (.lst []))) ∧ ∀ i m H, W i m H →
      (J.stop i H ∧ Qd H) ∨ (J.go i H ∧ ∃ Nx : Hp → Prop, (∀ H', Nx H' → ∃ m', m' < m ∧ W (i + 1) m' H') ∧ ∀ x H', J.yld i H x H' → g x (wipe σ vs) H' fun σ2 H2 => wipe σ2 vs = wipe σ vs ∧ tt σ2 H2 fun b H3 =>
        if b = true then te σ2 H3 fun y H4 => ∃ acc, H4 D = some (.lst acc) ∧ acc.length < sizeLine ∧ Nx (upd H4 D (.lst (acc ++ [y]))) else Nx H3) := by
  have hDM : D ∉ M := fun h => hM D h hD
  have nM : ∀ {H : Hp} {o : HO}, ∀ a ∈ M, (upd H D o) a = H a := fun a ha => upd_ne fun e => hDM (e ▸ ha)
  refine lc_it w (fun i H => ∃ ys, Go M H1 H ∧ Z i H ∧ H D = some (.lst ys) ∧ ys.length = ((List.range i).filter sel).length ∧ ∀ (k : Nat) (y : V) (j : Nat), ys[k]? = some y → ((List.range i).filter sel)[k]? = some j → R j y H)
    ⟨[], (Go.refl M H1).mut hD, zm 0 H1 _ z0 nM, upd_same, rfl, fun k y j e => by simp at e⟩ (fun i H _ ⟨_, g1, _⟩ => gG H g1) ?_ (fun H ⟨ys, g1, z, d, l, r⟩ => done H ys g1 z d l r)
  rintro i x H H' hi ⟨ys, g1, z, d, l, r⟩ y
  have gy : Go [] H H' := hy i H x H' y
  have hlen : ys.length ≤ i := by rw [l]; exact Nat.le_trans (List.length_filter_le _ _) (by simp)
  have el : (List.range (i + 1)).filter sel = (List.range i).filter sel ++ (if sel i = true then [i] else []) := by
    rw [List.range_succ, List.filter_append]
    congr 1
    by_cases hs : sel i = true
    · simp [hs]
    · simp [hs]
  refine turn i x H H' _ _ hi g1 gy z y ?_ ?_
  · intro v H4 hb g4 z4 r4
    have d4 : H4 D = some (.lst ys) := g4.old D _ hDM d
    refine ⟨ys, d4, Nat.lt_of_lt_of_le (Nat.lt_succ_of_le hlen) (Nat.le_trans (show i + 1 ≤ 100000 by omega) (by decide)), ys ++ [v], (g1.trans g4).mut hD, zm _ H4 _ z4 nM, upd_same, ?_, ?_⟩
    · rw [el, if_pos hb]
      simp [l]
    · have gD : Go [D] H4 (upd H4 D (.lst (ys ++ [v]))) := Go.put d4 rfl (List.Mem.head _)
      intro k y' j ek ej
      rw [el, if_pos hb] at ej
      by_cases hk : k < ys.length
      · rw [List.getElem?_append_left hk] at ek
        rw [List.getElem?_append_left (by omega)] at ej
        exact rm _ _ _ _ _ gD (rm _ _ _ _ _ g4 (r k y' j ek ej))
      · have hk2 : k = ys.length := by
          have := (List.getElem?_eq_some_iff.mp ek).1
          simp at this
          omega
        subst hk2
        rw [List.getElem?_append_right (Nat.le_refl _)] at ek
        rw [l, List.getElem?_append_right (Nat.le_refl _)] at ej
        simp at ek ej
        subst ek ej
        exact rm _ _ _ _ _ gD r4
  · intro H3 hb g3 z3
    have d3 : H3 D = some (.lst ys) := g3.old D _ hDM d
    refine ⟨ys, g1.trans g3, z3, d3, ?_, ?_⟩
    · rw [el, hb]
      simpa using l
    · intro k y' j ek ej
      rw [el, hb] at ej
      exact rm _ _ _ _ _ g3 (r k y' j ek (by simpa using ej))
/-- [e for x in ..] -/
theorem lc_map (w : Walk J n G Y) {g : TG} {te : TE} {vs : List Nat} {σ : L2.St} {H1 : Hp} {D : Addr} {Qd : Hp → Prop} (M : List Addr) (Z : Nat → Hp → Prop) (R : Nat → V → Hp → Prop)
    (hy : Yk Y) (hn : n ≤ 100000) (hD : H1 D = none) (hM : ∀ a ∈ M, H1 a ≠ none) (gG : ∀ H, Go M H1 H → G H) (z0 : Z 0 H1) (zm : ∀ i H H', Z i H → (∀ a ∈ M, H' a = H a) → Z i H')
    (rm : ∀ i y N H H', Go N H H' → R i y H → R i y H')
    (turn : ∀ i x H H' (Fin : V → Hp → Prop), i < n → Go M H1 H → Go [] H H' → Z i H → Y i H x H' →
      (∀ y H4, Go M H H4 → Z (i + 1) H4 → R i y H4 → Fin y H4) → g x (wipe σ vs) H' fun σ2 H2 => wipe σ2 vs = wipe σ vs ∧ te σ2 H2 Fin)
    (done : ∀ H ys, Go M H1 H → Z n H → H D = some (.lst ys) → ys.length = n → (∀ (i : Nat) (y : V), ys[i]? = some y → R i y H) → Qd H) :
    ∃ W : Nat → Nat → Hp → Prop, (∃ m, W 0 m (upd H1 D (.lst []))) ∧ ∀ i m H, W i m H →
      (J.stop i H ∧ Qd H) ∨ (J.go i H ∧ ∃ Nx : Hp → Prop, (∀ H', Nx H' → ∃ m', m' < m ∧ W (i + 1) m' H') ∧ ∀ x H', J.yld i H x H' → g x (wipe σ vs) H' fun σ2 H2 => wipe σ2 vs = wipe σ vs ∧ tYes σ2 H2 fun b H3 =>
        if b = true then te σ2 H3 fun y H4 => ∃ acc, H4 D = some (.lst acc) ∧ acc.length < sizeLine ∧ Nx (upd H4 D (.lst (acc ++ [y]))) else Nx H3) := by
  have hDM : D ∉ M := fun h => hM D h hD
  have nM : ∀ {H : Hp} {o : HO}, ∀ a ∈ M, (upd H D o) a = H a := fun a ha => upd_ne fun e => hDM (e ▸ ha)
  refine lc_it w (fun i H => ∃ ys, Go M H1 H ∧ Z i H ∧ H D = some (.lst ys) ∧ ys.length = i ∧ ∀ (k : Nat) (y : V), ys[k]? = some y → R k y H)
    ⟨[], (Go.refl M H1).mut hD, zm 0 H1 _ z0 nM, upd_same, rfl, fun k y e => by simp at e⟩ (fun i H _ ⟨_, g1, _⟩ => gG H g1) ?_ (fun H ⟨ys, g1, z, d, l, r⟩ => done H ys g1 z d l r)
  rintro i x H H' hi ⟨ys, g1, z, d, l, r⟩ y
  refine turn i x H H' _ hi g1 (hy i H x H' y) z y ?_
  intro v H4 g4 z4 r4
  have d4 : H4 D = some (.lst ys) := g4.old D _ hDM d
  have gD : Go [D] H4 (upd H4 D (.lst (ys ++ [v]))) := Go.put d4 rfl (List.Mem.head _)
  refine ⟨ys, d4, Nat.lt_of_lt_of_le (show ys.length < 100000 by omega) (by decide), ys ++ [v], (g1.trans g4).mut hD, zm _ H4 _ z4 nM, upd_same, by simp [l], ?_⟩
  intro k y' ek
  by_cases hk : k < ys.length
  · rw [List.getElem?_append_left hk] at ek
    exact rm _ _ _ _ _ gD (rm _ _ _ _ _ g4 (r k y' ek))
  · have hk2 : k = ys.length := by
      have := (List.getElem?_eq_some_iff.mp ek).1
      simp at this
      omega
    subst hk2
    rw [List.getElem?_append_right (Nat.le_refl _)] at ek
    simp at ek
    subst ek
    rw [l]
    exact rm _ _ _ _ _ gD r4
end
end Sd
/-! SdF: isinstance of data, zip of tuples, lengths, what a comprehension over a tuple gives -/
namespace Sd
open PySem PySem.Spec PyProof.Rows L2 RZ RT

def tyName : PyData → String
  | .none => "NoneType"
  | .bool _ => "bool"
  | .int _ => "int"
  | .str _ => "str"
  | .list _ => "list"
  | .tuple _ => "tuple"
  | .dict _ => "dict"
theorem dp_ty {K : PySem.W.Frag} {H : Hp} {v : V} {d : PyData} (h : Dp K H v d) : TyX K H v (.type (tyName d)) := by
  cases h with
  | non => exact .base .non
  | bl b => exact .base (.bl b)
  | int i => exact .base (.int i)
  | str x => exact .base (.str x)
  | lst h _ =>
    rcases h with (h | ⟨o, h⟩) | h
    · exact .base (.lst h)
    · exact .base (.frz h)
    · obtain ⟨o, its, n, e, c, _⟩ := h
      exact .kList e c
  | tup h _ =>
    rcases h with (h | ⟨o, h⟩) | h
    · exact .base (.tup h)
    · exact .fTuple h
    · obtain ⟨o, its, n, e, c, _⟩ := h
      exact .kTuple e c
def isInt : PyData → Bool | .int _ | .bool _ => true | _ => false
def isBool : PyData → Bool | .bool _ => true | _ => false
def isStr : PyData → Bool | .str _ => true | _ => false
def isTup : PyData → Bool | .tuple _ => true | _ => false
def isLst : PyData → Bool | .list _ => true | _ => false
section
variable {K : PySem.W.Frag} {H : Hp} {v : V} {d : PyData} {Q : VK}
theorem r_isInt (h : Dp K H v d) (q : Q (.bl (isInt d)) H) : rIsi K [v, .ty "int"] H Q := by
  refine ⟨v, _, _, _, isInt d, rfl, .ty "int", dp_ty h, ?_, q⟩
  cases d <;> (refine kit_ty ?_) <;> dsimp only [tyName, isInt, isBool, isStr, isTup, isLst] <;> decide +kernel
theorem r_isBool (h : Dp K H v d) (q : Q (.bl (isBool d)) H) : rIsi K [v, .ty "bool"] H Q := by
  refine ⟨v, _, _, _, isBool d, rfl, .ty "bool", dp_ty h, ?_, q⟩
  cases d <;> (refine kit_ty ?_) <;> dsimp only [tyName, isInt, isBool, isStr, isTup, isLst] <;> decide +kernel
theorem r_isStr (h : Dp K H v d) (q : Q (.bl (isStr d)) H) : rIsi K [v, .ty "str"] H Q := by
  refine ⟨v, _, _, _, isStr d, rfl, .ty "str", dp_ty h, ?_, q⟩
  cases d <;> (refine kit_ty ?_) <;> dsimp only [tyName, isInt, isBool, isStr, isTup, isLst] <;> decide +kernel
theorem r_isTup (h : Dp K H v d) (q : Q (.bl (isTup d)) H) : rIsi K [v, .ty "tuple"] H Q := by
  refine ⟨v, _, _, _, isTup d, rfl, .ty "tuple", dp_ty h, ?_, q⟩
  cases d <;> (refine kit_ty ?_) <;> dsimp only [tyName, isInt, isBool, isStr, isTup, isLst] <;> decide +kernel
theorem r_isLst (h : Dp K H v d) (q : Q (.bl (isLst d)) H) : rIsi K [v, .ty "list"] H Q := by
  refine ⟨v, _, _, _, isLst d, rfl, .ty "list", dp_ty h, ?_, q⟩
  cases d <;> (refine kit_ty ?_) <;> dsimp only [tyName, isInt, isBool, isStr, isTup, isLst] <;> decide +kernel
theorem dp_tup_inv {ds : List PyData} (h : Dp K H v (.tuple ds)) : ∃ a xs, v = .ref a ∧ SqT K H a xs ∧ DpAll K H xs ds := by
  cases h with
  | tup h a => exact ⟨_, _, rfl, h, a⟩
theorem dp_lst_inv {ds : List PyData} (h : Dp K H v (.list ds)) : ∃ a xs, v = .ref a ∧ SqL K H a xs ∧ DpAll K H xs ds := by
  cases h with
  | lst h a => exact ⟨_, _, rfl, h, a⟩
theorem r_lenT {a : Addr} {xs : List V} (h : SqT K H a xs) (q : Q (.int (xs.length : Nat)) H) : rLenU K [.ref a] H Q := ⟨_, _, rfl, .inr ⟨xs, h, rfl⟩, q⟩
theorem r_lenL {a : Addr} {xs : List V} (h : SqL K H a xs) (q : Q (.int (xs.length : Nat)) H) : rLenU K [.ref a] H Q := ⟨_, _, rfl, .inl ⟨xs, h, rfl⟩, q⟩
theorem r_lenS {s : Str} (h : s.length ≤ sizeLine) (q : Q (.int (s.length : Nat)) H) : rLenU K [.str s] H Q := ⟨_, _, rfl, ⟨h, rfl⟩, q⟩
theorem r_inSg {c : Nat} {z : Str} (q : Q (.bl (decide (c ∈ z.cps.toList))) H) : rInU K (.str ⟨#[c]⟩) (.str z) H Q := .inl (.inr ⟨c, z, rfl, rfl, q⟩)
theorem r_inT {x : V} {p : Addr} {xs : List V} (h : SqT K H p xs) (hx : flatV x = true) (ha : xs.all flatV = true) (q : Q (.bl (inV x xs)) H) : rInU K x (.ref p) H Q := .inl (.inl ⟨p, xs, rfl, .inr h, hx, ha, q⟩)
theorem r_niT {x : V} {p : Addr} {xs : List V} (h : SqT K H p xs) (hx : flatV x = true) (ha : xs.all flatV = true) (q : Q (.bl (!inV x xs)) H) : rNiU K x (.ref p) H Q := .inl (.inl ⟨p, xs, rfl, .inr h, hx, ha, q⟩)
theorem r_inL {x : V} {p : Addr} {xs : List V} (h : SqL K H p xs) (hx : flatV x = true) (ha : xs.all flatV = true) (q : Q (.bl (inV x xs)) H) : rInU K x (.ref p) H Q := .inl (.inl ⟨p, xs, rfl, .inl h, hx, ha, q⟩)
theorem r_all {a : Addr} {bs : List Bool} (h : SqL K H a (bs.map V.bl)) (q : Q (.bl (bs.all id)) H) : rAll K [.ref a] H Q := ⟨a, bs, rfl, h, q⟩
end
/-- values given turn by turn are a list -/
theorem list_of {α β : Type} {f : α → β} {xs : List α} {ys : List β} (hl : ys.length = xs.length) (h : ∀ (i : Nat) (y : β), ys[i]? = some y → ∃ x, xs[i]? = some x ∧ y = f x) : ys = xs.map f := by
  apply List.ext_getElem?
  intro i
  rw [List.getElem?_map]
  cases e : ys[i]? with
  | none =>
    have : xs[i]? = none := by
      rw [List.getElem?_eq_none_iff] at e ⊢
      omega
    rw [this]
    rfl
  | some y =>
    obtain ⟨x, hx, rfl⟩ := h i y e
    rw [hx]
    rfl
theorem list_of_fn {β : Type} {f : Nat → β} {n : Nat} {ys : List β} (hl : ys.length = n) (h : ∀ (i : Nat) (y : β), ys[i]? = some y → y = f i) : ys = (List.range n).map f := by
  refine list_of (by simpa using hl) fun i y e => ⟨i, ?_, h i y e⟩
  have := (List.getElem?_eq_some_iff.mp e).1
  exact List.getElem?_range (by omega)
end Sd
/-! S75a: an error class of the text called with keywords -/
namespace PySem
namespace S75
open PySem.HandSPX PySem.Calls PySem.W PyProof.Rows
section
open Builtin Builtin.ObjectAttr
/-- C(.., k = v): a class over ValueError whose __init__ is a def of the text. Its new exception lies behind the tuple of the values given by place; __init__ gets all of them -/
theorem made_kw {prog : Program} {w : World} {A : Around} {R : Result → Shared → Prop} {K : Frag} {C ini : Addr} {given : List Value} {byName : List (Str × Value)} {s : Shared}
    (T : L2.OexC K C) (X : K.In s.heap) (own : findIn K (.ref C) "__init__" = some (some (.ref ini))) (fn : typeIn K (.ref ini) = some (.type "function")) (few : given.length ≤ sizeLine)
    (go : codeAny (model prog w) (A.under (.builtin "type.__call__" ⟨.ref C :: given, byName⟩)) (.call (.ref ini) ⟨.ref (s.heap.objs.size + 1) :: given, byName⟩) (InitBack (s.heap.objs.size + 1) R)
      { s with heap := (s.heap.push (kdv_tup given)).push (HandSPX.excO C s.heap.objs.size) }) : codeAny (model prog w) A (.call (.ref C) ⟨given, byName⟩) R s := by
  rcases s with ⟨hp, gn, dr, tk, sys⟩
  dsimp only at X go
  rcases T.cls with ⟨_, _, _, _, up, _, _, _, _, _, _, _, _, _, _, atK, tail⟩
  have oC : hp.get? C = some _ := X _ _ atK
  have V := PySem.F.excBase_ValueError
  have above : ∀ Y : String, (Value.ref C :: up).contains (.type Y) = HandSPX.veTail.contains (.type Y) := fun Y => by
    rw [List.contains_cons, HandSPX.refsVE_contains Y up tail]
    rfl
  have isV := (above "ValueError").trans V.hasB
  have notA := (above "AttributeError").trans V.noAttr
  have notN := (above "NameError").trans V.noName
  have itself : (Value.ref C :: up).contains (.ref C) = true := by simp
  have lookI : Looks (model prog w) hp (typeLookup (.ref C) "__init__") (some (.ref ini)) := looks_findIn X own
  have bindI : ∀ me, Looks (model prog w) hp (bindSpecial (.ref ini) me) (.ref ini, [me]) := fun me => bind_fn X me fn
  have stays : ∀ b o, hp.get? b = some o → ((hp.push (kdv_tup given)).push (HandSPX.excO C hp.objs.size)).get? b = some o :=
    fun b o e => Heap.get?_push_of_some _ (Heap.get?_push_of_some _ e)
  have newC := stays _ _ oC
  have newE : ((hp.push (kdv_tup given)).push (HandSPX.excO C hp.objs.size)).get? (hp.objs.size + 1) = some (HandSPX.excO C hp.objs.size) := by heap_get
  have _f1 := tc_lookup
  have _f2 := tc_bind (.ref C)
  have _ty : (⟨hp, gn, dr, tk, sys⟩ : Shared).TypeIs (.ref C) "type" := ⟨_, oC, rfl⟩
  have _st := V.noStar
  have _en := V.ends
  -- the birth: nothing is asked of the keywords
  have birth : ∀ {A' : Around} {R' : Result → Shared → Prop}, R' (.ok (.ret (.ref (hp.objs.size + 1)))) ⟨(hp.push (kdv_tup given)).push (excO C hp.objs.size), gn, dr, tk, sys⟩ →
      codeAny (model prog w) A' (.builtin "ValueError.__new__" ⟨.ref C :: given, byName⟩) R' ⟨hp, gn, dr, tk, sys⟩ := by
    intro A' R' q
    apply codeAny_builtinAt V.entry
    unfold Builtin.«BaseException.__new__»
    apply wpAt_bind
    change wpAt _ _ _ (stack >>= _) _ _ _
    refine wpAt_bind (wpAt_stack fun _ _ => ?_)
    apply wpAt_of_wpAny
    wp_walk
    apply wpAt_of_wpAny
    rw [V.owner]
    repeat first | (with_reducible refine wpAny_madeHere_exc V.canon oC ?_) | (with_reducible refine wpAny_loadPart_at oC ?_) | (with_reducible refine wpAny_isSubtype_exc oC ?_; first | rw [isV] | rw [notA] | rw [notN]) | wp_step
    change R' _ _
    rw [Heap.size_push]
    exact q
  -- the call of the class
  apply codeAny_of_tree
  change wpAny _ _ (callAny (.ref C) _) _ _ _
  repeat (any_goals first | assumption | (with_reducible refine wpAny_loadPart_at oC ?_) | wp_step)
  refine ⟨rfl, codeAny_call_builtin_at (Code.quiet_builtin _ (by decide +kernel)) entry_typeCall (wpAny_check_type_call_sub oC ?_)⟩
  repeat first | (with_reducible refine wpAny_loadPart_at oC ?_) | (with_reducible refine wpAny_madeBy_exc oC ?_) | wp_step
  refine codeAny_call_builtin_code (Code.quiet_builtin _ V.quiet) ?_
  simp only [checkBuiltinCall, V.newKind, V.newSplit, V.newRow]
  repeat first | refine wpAny_loadPart_at oC ?_ | (refine wpAny_isSubtype_exc oC ?_; rw [isV]) | refine wpAny_staticBase_exc oC ?_ | refine wpAny_madeBy_exc oC ?_ | simp only [bne_self_eq_false, Bool.false_eq_true, if_false] | wp_step
  apply birth
  change wpAny _ _ _ _ _ _
  unfold isInstance
  repeat first | (with_reducible refine wpAny_loadPart_at newE ?_) | (with_reducible refine wpAny_isSubtype_exc newC ?_; rw [itself]) | wp_step
  change wpAny _ _ (typeLookup (.ref C) _) _ _ _
  apply (lookI.keeps stays).at
  apply wpAny_holding
  apply wpAny_bind
  apply ((bindI (.ref (hp.objs.size + 1))).keeps stays).at
  apply wpAny_bind
  apply wpAny_call
  refine codeAny_mono go fun r s' z => ?_
  match r, z with
  | .error _, z => exact z
  | .ok .next, z => exact z.elim
  | .ok .brk, z => exact z.elim
  | .ok .cont, z => exact z.elim
  | .ok (.ret _), ⟨e, z⟩ =>
    subst e
    first
      | exact wpAny_pure (wpAny_pure z)
      | (wp_walk; exact z)
end
end S75
end PySem
/-! S75b: isinstance of an exception that has its dict; its field read -/
namespace PySem.S75
open PySem PySem.Spec PySem.Calls PySem.W PyProof.Rows
section
variable {prog : Program} {w : World} {K : Frag} {x D : Addr} {ox : Obj} {od : Option Obj}
/-- e.__class__ of an exception with a dict of its own: the dict is not asked, the slot of object goes ahead -/
theorem cls_read (T : L2.ExcC K D) {A : Around} {E : Value → Shared → Prop} {s : Shared} {Q : Option Value → Shared → Prop} (X : K.In s.heap) (I : InstAt s.heap x ox D od) (q : Q (some (.ref D)) { s with toks := s.toks + 1 }) :
    wpAny (model prog w) A (getAttr? (.ref x) "__class__") Q E s := by
  obtain ⟨hg, hk, hs, hd, ha, hn, ht, hm⟩ := T
  have slot : findObj K D od "__class__" = some (.bind (.builtin "getset_descriptor.__get__") (.builtin "object.__class__")) := by
    obtain ⟨cd, hc, _⟩ := any_some hd
    unfold findObj
    simp [hc, ha, hn, ht]
  rcases s with ⟨hp, gn, dr, tk, sys⟩
  dsimp only at X I q
  have tyL := I.type (M := model prog w)
  have gaL := looks_findIn (M := model prog w) X hg
  have gtL := looks_findIn (M := model prog w) X hk
  have slL := looks_find (M := model prog w) X I slot
  have exL : Looks (model prog w) hp (isInstance (.ref x) (.type "BaseException")) true := tyL.andThen (looks_subIn X hs)
  have onH : onTheHeap (Value.ref D) = true := rfl
  have notObj : (Value.builtin "BaseException.__getattribute__" == Value.builtin "object.__getattribute__") = false := by decide +kernel
  unfold getAttr? getAttrBy? getAttrBy
  apply wpAny_bind
  apply wpAny_mkText
  apply wpAny_bind
  apply wpAny_attempt
  apply wpAny_holding
  apply wpAny_bind
  apply tyL.at
  apply wpAny_bind
  apply gaL.at
  change wpAny _ _ (ite ((onTheHeap (Value.ref D) && _) = true) _ _) _ _ _
  rw [notObj, Bool.and_false, if_neg Bool.false_ne_true]
  unfold getAttrByItsOwn hookBefore
  apply wpAny_bind
  rw [if_pos onH]
  apply gtL.at
  apply wpAny_bind
  apply wpAny_attempt
  apply wpAny_holding
  unfold callGetattribute
  rw [if_neg (by simp)]
  unfold boundAndCalled
  rw [PySem.F.excAttr_ValueError.ga.bind (.ref x)]
  apply wpAny_bind
  apply wpAny_pure
  change wpAny _ _ (call (.builtin "BaseException.__getattribute__") [.ref x, .str "__class__" tk]) _ _ _
  apply wpAny_call
  refine codeAny_call_builtin PySem.F.excAttr_ValueError.ga.plain PySem.F.entry_bexc_ga
    (@check_slot (model prog w) _ _ ⟨hp, gn, dr, tk + 1, sys⟩ _ "BaseException" "__getattribute__" (.ref x) [.str "__class__" tk] [] _ (by decide +kernel) (by decide +kernel) exL (PySem.F.args_bexc_ga (.ref x) (.str "__class__" tk)) ?_)
  unfold Builtin.«object.__getattribute__»
  apply wpAny_bind
  refine wpAny_of_eq (a := ((Value.ref x : Value), [Value.str "__class__" tk])) (by first | rfl | (simp only [slotArgs]; rfl)) ?_
  apply wpAny_bind
  apply wpAny_pure
  apply wpAny_bind
  apply tyL.at
  apply wpAny_bind
  apply slL.at
  change wpAny _ _ (holding _ (call (.builtin "getset_descriptor.__get__") [.builtin "object.__class__", .ref x, .ref D]) >>= ret) _ _ _
  apply wpAny_bind
  apply wpAny_holding
  apply wpAny_call
  refine class_get (s := ⟨hp, gn, dr, tk + 1, sys⟩) (ox := ox) (od := od) X I hm (wpAny_pure ?_)
  change wpAny _ _ (handedOut (.ref D)) _ _ _
  rw [handedOut_of (v := .ref D) rfl]
  repeat first | exact q | apply wpAny_pure | apply wpAny_bind
/-- what isinstance asks of such an exception -/
theorem kit_err (T : L2.ExcC K D) : KitX K (.ref x) (.ref D) (fun h => InstAt h x ox D od) := by
  have cls : ∃ c d cd sl, K.lookup D = some ⟨c, d, .cls cd, sl⟩ := by
    obtain ⟨cd, e, _⟩ := any_some T.hd
    unfold clsIn at e
    split at e
    · rename_i c d cd' sl ho
      exact ⟨c, d, cd', sl, ho⟩
    · cases e
  obtain ⟨c, d, cd, sl, ho⟩ := cls
  refine ⟨fun _ _ _ I => I.type, fun _ _ X _ => ?_, fun h tp dd its n sl' X e => ?_, fun X I k => cls_read T X I k⟩
  · intro A Q E s kp q
    unfold isType loadHead
    apply wpAny_bind
    exact wpAny_loadPart (kp _ _ (X _ _ ho)) (wpAny_pure q)
  · cases z : (Value.ref D == Value.ref tp) with
    | false => rfl
    | true =>
      cases Value.ref.inj (beq_iff_eq.mp z)
      cases (X _ _ ho).symm.trans e
end
end PySem.S75

namespace Sd
open PySem PySem.Spec PyProof.Rows L2
/-- isinstance(e, c), e an exception made here -/
def rIsX (K : PySem.W.Frag) : List V → Hp → VK → Prop := fun xs H Q => ∃ (a D dx : Addr) (fs : List (Str × V)) (c : V) (u : Value) (b : Bool), xs = [.ref a, c] ∧ ExcC K D ∧ ClsV c u ∧ H a = some (exo a D (some dx)) ∧ H dx = some (exd dx fs) ∧ PySem.W.kitOne K (.ref D) u = some b ∧ Q (.bl b) H
/-- an exception made here, as the heap bears it -/
theorem exo_inst {X : Cx} {pins : List (Addr × Obj)} {σ : L2.St} {H : Hp} {s : Shared} {a D dx : Addr} {fs : List (Str × V)} (I : Inv X pins σ H s) (ha : H a = some (exo a D (some dx))) (hd : H dx = some (exd dx fs)) :
    ∃ (t1 : Addr) (od : Obj) (mA : Str → Option Value), PySem.W.InstAt s.heap a { cls := .ref D, dict := some dx, data := .fields #[.ref t1, .none, .none, .none, .bool false, .none] } D (some od) ∧ s.heap.get? dx = some od ∧ s.heap.Ns1 dx mA ∧ ∀ f, RelO (fs.lookup f) (mA f) := by
  obtain ⟨mA, hns, rel⟩ := exd_at I.hok hd
  obtain ⟨od, es, ep, h1, h2⟩ := id hns
  exact (exo_at I.hok ha).elim fun t1 ho => ⟨t1, od, mA, ⟨ho, rfl, rfl, h1⟩, h1, hns, rel⟩
theorem call_isX {X : Cx} : CallR X (.builtin "isinstance") (rIsX X.K) := by
  rintro pins s σ H xs us Q I r ⟨a, D, dx, fs, c, u, b, rfl, T, k, ha, hd, e, q⟩
  obtain ⟨u1, u2, rfl, r1, r2⟩ := vals2 r
  cases r1
  cases k.eq r2
  obtain ⟨t1, od, mA, J, _⟩ := exo_inst I ha hd
  exact PySem.W.kia_one (PySem.S75.kit_err T) I.kIn J e (fun z => nomatch z) fun tk => ⟨.bl b, H, I.kept (t' := tk) fun _ _ z => z, rfl, q⟩
/-- e.f, e an exception made here -/
def tXv (K : PySem.W.Frag) (f : Str) (te : TE) : TE := fun σ H Q => te σ H fun x H1 => ∃ (a D dx : Addr) (fs : List (Str × V)) (v : V), x = .ref a ∧ XfC K D ∧ PySem.W.findIn K (.ref D) f = some none ∧ H1 a = some (exo a D (some dx)) ∧ H1 dx = some (exd dx fs) ∧ fs.lookup f = some v ∧ Q v H1
theorem pe_xv {X : Cx} {K : PySem.W.Frag} {e : Expr} {te : TE} {pos : Pos} {n : Str} (he : PE X e te) (hK : X.K = K := by rfl) (hb : attributeBase e n X.env (eval e X.env) = eval e X.env := by rfl) :
    PE X (.Attribute e n pos) (tXv K n te) := by
  subst hK
  constructor
  intro pins s σ H Q I h
  refine attr_of hb (thn (he.run pins s σ H _ I h) ?_)
  rintro u s1 ⟨x, H1, I1, rx, a, D, dx, fs, v, rfl, T, hno, ha, hd, l, q⟩
  cases rx
  obtain ⟨t1, od, mA, J, hod, hns, rel⟩ := exo_inst I1 ha hd
  obtain ⟨od', ho', hl⟩ := lookIn_ns hns
  cases hod.symm.trans ho'
  obtain ⟨u, hu, ru⟩ := RelO.some_of (v := v) (o := mA n) (l ▸ rel n)
  exact HandSPX.exc_get I1.kIn J T.ga T.gg T.exC (PySem.W.findObj_own T.hdC hno rfl (by rw [hl, hu])) (handed_of ru) ⟨v, H1, I1.tok _, ru, q⟩
end Sd
/-! S75c: an own exception made by a call, kept as a value -/
namespace Sd
open PySem PySem.Spec PyProof.Rows L2
/-- C(e, .., k = v, ..): the exception is new and tracked -/
def tXmk (C : Addr) (sp : Sp) (ta tk : TA) : TE := fun σ H Q => ta σ H fun vs H1 => tk σ H1 fun zs H2 => vs.length ≤ 1000 ∧ ∀ a, H2 a = none → sp (.ref a :: (vs ++ zs)) (upd H2 a (exo a C none)) (fun v H3 => v = .non ∧ Q (.ref a) H3) fun _ _ _ => False
section
variable {X : Cx} {CX : CXT} {k n : Nat} {fI C : Addr} {fd : FuncData} {ps ks : List Str} {sp : Sp} {x : Str} {p pos : Pos} {e : Expr} {es : List Expr} {kws : List Keyword} {t tk : TA}
/-- the class called with values us and keywords ks = ws: the new exception is tracked while its __init__ runs -/
theorem run_oex {pins : List (Addr × Obj)} {σ : L2.St} {H : Hp} {s : Shared} {Q : VK} {us ws : List Value} {vs zs : List V} (T : OexC X.K C) (iC : PySem.W.findIn X.K (.ref C) "__init__" = some (some (.ref fI))) (tI : PySem.W.typeIn X.K (.ref fI) = some (.type "function"))
    (I1 : FnOk X.prog X.w X.K X.mg X.base CX k fI fd ps sp) (hr : Room (k + 1) X.A) (hb : ∀ (s : Shared) (a : Addr), BindsTo s fd ⟨.ref a :: us, ks.zip ws⟩ (ps.zip (.ref a :: (us ++ ws)))) (hx : Passes CX X (fun _ _ _ => False)) (I : Inv X pins σ H s) (r : Vals vs us) (rz : Vals zs ws) (hz : vs.length ≤ 1000)
    (h : ∀ a, H a = none → sp (.ref a :: (vs ++ zs)) (upd H a (exo a C none)) (fun v H3 => v = .non ∧ Q (.ref a) H3) fun _ _ _ => False) :
    wpAny (model X.prog X.w) X.A (call (.ref C) us (ks.zip ws)) (EP X pins σ Q) X.xe s := by
  -- where it will stand, and the heap with it
  generalize ea : s.heap.objs.size + 1 = a
  have above : s.heap.objs.size ≤ a := by omega
  generalize eh : (s.heap.push (PySem.W.kdv_tup us)).push (PySem.HandSPX.excO C s.heap.objs.size) = h2
  have there : h2.get? a = some (PySem.HandSPX.excO C s.heap.objs.size) := by
    subst eh ea
    heap_get
  have more : ∀ b o, s.heap.get? b = some o → h2.get? b = some o := by
    subst eh
    exact fun b o e => Heap.get?_push_of_some _ (Heap.get?_push_of_some _ e)
  have J : Inv X pins σ (upd H a (exo a C none)) { s with heap := h2 } := I.laid (t' := s.toks) more above (exo_ok there)
  have few : us.length ≤ sizeLine := by
    have := r.length
    rw [sizeLine_eq]
    omega
  have told := h a (I.hok.fresh above)
  apply wpAny_call
  apply PySem.S75.made_kw T I.kIn iC tI few
  rw [ea, eh]
  refine codeAny_mono (I1.run _ X.stack _ _ ⟨.ref a :: us, ks.zip ws⟩ (.ref a :: (us ++ ws)) (.ref a :: (vs ++ zs)) _ (fun _ _ _ => False) (hr.make C us (ks.zip ws)) (J.env0.make C us (ks.zip ws)) (hb _ _) (.cons rfl (r.append rz)) told) ?_
  intro z s' q
  match z, q with
  | .error e, q => exact hx pins σ _ _ e s' J q
  | .ok .next, q => exact q.elim
  | .ok .brk, q => exact q.elim
  | .ok .cont, q => exact q.elim
  | .ok (.ret u), q =>
    obtain ⟨v, H3, J3, rv, rfl, q3⟩ := J.after q
    exact ⟨rv, .ref a, H3, J3, rfl, q3⟩
/-- C(e, ..) -/
theorem pe_oex (T : OexC X.K C) (iC : PySem.W.findIn X.K (.ref C) "__init__" = some (some (.ref fI))) (tI : PySem.W.typeIn X.K (.ref fI) = some (.type "function"))
    (F1 : FnOk X.prog X.w X.K X.mg X.base CX k fI fd ps sp) (hr : Room (k + 1) X.A) (hb : ∀ (s : Shared) (a : Addr) (us : List Value), us.length + 1 = ps.length → BindsTo s fd ⟨.ref a :: us, []⟩ (ps.zip (.ref a :: us))) (hx : Passes CX X (fun _ _ _ => False)) (hg : Gl X x) (hm : X.mg x = some (.ref C)) (ha : PA X (e :: es) t)
    (hl : (e :: es).length + 1 = ps.length) (hdb : (x == ("__debug__" : Str)) = false := by decide) (he : starEach (e :: es) X.env = (false, eval e X.env) :: starEach es X.env := by rfl) (hpl : (backTo pos (starEach es X.env)).any (·.1) = false := by rfl) :
    PE X (.Call (.Name x p) (e :: es) [] pos) (fun σ H Q => t σ H fun vs H1 => vs.length + 1 = ps.length ∧ tXmk C sp (fun _ H Q => Q vs H) tNil σ H1 Q) := by
  refine ⟨fun pins s σ H Q I h => ?_⟩
  refine wpAny_Call_Name_kw (ld_glob I hg hm ?_ hdb)
  refine PySem.W.callWith_K (h₀ := X.base) I.ok.mod.kin T.kC (thn (ha.run pos pins s σ H _ I h) fun us s1 ⟨vs, H1, I1, r1, e1, hz, q1⟩ => ⟨I1.kIn, ?_⟩) he hpl
  exact run_oex (us := us) (ws := []) (vs := vs) (zs := []) (ks := []) T iC tI F1 hr (fun s a => by
    have := hb s a us (by rw [← r1.length]; exact e1)
    rw [List.append_nil]
    exact this) hx I1 r1 .nil hz q1
/-- C(k = v) -/
theorem pe_oexK (T : OexC X.K C) (iC : PySem.W.findIn X.K (.ref C) "__init__" = some (some (.ref fI))) (tI : PySem.W.typeIn X.K (.ref fI) = some (.type "function"))
    (F1 : FnOk X.prog X.w X.K X.mg X.base CX k fI fd ps sp) (hr : Room (k + 1) X.A) (hb : ∀ (s : Shared) (a : Addr) (ws : List Value), ws.length = ks.length → BindsTo s fd ⟨[.ref a], ks.zip ws⟩ (ps.zip (.ref a :: ws))) (hx : Passes CX X (fun _ _ _ => False)) (hg : Gl X x) (hm : X.mg x = some (.ref C)) (hkw : PK X kws tk)
    (hall : (backToKw pos (keywordEach kws X.env)).all (·.1.isSome) = true := by rfl) (hks : (backToKw pos (keywordEach kws X.env)).filterMap (·.1) = ks := by rfl) (hdb : (x == ("__debug__" : Str)) = false := by decide)
    (hpl : ((backTo pos (starEach [] X.env)).any (·.1) || (backToKw pos (keywordEach kws X.env)).any (·.1.isNone)) = false := by rfl) :
    PE X (.Call (.Name x p) [] kws pos) (fun σ H Q => tk σ H fun zs H1 => zs.length = ks.length ∧ tXmk C sp tNil (fun _ H Q => Q zs H) σ H1 Q) := by
  refine ⟨fun pins s σ H Q I h => ?_⟩
  refine wpAny_Call_Name_kw (ld_glob I hg hm ?_ hdb)
  refine PySem.W.callWith_KW0 (h₀ := X.base) I.ok.mod.kin T.kC hall ?_ hpl
  refine thn (hkw.run pos pins s σ H _ I h) fun ws s2 ⟨zs, H2, I2, rz, l2, hz, q2⟩ => ⟨I2.kIn, ?_⟩
  rw [hks]
  exact run_oex (us := []) (vs := []) T iC tI F1 hr (fun s a => hb s a ws (by rw [← rz.length]; exact l2)) hx I2 .nil rz (by simp) q2
end
/-- __init__(self, value): self.value = value -/
def spInit (K : PySem.W.Frag) : Sp := fun vs H Q _ => ∃ (a C : Addr) (v : V), vs = [.ref a, v] ∧ OexC K C ∧ PySem.W.findIn K (.ref C) "value" = some none ∧ H a = some (exo a C none) ∧
  ∀ dx, H dx = none → dx ≠ a → Q .non (upd (upd H dx (exd dx [("value", v)])) a (exo a C (some dx)))
end Sd
/-! S75d: lambdas that are kept and called later -/
namespace Sd
open PySem PySem.Spec PyProof.Rows L2 LamX

/-- a lambda's function object at f, its code object at c -/
def LamO (f : Addr) (q : Str) (params : Arguments) (body : Expr) (scope : Scope) (c : Addr) : HO := .ext fun h => ∃ pm ctv, h.get? f = some (PySem.W.kla_obj "<lambda>" q params body scope [] pm c ctv)
theorem lamO_ne {f c : Addr} {q : Str} {params : Arguments} {body : Expr} {scope : Scope} (ps : Array Value) : LamO f q params body scope c ≠ .tbl ps := fun z => by
  unfold LamO at z
  cases z
theorem lamO_ok {P : Program} {w : World} {H : Hp} {h : Heap} {f c : Addr} {q : Str} {params : Arguments} {body : Expr} {scope : Scope} {pm ctv : Value} (e : h.get? f = some (PySem.W.kla_obj "<lambda>" q params body scope [] pm c ctv)) : ObjOk P w H h f (LamO f q params body scope c) :=
  ⟨⟨pm, ctv, e⟩, ⟨_, e⟩, fun h1 h2 ⟨pm, ctv, z⟩ k => ⟨pm, ctv, k _ z⟩⟩
theorem lamO_at {P : Program} {w : World} {H : Hp} {h : Heap} {f c : Addr} {q : Str} {params : Arguments} {body : Expr} {scope : Scope} (hok : HOk P w H h) (e : H f = some (LamO f q params body scope c)) : ∃ pm ctv, h.get? f = some (PySem.W.kla_obj "<lambda>" q params body scope [] pm c ctv) :=
  (show ObjOk P w H h f (.ext fun h => ∃ pm ctv, h.get? f = some (PySem.W.kla_obj "<lambda>" q params body scope [] pm c ctv)) from hok f _ e).1
theorem codeO_at {P : Program} {w : World} {H : Hp} {h : Heap} {c : Addr} {q : Str} (ok : HOk P w H h) (e : H c = some (CodeO c q)) : h.CodeRec (.ref c) q := by
  have z : ObjOk P w H h c (.ext _) := ok c _ e
  rcases z.1 with ⟨o, us, t, h1, h2, h3⟩
  exact ⟨c, o, us, t, rfl, h1, h2, h3⟩

/-- the lambda: a new function object; its code object is new or found in the table at P -/
def tLam (P : Addr) (q : Str) (params : Arguments) (body : Expr) (scope : Scope) : TE := fun σ H Q => TabS H P q ∧ ∀ (f c : Addr) (H1 : Hp), H f = none → Go [P] H H1 → TabS H1 P q → H1 f = some (LamO f q params body scope c) → H1 c = some (CodeO c q) → Q (.ref f) H1
section
variable {X : Cx}
theorem pe_lam {c P : Addr} {q : Str} {params : Arguments} {body : Expr} {scope : Scope} {pos : Pos} (TB : TabB X.base X.mg c P) (hcode : X.env.code = .ref c) (hq : X.env.qual ++ "<lambda>" = q) (hdef : defaultsOf params X.env = ([], []))
    (hfree : ∀ y ∈ scope.names, y.2 = .free → ∃ c, X.env.cells.lookup y.1 = some c) (hcl : cloFrom X.env.cells scope.names [] = []) : PE X (.Lambda params body scope pos) (tLam P q params body scope) := by
  subst hq
  constructor
  rintro pins s σ H Q I ⟨tab, k⟩
  obtain ⟨rows, atP, tri, known⟩ := id tab
  have inP : s.heap.get? P = some (PySem.W.tabObj rows) := I.hok P _ atP
  have blt := TB.bm.keeps I.bk
  have cod := TB.code.keeps I.bk
  have glb := I.mod.glob.keeps I.bk
  apply PySem.W.kla_eval hdef
  cases found : codeAmong pos rows.toList with
  | some v =>
    -- its code object is there already: the function object alone is new
    rcases known pos v found with ⟨d, rfl, hd⟩
    refine PySem.W.kla_makeFunctionHit (closure_ok hfree) I.ok.glob glb hcode cod inP tri found blt fun ct g tk old sz => ?_
    rw [hcl]
    have none_ : H g.objs.size = none := I.hok.fresh sz
    have at_ : (g.push (PySem.W.kla_obj "<lambda>" (X.env.qual ++ "<lambda>") params body scope [] ((X.mg "__name__").getD .none) d ct)).get? g.objs.size = some _ := Heap.get?_push_size _ rfl
    have J := I.laid (t' := tk) (o := LamO g.objs.size (X.env.qual ++ "<lambda>") params body scope d) (fun b u e => Heap.get?_push_of_some _ (old b u e)) sz (lamO_ok at_)
    have same : ∀ b u, H b = some u → upd H g.objs.size (LamO g.objs.size (X.env.qual ++ "<lambda>") params body scope d) b = some u := fun b u e => (upd_ne (ne_of_none e none_)).trans e
    exact ⟨.ref g.objs.size, _, J, rfl, k _ d _ none_ ⟨fun b u _ e => same b u e, fun b u _ e => same b u e⟩ (tab.ext same) upd_same (same _ _ hd)⟩
  | none =>
    -- a code object is made and written into the table, then the function object
    refine PySem.W.kla_makeFunction (closure_ok hfree) I.ok.glob glb hcode cod inP tri found TB.gP blt fun d ct g tk but lo hi rec table => ?_
    rw [hcl]
    rcases rec with ⟨_, oc, us, t, e, hoc, hus, hname⟩
    cases e
    generalize er : rows ++ #[rawInt pos.line, rawInt pos.col, .ref d] = rows2 at table
    have listed : rows2.toList = rows.toList ++ [rawInt pos.line, rawInt pos.col, .ref d] := by
      rw [← er]
      simp
    have noneD : H d = none := I.hok.fresh lo
    have noneF : H g.objs.size = none := I.hok.fresh (by omega)
    have J0 := inv_table (t' := tk) (q := X.env.qual ++ "<lambda>") I atP but (er ▸ table) lo ⟨oc, us, t, hoc, hus, hname⟩
    rw [er] at J0
    have at_ : (g.push (PySem.W.kla_obj "<lambda>" (X.env.qual ++ "<lambda>") params body scope [] ((X.mg "__name__").getD .none) d ct)).get? g.objs.size = some _ := Heap.get?_push_size _ rfl
    have J := J0.laid (t' := tk) (o := LamO g.objs.size (X.env.qual ++ "<lambda>") params body scope d) (fun b u e => Heap.get?_push_of_some _ e) (Nat.le_refl _) (lamO_ok at_)
    have f1 : P ≠ d := ne_of_none atP noneD
    have f2 : P ≠ g.objs.size := ne_of_none atP noneF
    have f3 : d ≠ g.objs.size := Nat.ne_of_lt hi
    generalize eh : upd (upd (upd H P (.tbl rows2)) d (CodeO d (X.env.qual ++ "<lambda>"))) g.objs.size (LamO g.objs.size (X.env.qual ++ "<lambda>") params body scope d) = H2 at J
    have inD : H2 d = some (CodeO d (X.env.qual ++ "<lambda>")) := by rw [← eh, upd_ne f3, upd_same]
    have inT : H2 P = some (.tbl rows2) := by rw [← eh, upd_ne f2, upd_ne f1, upd_same]
    have inF : H2 g.objs.size = some (LamO g.objs.size (X.env.qual ++ "<lambda>") params body scope d) := by rw [← eh, upd_same]
    have same : ∀ b u, b ≠ P → H b = some u → H2 b = some u := fun b u n e => by
      rw [← eh, upd_ne (ne_of_none e noneF), upd_ne (ne_of_none e noneD), upd_ne n]
      exact e
    have offP : ∀ {b : Addr} {u : HO}, H b = some u → (∀ r, u ≠ .tbl r) → b ≠ P := fun e n z => n rows (Option.some.inj (e.symm.trans (z ▸ atP)))
    have tab2 : TabS H2 P (X.env.qual ++ "<lambda>") := by
      refine ⟨rows2, inT, by rw [listed]; exact PySem.TriplesOk_snoc _ _ _ _ tri, fun p v hv => ?_⟩
      rw [listed] at hv
      rcases among_app _ tri hv with y | rfl
      · rcases known p v y with ⟨b, rfl, hb⟩
        exact ⟨b, rfl, same _ _ (offP hb codeO_ne) hb⟩
      · exact ⟨d, rfl, inD⟩
    refine ⟨.ref g.objs.size, H2, J, rfl, k _ d H2 noneF ⟨fun b u hb e => same b u (by simpa using hb) e, fun b u hf e => same b u (offP e fun r z => ?_) e⟩ tab2 inF inD⟩
    rw [z] at hf
    cases hf
end

/-- what a lambda promises when it is called -/
def LamOk (P : Program) (w : World) (K : PySem.W.Frag) (mg : Str → Option Value) (base : Heap) (cx : CXT) (k : Nat) (q : Str) (params : Arguments) (body : Expr) (scope : Scope) (sp : Sp) : Prop :=
  ∀ (A : Around) (out : List Env) (s : Shared) (H : Hp) (f c : Addr) (pm ctv : Value) (us : List Value) (vs : List V) (Q : VK) (E : XK), Room k A → Env0 P w K mg base A out s H → s.heap.get? f = some (PySem.W.kla_obj "<lambda>" q params body scope [] pm c ctv) →
    s.heap.CodeRec (.ref c) q → Vals vs us → sp vs H Q E → codeAny (model P w) A (.call (.ref f) ⟨us, []⟩) (CR cx out P w H s Q E) s
theorem lam_of {cx : CXT} {P : Program} {w : World} {K : PySem.W.Frag} {mg : Str → Option Value} {base : Heap} {k : Nat} {q : Str} {params : Arguments} {body : Expr} {scope : Scope} {N ps : List Str} {sp : Sp}
    (S : FnScope N ps scope) (len : ∀ vs H Q E, sp vs H Q E → vs.length = ps.length)
    (hbind : ∀ (us : List Value) (pm cv ctv : Value), us.length = ps.length → bindArgs (PySem.W.kla_fn "<lambda>" q params body scope [] pm cv ctv) ⟨us, []⟩ = pure (ps.zip us))
    (hb : ∀ (A : Around) (out : List Env) (s : Shared) (H : Hp) (f c : Addr) (vs : List V) (Q : VK) (E : XK), Room k (A.deeper (envOfC q scope s.heap.objs.size f (.ref c))) → sp vs H Q E →
      ∃ t, PE (cxOf cx P w K mg base N q scope f (.ref c) A out s H E) body t ∧ t (start N vs) H Q) : LamOk P w K mg base cx (k + 1) q params body scope sp := by
  intro A out s H f c pm ctv us vs Q E hr e0 ho hcr r hsp
  have hl := len _ _ _ _ hsp
  have free_ := e0.mod.nolimit.keeps fun b o e => (e0.bs b o e).1
  have slots : ∀ y ∈ ps.zip us, scope.names.lookup y.1 = some .local ∨ (scope.names.lookup y.1 = some .cell ∧ ((cellsFrom (s.heap.objs.size + 1) scope.names []).lookup y.1).isSome = true) := fun y hy =>
    (S.par y.1 (List.of_mem_zip (show (y.1, y.2) ∈ _ from hy)).1).imp _root_.id fun z => ⟨z, PySem.W.cellsFrom_some _ _ _ (.inl z)⟩
  refine PySem.W.kla_callFunE hr.depth ho rfl S.co S.gen rfl hcr ?_
  rw [hbind us pm (.ref c) ctv (by rw [← r.length]; exact hl)]
  refine wpAny_pure ?_
  refine wpAny_newFunctionEnv_cells S.kind slots fun env he s1 x => ?_
  subst he
  refine ⟨free_.keeps x.toInCall.keep, ?_⟩
  obtain ⟨t, ht, hq⟩ := hb A out s H f c vs Q E (hr.deeper _) hsp
  have I : Inv (cxOf cx P w K mg base N q scope f (.ref c) A out s H E) [] (start N vs) H s1 := inv_start S hr.hd e0 hl r x
  refine PySem.W.kla_codeExpr (wpAny_mono (ht.run [] s1 (start N vs) H _ I hq) (fun u s' hs => ?_) fun e s' hs => hs)
  obtain ⟨v, H', J, rv, qv⟩ := hs
  exact ⟨v, H', J.os, J.bare, J.base, J.hok, rv, qv⟩

section
variable {X : Cx}
theorem s75_call_sub (a b : Expr) (p : Pos) (args : List Expr) (pos : Pos) (env : Env) : eval (.Call (.Subscript a b p) args [] pos) env = (do callWith pos (← eval (.Subscript a b p) env) [] (backTo pos (starEach args env)) (backToKw pos (keywordEach [] env))) := rfl
/-- l[i](e, ..), a lambda there -/
def tLamCall (P : Program) (w : World) (K : PySem.W.Frag) (mg : Str → Option Value) (base : Heap) (cx : CXT) (k : Nat) (E : XK) (tf : TE) (ta : TA) : TE := fun σ H Q => tf σ H fun fv H1 => ∃ (f c : Addr) (q : Str) (params : Arguments) (body : Expr) (scope : Scope) (sp : Sp), fv = .ref f ∧ H1 f = some (LamO f q params body scope c) ∧
  ta σ H1 fun vs H2 => H2 f = some (LamO f q params body scope c) ∧ H2 c = some (CodeO c q) ∧ LamOk P w K mg base cx k q params body scope sp ∧ sp vs H2 Q E
theorem pe_lamcall {cx : CXT} {k : Nat} {E : XK} {a b e : Expr} {es : List Expr} {p pos : Pos} {tf : TE} {ta : TA} (hr : Room k X.A) (hx : Passes cx X E) (hf : PE X (.Subscript a b p) tf) (ha : PA X (e :: es) ta)
    (he : starEach (e :: es) X.env = (false, eval e X.env) :: starEach es X.env := by rfl) (hpl : (backTo pos (starEach es X.env)).any (·.1) = false := by rfl) :
    PE X (.Call (.Subscript a b p) (e :: es) [] pos) (tLamCall X.prog X.w X.K X.mg X.base cx k E tf ta) := by
  refine ⟨fun pins s σ H Q I h => ?_⟩
  rw [s75_call_sub]
  refine wpAny_bind (thn (hf.run pins s σ H _ I h) fun u s1 hh => ?_)
  obtain ⟨fv, H1, I1, r1, f, c, q, params, body, scope, sp, ef, hl, q1⟩ := hh
  subst ef
  obtain rfl : u = Value.ref f := r1
  obtain ⟨pm, ctv, ho⟩ := lamO_at I1.hok hl
  refine PySem.W.callWith_F ⟨_, _, _, _, ho⟩ (thn (ha.run pos pins s1 σ H1 _ I1 q1) fun us s2 ⟨vs, H2, I2, r2, hl2, hc2, L, hsp⟩ => ?_) he hpl
  obtain ⟨pm2, ctv2, ho2⟩ := lamO_at I2.hok hl2
  refine ⟨⟨_, _, _, _, ho2⟩, ?_⟩
  show wpAny _ _ (call (.ref f) us) _ _ _
  refine wpAny_call (codeAny_mono (L X.A X.stack s2 H2 f c pm2 ctv2 us vs Q E hr I2.env0 ho2 (codeO_at I2.hok hc2) r2 hsp) ?_)
  intro z s' hq
  match z, hq with
  | .error e, hq => exact hx pins σ H2 s2 e s' I2 hq
  | .ok (.ret u), hq => exact I2.after hq
  | .ok .next, hq => exact hq.elim
  | .ok .brk, hq => exact hq.elim
  | .ok .cont, hq => exact hq.elim
end
end Sd
/-! S75e: data with dicts: where it is carried, how it is laid, its repr -/
namespace Sd
open PySem PySem.Spec PyProof.Rows L2 LamX

mutual
/-- at v stands the data d; the cells of M are not of it -/
def Rp (M : List Addr) (H : Hp) : PyData → V → Prop
  | .none, v => v = .non
  | .bool b, v => v = .bl b
  | .int i, v => v = .int i
  | .str s, v => v = .str s
  | .tuple ds, v => ∃ a xs, v = .ref a ∧ H a = some (.tup xs) ∧ RpA M H ds xs
  | .list ds, v => ∃ a xs, v = .ref a ∧ a ∉ M ∧ (a == sysModules) = false ∧ H a = some (.lst xs) ∧ RpA M H ds xs
  | .dict kvs, v => ∃ a ks, v = .ref a ∧ a ∉ M ∧ H a = some (.dK ks) ∧ RpK M H kvs ks
def RpA (M : List Addr) (H : Hp) : List PyData → List V → Prop
  | [], xs => xs = []
  | d :: ds, xs => ∃ v vs, xs = v :: vs ∧ Rp M H d v ∧ RpA M H ds vs
def RpK (M : List Addr) (H : Hp) : List (PyData × PyData) → List (Key × V) → Prop
  | [], xs => xs = []
  | (k, d) :: ds, xs => ∃ s v vs, xs = (.inr s, v) :: vs ∧ k = .str s ∧ Rp M H d v ∧ RpK M H ds vs
end
mutual
theorem Rp.go {M : List Addr} {H H' : Hp} (g : Go M H H') : ∀ (d : PyData) (v : V), Rp M H d v → Rp M H' d v
  | .none, _, h => h
  | .bool b, _, h => h
  | .int i, _, h => h
  | .str s, _, h => h
  | .tuple ds, v, h => by
    simp only [Rp] at h ⊢
    obtain ⟨a, xs, e, ha, hd⟩ := h
    exact ⟨a, xs, e, g.fix _ _ rfl ha, RpA.go g ds xs hd⟩
  | .list ds, v, h => by
    simp only [Rp] at h ⊢
    obtain ⟨a, xs, e, hm, hs, ha, hd⟩ := h
    exact ⟨a, xs, e, hm, hs, g.old _ _ hm ha, RpA.go g ds xs hd⟩
  | .dict kvs, v, h => by
    simp only [Rp] at h ⊢
    obtain ⟨a, ks, e, hm, ha, hd⟩ := h
    exact ⟨a, ks, e, hm, g.old _ _ hm ha, RpK.go g kvs ks hd⟩
theorem RpA.go {M : List Addr} {H H' : Hp} (g : Go M H H') : ∀ (ds : List PyData) (xs : List V), RpA M H ds xs → RpA M H' ds xs
  | [], _, h => h
  | d :: ds, xs, h => by
    simp only [RpA] at h ⊢
    obtain ⟨v, vs, e, h1, h2⟩ := h
    exact ⟨v, vs, e, Rp.go g d v h1, RpA.go g ds vs h2⟩
theorem RpK.go {M : List Addr} {H H' : Hp} (g : Go M H H') : ∀ (ds : List (PyData × PyData)) (xs : List (Key × V)), RpK M H ds xs → RpK M H' ds xs
  | [], _, h => h
  | (k, d) :: ds, xs, h => by
    simp only [RpK] at h ⊢
    obtain ⟨s, v, vs, e, ek, h1, h2⟩ := h
    exact ⟨s, v, vs, e, ek, Rp.go g d v h1, RpK.go g ds vs h2⟩
end
mutual
theorem Rp.sub {M N : List Addr} {H : Hp} (g : ∀ a ∈ M, a ∈ N) : ∀ (d : PyData) (v : V), Rp N H d v → Rp M H d v
  | .none, _, h => h
  | .bool b, _, h => h
  | .int i, _, h => h
  | .str s, _, h => h
  | .tuple ds, v, h => by
    simp only [Rp] at h ⊢
    obtain ⟨a, xs, e, ha, hd⟩ := h
    exact ⟨a, xs, e, ha, RpA.sub g ds xs hd⟩
  | .list ds, v, h => by
    simp only [Rp] at h ⊢
    obtain ⟨a, xs, e, hm, hs, ha, hd⟩ := h
    exact ⟨a, xs, e, fun z => hm (g a z), hs, ha, RpA.sub g ds xs hd⟩
  | .dict kvs, v, h => by
    simp only [Rp] at h ⊢
    obtain ⟨a, ks, e, hm, ha, hd⟩ := h
    exact ⟨a, ks, e, fun z => hm (g a z), ha, RpK.sub g kvs ks hd⟩
theorem RpA.sub {M N : List Addr} {H : Hp} (g : ∀ a ∈ M, a ∈ N) : ∀ (ds : List PyData) (xs : List V), RpA N H ds xs → RpA M H ds xs
  | [], _, h => h
  | d :: ds, xs, h => by
    simp only [RpA] at h ⊢
    obtain ⟨v, vs, e, h1, h2⟩ := h
    exact ⟨v, vs, e, Rp.sub g d v h1, RpA.sub g ds vs h2⟩
theorem RpK.sub {M N : List Addr} {H : Hp} (g : ∀ a ∈ M, a ∈ N) : ∀ (ds : List (PyData × PyData)) (xs : List (Key × V)), RpK N H ds xs → RpK M H ds xs
  | [], _, h => h
  | (k, d) :: ds, xs, h => by
    simp only [RpK] at h ⊢
    obtain ⟨s, v, vs, e, ek, h1, h2⟩ := h
    exact ⟨s, v, vs, e, ek, Rp.sub g d v h1, RpK.sub g ds vs h2⟩
end
theorem RpA.at {M : List Addr} {H : Hp} : ∀ {ds : List PyData} {xs : List V} {r : Nat} {v : V}, RpA M H ds xs → xs[r]? = some v → ∃ d, ds[r]? = some d ∧ Rp M H d v
  | [], xs, r, v, h, e => by
    simp only [RpA] at h
    subst h
    simp at e
  | d :: ds, xs, r, v, h, e => by
    simp only [RpA] at h
    obtain ⟨v', vs, rfl, h1, h2⟩ := h
    cases r with
    | zero =>
      have e' : v' = v := Option.some.inj e
      subst e'
      exact ⟨d, rfl, h1⟩
    | succ r => exact RpA.at (r := r) h2 e
theorem RpA.len {M : List Addr} {H : Hp} : ∀ {ds : List PyData} {xs : List V}, RpA M H ds xs → xs.length = ds.length
  | [], xs, h => by
    simp only [RpA] at h
    subst h
    rfl
  | d :: ds, xs, h => by
    simp only [RpA] at h
    obtain ⟨v', vs, rfl, h1, h2⟩ := h
    simp [RpA.len h2]
theorem RpA.app {M : List Addr} {H : Hp} : ∀ {ds es : List PyData} {xs ys : List V}, RpA M H ds xs → RpA M H es ys → RpA M H (ds ++ es) (xs ++ ys)
  | [], es, xs, ys, h, h' => by
    simp only [RpA] at h
    subst h
    exact h'
  | d :: ds, es, xs, ys, h, h' => by
    simp only [RpA] at h
    obtain ⟨v', vs, rfl, h1, h2⟩ := h
    show RpA M H (d :: (ds ++ es)) (v' :: (vs ++ ys))
    simp only [RpA]
    exact ⟨v', _, rfl, h1, RpA.app h2 h'⟩

/-! ### its repr -/
section
variable {X : Cx} {pins : List (Addr × Obj)} {σ : L2.St} {H : Hp} {s : Shared} {M : List Addr}
mutual
theorem Rp.reads (I : Inv X pins σ H s) : ∀ (d : PyData) (v : V) (u : Value), Rp M H d v → RelV v u → ∃ as, Reads s.heap u d as ∧ sysModules ∉ as
  | .none, v, u, h, r => by
    simp only [Rp] at h
    subst h
    cases r
    exact ⟨_, Reads.none, by simp⟩
  | .bool b, v, u, h, r => by
    simp only [Rp] at h
    subst h
    cases r
    exact ⟨_, Reads.bool b, by simp⟩
  | .int i, v, u, h, r => by
    simp only [Rp] at h
    subst h
    obtain ⟨t, rfl⟩ := r
    exact ⟨_, Reads.int i t, by simp⟩
  | .str x, v, u, h, r => by
    simp only [Rp] at h
    subst h
    obtain ⟨t, rfl⟩ := r
    exact ⟨_, Reads.str x t, by simp⟩
  | .tuple ds, v, u, h, r => by
    simp only [Rp] at h
    obtain ⟨a, xs, rfl, ha, hd⟩ := h
    obtain rfl : u = Value.ref a := r
    obtain ⟨_, its, rv, o, h1, h2, n, h3⟩ := (show ObjOk X.prog X.w H s.heap a (.tup xs) from I.hok a _ ha)
    obtain ⟨as, hr, hs⟩ := RpA.reads I ds xs its hd rv
    exact ⟨as, Reads.tuple h1 h2 h3 (by simpa using hr), hs⟩
  | .list ds, v, u, h, r => by
    simp only [Rp] at h
    obtain ⟨a, xs, rfl, hm, hsy, ha, hd⟩ := h
    obtain rfl : u = Value.ref a := r
    obtain ⟨_, its, n, rv, h1⟩ := (show ObjOk X.prog X.w H s.heap a (.lst xs) from I.hok a _ ha)
    obtain ⟨as, hr, hs⟩ := RpA.reads I ds xs its hd rv
    refine ⟨a :: as, Reads.list h1 rfl rfl (by simpa using hr), fun z => ?_⟩
    rcases List.mem_cons.mp z with z | z
    · rw [← z] at hsy
      simp at hsy
    · exact hs z
  | .dict kvs, v, u, h, r => by
    simp only [Rp] at h
    obtain ⟨a, ks, rfl, hm, ha, hd⟩ := h
    obtain rfl : u = Value.ref a := r
    obtain ⟨_, hsy, vs, rv, o, es, ep, h1, h2, h3, _, hp, _⟩ := (show ObjOk X.prog X.w H s.heap a (.dK ks) from I.hok a _ ha)
    obtain ⟨as, bs, hr1, hr2, hs1, hs2⟩ := RpK.reads I kvs ks vs es.toList hd rv hp
    refine ⟨a :: as ++ bs, Reads.dict h1 h2.1 h3 hr1 hr2, fun z => ?_⟩
    rcases List.mem_append.mp z with z | z
    · rcases List.mem_cons.mp z with z | z
      · rw [← z] at hsy
        simp at hsy
      · exact hs1 z
    · exact hs2 z
theorem RpA.reads (I : Inv X pins σ H s) : ∀ (ds : List PyData) (xs : List V) (us : List Value), RpA M H ds xs → Vals xs us → ∃ as, ReadsAll s.heap us ds as ∧ sysModules ∉ as
  | [], xs, us, h, r => by
    simp only [RpA] at h
    subst h
    cases r
    exact ⟨_, ReadsAll.nil, by simp⟩
  | d :: ds, xs, us, h, r => by
    simp only [RpA] at h
    obtain ⟨v, vs, rfl, h1, h2⟩ := h
    cases r with
    | cons rv rt =>
      obtain ⟨as, a1, a2⟩ := Rp.reads I d v _ h1 rv
      obtain ⟨bs, b1, b2⟩ := RpA.reads I ds vs _ h2 rt
      exact ⟨_, ReadsAll.cons a1 b1, fun z => (List.mem_append.mp z).elim a2 b2⟩
theorem RpK.reads (I : Inv X pins σ H s) : ∀ (ds : List (PyData × PyData)) (xs : List (Key × V)) (us : List (Key × Value)) (es : List DictEntry), RpK M H ds xs → KV xs us → Pairs (mixKind X.prog X.w) es us →
    ∃ as bs, ReadsAll s.heap (es.map (·.key)) (ds.map (·.1)) as ∧ ReadsAll s.heap (es.map (·.val)) (ds.map (·.2)) bs ∧ sysModules ∉ as ∧ sysModules ∉ bs
  | [], xs, us, es, h, r, p => by
    simp only [RpK] at h
    subst h
    cases r
    cases p
    exact ⟨_, _, ReadsAll.nil, ReadsAll.nil, by simp, by simp⟩
  | (k, d) :: ds, xs, us, es, h, r, p => by
    simp only [RpK] at h
    obtain ⟨x, v, vs, rfl, rfl, h1, h2⟩ := h
    cases r with
    | @cons _ q1 _ qs rv rt =>
      obtain ⟨k1, u1⟩ := q1
      obtain ⟨e1, rv⟩ := rv
      dsimp only at e1 rv
      subst e1
      cases p with
      | cons hk hv pt =>
        obtain ⟨as, bs, a1, b1, a2, b2⟩ := RpK.reads I ds vs qs _ h2 rt pt
        obtain ⟨t, ek⟩ := Value.isStrOf_shape (show Value.isStrOf x _ = true from hk)
        obtain ⟨cs, c1, c2⟩ := Rp.reads I d v _ h1 rv
        refine ⟨[] ++ as, cs ++ bs, ReadsAll.cons ?_ a1, ReadsAll.cons ?_ b1, by simpa using a2, fun z => (List.mem_append.mp z).elim c2 b2⟩
        · show Reads s.heap (DictEntry.key _) (.str x) []
          rw [ek]
          exact Reads.str x t
        · show Reads s.heap (DictEntry.val _) d cs
          rw [hv]
          exact c1
end
end

/-! ### repr(v) -/
def rReprD (M : List Addr) (A : Around) : List V → Hp → VK → Prop := fun xs H Q => ∃ v d, xs = [v] ∧ Rp M H d v ∧ d.showable = true ∧ d.shown.length ≤ sizeLine ∧ A.units + (d.depth + 1) < cLine ∧ Q (.str d.shown) H
theorem call_reprX {X : Cx} {M : List Addr} (hG : X.A.guards = some []) : CallR X (.builtin "repr") (rReprD M X.A) := by
  intro pins s σ H xs us Q I r h
  obtain ⟨v, d, rfl, hd, hs, hz, hu, q⟩ := h
  obtain ⟨u, rfl, rx⟩ := vals1 r
  obtain ⟨as, rd, hno⟩ := Rp.reads I d v u hd rx
  cases d with
  | none =>
    simp only [Rp] at hd
    subst hd
    cases rx
    refine PySem.P.repr_of_none ⟨.str _, H, I.tok _, ⟨_, rfl⟩, ?_⟩
    exact q
  | bool b =>
    simp only [Rp] at hd
    subst hd
    cases rx
    refine PySem.P.repr_of_bool ⟨.str _, H, I.tok _, ⟨_, rfl⟩, ?_⟩
    exact q
  | int i =>
    simp only [Rp] at hd
    subst hd
    obtain ⟨t, rfl⟩ := rx
    refine PySem.P.repr_of_int (by simpa [PyData.showable] using hs) ⟨.str _, H, I.tok _, ⟨_, rfl⟩, ?_⟩
    exact q
  | str x =>
    simp only [Rp] at hd
    subst hd
    obtain ⟨t, rfl⟩ := rx
    refine PySem.P.repr_of_str ⟨.str _, H, I.tok _, ⟨_, rfl⟩, ?_⟩ hz
    exact q
  | list ds =>
    simp only [Rp] at hd
    obtain ⟨a, xs, rfl, _⟩ := hd
    cases rx
    exact repr_of_reads' rd hs (fun _ => hno) hG hu (fun _ _ e => e) (fun h' u tk kp => ⟨.str _, H, I.kept (t' := tk) kp, ⟨_, rfl⟩, q⟩) hz
  | tuple ds =>
    simp only [Rp] at hd
    obtain ⟨a, xs, rfl, _⟩ := hd
    cases rx
    exact repr_of_reads' rd hs (fun _ => hno) hG hu (fun _ _ e => e) (fun h' u tk kp => ⟨.str _, H, I.kept (t' := tk) kp, ⟨_, rfl⟩, q⟩) hz
  | dict ds =>
    simp only [Rp] at hd
    obtain ⟨a, xs, rfl, _⟩ := hd
    cases rx
    exact repr_of_reads' rd hs (fun _ => hno) hG hu (fun _ _ e => e) (fun h' u tk kp => ⟨.str _, H, I.kept (t' := tk) kp, ⟨_, rfl⟩, q⟩) hz

/-! ### how data are laid -/
/-- [e, ..]: its place is not that of sys.modules -/
def tLstS (t : TA) : TE := fun σ H Q => t σ H fun xs H1 => xs.length ≤ sizeLine ∧ ∀ p, H1 p = none → (p == sysModules) = false → Q (.ref p) (upd H1 p (.lst xs))
theorem pe_lstS {X : Cx} {es : List Expr} {t : TA} {pos : Pos} (h : PA X es t) : PE X (.List es pos) (tLstS t) := by
  refine ⟨fun pins s σ H Q I hq => ?_⟩
  refine wpAny_List_spliced (thn (h.run pos pins s σ H _ I hq) fun us s1 ⟨xs, H1, I1, r, z, q⟩ => ⟨by rw [← r.length]; exact z, ?_⟩)
  have hf : H1 s1.heap.objs.size = none := I1.hok.fresh (Nat.le_refl _)
  have hb : (s1.heap.objs.size == sysModules) = false := beq_eq_false_iff_ne.mpr (Nat.ne_of_gt I1.big)
  refine ⟨.ref s1.heap.objs.size, upd H1 s1.heap.objs.size (.lst xs), I1.laid (t' := s1.toks) (fun b u e => Heap.get?_push_of_some _ e) (Nat.le_refl _) ?_, rfl, q _ hf hb⟩
  exact ⟨z, us, 0, r, Heap.get?_push_size _ rfl⟩
/-- an expression that lays data -/
def Gd (te : TE) (d : PyData) : Prop := ∀ (M : List Addr) (σ : L2.St) (H : Hp) (Q : VK), (∀ a ∈ M, H a ≠ none) → (∀ v H', Go [] H H' → Rp M H' d v → Q v H') → te σ H Q
def GdA (ta : TA) (ds : List PyData) : Prop := ∀ (M : List Addr) (σ : L2.St) (H : Hp) (Q : List V → Hp → Prop), (∀ a ∈ M, H a ≠ none) → (∀ vs H', Go [] H H' → RpA M H' ds vs → Q vs H') → ta σ H Q
theorem notM {M : List Addr} {H H' : Hp} (hM : ∀ a ∈ M, H a ≠ none) (g : Go [] H H') : ∀ a ∈ M, H' a ≠ none := fun a ha e => hM a ha (g.free (by simp) e)
theorem gd_c {v : V} {d : PyData} (h : ∀ M H, Rp M H d v) : Gd (tC v) d := fun M σ H Q _ q => q v H (Go.refl _ _) (h M H)
theorem gdA_nil : GdA tNil [] := fun M σ H Q _ q => q [] H (Go.refl _ _) (by simp only [RpA])
theorem gdA_cons {te : TE} {ta : TA} {d : PyData} {ds : List PyData} (h : Gd te d) (h' : GdA ta ds) : GdA (tCons te ta) (d :: ds) := fun M σ H Q hM q => by
  refine h M σ H _ hM fun v H1 g1 r1 => h' M σ H1 _ (notM hM g1) fun vs H2 g2 r2 => q _ _ (g1.trans g2) ?_
  simp only [RpA]
  exact ⟨v, vs, rfl, Rp.go g2.wide d v r1, r2⟩
theorem gd_tup {ta : TA} {ds : List PyData} (h : GdA ta ds) (hl : ds.length ≤ 1000) : Gd (tTup ta) (.tuple ds) := fun M σ H Q hM q => by
  refine h M σ H _ hM fun vs H1 g1 r1 => ⟨by rw [r1.len, sizeLine_eq]; omega, fun p hp => q _ _ (g1.trans (Go.new hp)) ?_⟩
  simp only [Rp]
  exact ⟨p, vs, rfl, upd_same, RpA.go (Go.new hp) ds vs r1⟩
theorem gd_lst {ta : TA} {ds : List PyData} (h : GdA ta ds) (hl : ds.length ≤ 1000) : Gd (tLstS ta) (.list ds) := fun M σ H Q hM q => by
  refine h M σ H _ hM fun vs H1 g1 r1 => ⟨by rw [r1.len, sizeLine_eq]; omega, fun p hp hs => q _ _ (g1.trans (Go.new hp)) ?_⟩
  simp only [Rp]
  exact ⟨p, vs, rfl, fun z => notM hM g1 p z hp, hs, upd_same, RpA.go (Go.new hp) ds vs r1⟩
theorem gd_d0 : Gd tDNewK (.dict []) := fun M σ H Q hM q p hp => by
  refine q _ _ (Go.new hp) ?_
  simp only [Rp]
  exact ⟨p, [], rfl, fun z => hM p z hp, upd_same, by simp only [RpK]⟩
theorem gd_d1 {te : TE} {k : Str} {d : PyData} (h : Gd te d) : Gd (tDisp [(tC (.str k), te)]) (.dict [(.str k, d)]) := fun M σ H Q hM q p hp => by
  show tC (.str k) σ (upd H p (.dK [])) _
  refine h (p :: M) σ _ _ (fun a ha => ?_) fun v H2 g2 r2 => ?_
  · rcases List.mem_cons.mp ha with z | z
    · subst z
      rw [upd_same]
      simp
    · rw [upd_ne (fun e => hM a z (by rw [e]; exact hp))]
      exact hM a z
  · have hpd : H2 p = some (.dK []) := g2.old p _ (by simp) upd_same
    refine ⟨hpd, [(.inr k, v)], rfl, by simp, ?_⟩
    have g3 : Go [p] H2 (upd H2 p (.dK (mergeK [] [(.inr k, v)]))) := Go.put hpd rfl (List.Mem.head _)
    refine q _ _ ⟨fun b o hb e => ?_, fun b o hb e => ?_⟩ ?_
    · rw [upd_ne (ne_of_none e hp)]
      exact g2.old b o (by simp) (by rw [upd_ne (ne_of_none e hp)]; exact e)
    · rw [upd_ne (ne_of_none e hp)]
      exact g2.old b o (by simp) (by rw [upd_ne (ne_of_none e hp)]; exact e)
    · simp only [Rp]
      refine ⟨p, _, rfl, fun z => hM p z hp, upd_same, ?_⟩
      show RpK M _ [(.str k, d)] [(.inr k, v)]
      simp only [RpK]
      exact ⟨k, v, [], rfl, rfl, Rp.sub (fun a ha => List.mem_cons_of_mem _ ha) d v (Rp.go (g3.mono fun b hb => by simpa using Or.inl (List.mem_singleton.mp hb)) d v r2), rfl⟩
end Sd
/-! S75f: the classes of the text, by one look at what is written -/
namespace Sd
open PySem PySem.Spec PyProof.Rows L2 LamX

/-- what is known of one of the error classes at C -/
structure Cl (K : PySem.W.Frag) (fI C : Addr) : Prop where
  oex : OexC K C
  exc : ExcC K C
  xf : XfC K C
  noV : PySem.W.findIn K (.ref C) "value" = some none
  ini : PySem.W.findIn K (.ref C) "__init__" = some (some (.ref fI))
/-- the same as one test, but for the object itself -/
def clB (K : PySem.W.Frag) (fI C : Addr) : Bool :=
  decide (PySem.W.findIn K (.ref C) "__setattr__" = some (some (.builtin "object.__setattr__"))) && (decide (PySem.W.subIn K (.ref C) (.type "BaseException") = some true) && (decide (PySem.W.typeIn K (.ref C) = some (.type "type")) && (PySem.W.keepIn K (.ref C) &&
  (decide (PySem.W.findIn K (.ref C) "__getattribute__" = some (some (.builtin "BaseException.__getattribute__"))) && (decide (PySem.W.findIn K (.ref C) "__getattr__" = some none) && (PySem.W.hasDictIn K C && (decide (PySem.W.findIn K (.ref C) "__class__" = some (some (.builtin "object.__class__"))) &&
  (decide (PySem.W.mroIn K C (.type "object") = some true) && (decide (PySem.W.findIn K (.ref C) "value" = some none) && decide (PySem.W.findIn K (.ref C) "__init__" = some (some (.ref fI))))))))))))
/-- the object: a class over ValueError -/
def obB (K : PySem.W.Frag) (C : Addr) : Bool := match K.lookup C with
  | some ⟨.type t, _, .cls cd, sl⟩ => decide (t = "type") && (cd.hasDict && (!cd.hasDel && ((match cd.mro with | .ref D :: bm => decide (D = C) && PySem.HandSPX.refsVE bm | _ => false) && (match sl.toList with | [_, _, _, _, some (.builtin i), _] => decide (i = "ValueError.__new__") | _ => false))))
  | _ => false
theorem obB_ok {K : PySem.W.Frag} {C : Addr} (h : obB K C = true) : ∃ nm q N bs bm sn sub ab col dd k0 k1 k2 k3 k5, K.lookup C = some (excClassObj nm q C N bs bm true sn sub ab col dd k0 k1 k2 k3 k5 "ValueError.__new__") ∧ PySem.HandSPX.refsVE bm = true := by
  unfold obB at h
  split at h
  · rename_i t dd cd sl ho
    obtain ⟨nm, bs, mro, ns, qn, hd, sn, sb, ab, col, dl⟩ := cd
    dsimp only at h
    simp only [Bool.and_eq_true, decide_eq_true_eq, Bool.not_eq_true'] at h
    obtain ⟨rfl, rfl, rfl, h4, h5⟩ := h
    split at h4
    · rename_i D bm
      simp only [Bool.and_eq_true, decide_eq_true_eq] at h4
      obtain ⟨rfl, hb⟩ := h4
      split at h5
      · rename_i k0 k1 k2 k3 i k5 hs
        have hi : i = "ValueError.__new__" := of_decide_eq_true h5
        subst hi
        obtain ⟨sl⟩ := sl
        dsimp only at hs
        subst hs
        exact ⟨nm, qn, ns, bs, bm, sn, sb, ab, col, dd, k0, k1, k2, k3, k5, ho, hb⟩
      · cases h5
    · cases h4
  · cases h
theorem clB_ok {K : PySem.W.Frag} {fI C : Addr} (h : clB K fI C = true) (ho : obB K C = true) (hn : PySem.W.specialIn K (.builtin "object.__class__") "__get__" = some (some (.builtin "getset_descriptor.__get__"))) (ht : PySem.W.takesIn K (.builtin "object.__class__") = some true) : Cl K fI C := by
  unfold clB at h
  simp only [Bool.and_eq_true, decide_eq_true_eq] at h
  obtain ⟨h1, h2, h3, h4, h5, h6, h7, h8, h9, h10, h11⟩ := h
  exact ⟨⟨obB_ok ho, h1, h2, h3, h4⟩, ⟨h5, h6, h2, h7, h8, hn, ht, h9⟩, ⟨h5, h6, h2, h7⟩, h10, h11⟩

def errNames : List Str := ["BadSteps", "BadClock", "BadPages", "BadMove", "BadSet", "NoStep", "BadLength", "BadRun", "BadSets", "BadWatch", "BadJournal", "BadTick", "NoPage", "BadRange", "BadStates", "OtherMachine", "BadWeight", "BadBound", "TooMany", "BadPrices", "BadMarks", "Stuck", "TooLong", "OtherWatch", "NoState", "OtherSet", "NothingToUndo", "Nothing", "BadText", "BadLine"]
/-- the class of this name, where the text leaves it -/
def clAt (K : PySem.W.Frag) (x : Str) : Addr := match PySem.W.nsIn K mainGlobals x with
  | some (some (.ref C)) => C
  | _ => 0
def nmB (K : PySem.W.Frag) (x : Str) : Bool := decide (PySem.W.nsIn K mainGlobals x = some (some (.ref (clAt K x))))
/-- all classes, each beside each: isinstance tells the very class alone; and both above -/
def allB (K : PySem.W.Frag) (fI : Addr) : Bool := errNames.all fun x => nmB K x && (clB K fI (clAt K x) && obB K (clAt K x))
def matB (K : PySem.W.Frag) : Bool := (errNames.zipIdx).all fun p => (errNames.zipIdx).all fun q => decide (PySem.W.kitOne K (.ref (clAt K p.1)) (.ref (clAt K q.1)) = some (decide (q.2 = p.2)))
def topB (K : PySem.W.Frag) : Bool := errNames.all fun x => decide (PySem.W.kitOne K (.ref (clAt K x)) (.ref (clAt K "SeldomError")) = some true) && decide (PySem.W.kitOne K (.ref (clAt K x)) (.type "ValueError") = some true)
/-- the classes as the law meets them -/
structure Es (c : Wd) (fI : Addr) : Prop where
  at_ : ∀ (i : Nat) (x : Str), errNames[i]? = some x → c.mg x = some (.ref (clAt c.K x)) ∧ Cl c.K fI (clAt c.K x)
  two : ∀ (i j : Nat) (x y : Str), errNames[i]? = some x → errNames[j]? = some y → PySem.W.kitOne c.K (.ref (clAt c.K x)) (.ref (clAt c.K y)) = some (decide (j = i))
  top : ∀ (i : Nat) (x : Str), errNames[i]? = some x → PySem.W.kitOne c.K (.ref (clAt c.K x)) (.ref (clAt c.K "SeldomError")) = some true ∧ PySem.W.kitOne c.K (.ref (clAt c.K x)) (.type "ValueError") = some true
  sel : c.mg "SeldomError" = some (.ref (clAt c.K "SeldomError"))
  val : c.mg "ValueError" = none
theorem es_of {c : Wd} {fI : Addr} {h : Heap} (X : c.K.In h) (G : h.Ns mainGlobals c.mg) (h1 : allB c.K fI = true) (h2 : matB c.K = true) (h3 : topB c.K = true) (hn : PySem.W.specialIn c.K (.builtin "object.__class__") "__get__" = some (some (.builtin "getset_descriptor.__get__"))) (ht : PySem.W.takesIn c.K (.builtin "object.__class__") = some true)
    (hs : nmB c.K "SeldomError" = true) (hv : c.mg "ValueError" = none) : Es c fI := by
  have mem : ∀ {i : Nat} {x : Str}, errNames[i]? = some x → x ∈ errNames := fun e => List.mem_of_getElem? e
  refine ⟨fun i x e => ?_, fun i j x y e e' => ?_, fun i x e => ?_, ?_, hv⟩
  · have h := List.all_eq_true.mp h1 x (mem e)
    simp only [Bool.and_eq_true] at h
    exact ⟨PySem.W.mg_of X G (of_decide_eq_true h.1), clB_ok h.2.1 h.2.2 hn ht⟩
  · have m1 : (x, i) ∈ errNames.zipIdx := List.mem_zipIdx_iff_getElem?.mpr e
    have m2 : (y, j) ∈ errNames.zipIdx := List.mem_zipIdx_iff_getElem?.mpr e'
    have h := List.all_eq_true.mp (List.all_eq_true.mp h2 _ m1) _ m2
    exact of_decide_eq_true h
  · have h := List.all_eq_true.mp h3 x (mem e)
    simp only [Bool.and_eq_true, decide_eq_true_eq] at h
    exact h
  · exact PySem.W.mg_of X G (of_decide_eq_true hs)
end Sd
/-! S75g: the lambdas that make errors, and the rows of them -/
namespace Sd
open PySem PySem.Spec PyProof.Rows L2 LamX

def laA (p : Pos) : Arguments := { posonlyargs := [], args := [{ arg := "_law_it", annotation := none, pos := p }], vararg := none, kwonlyargs := [], kw_defaults := [], kwarg := none, defaults := [] }
def laS (x : Str) : Scope := { kind := .function, names := [("_law_it", .local), (x, .globalImplicit)], isGenerator := false, isCoroutine := false, more := [] }
def laP (x : Str) (p1 p2 p3 : Pos) : Expr := .Call (.Name x p1) [.Name "_law_it" p2] [] p3
def laK (x : Str) (p1 p2 p3 p4 : Pos) : Expr := .Call (.Name x p1) [] [⟨some "value", .Name "_law_it" p2, p4⟩] p3
/-- what such a lambda promises: a new error of the class at C that keeps the value -/
def spLam (C : Addr) : Sp := fun vs H Q _ => ∃ v, vs = [v] ∧ ∀ (a dx : Addr) (H' : Hp), H a = none → H dx = none → Go [] H H' → H' a = some (exo a C (some dx)) → H' dx = some (exd dx [("value", v)]) → Q (.ref a) H'
theorem err_ne {i : Nat} {x : Str} (h : errNames[i]? = some x) : (("_law_it" : Str) == x) = false ∧ (x == ("_law_it" : Str)) = false ∧ (x == ("__debug__" : Str)) = false := by
  have k : errNames.all (fun x => !(("_law_it" : Str) == x) && (!(x == ("_law_it" : Str)) && !(x == ("__debug__" : Str)))) = true := by decide +kernel
  have := List.all_eq_true.mp k x (List.mem_of_getElem? h)
  simpa only [Bool.and_eq_true, Bool.not_eq_true'] using this
theorem laS_ok {i : Nat} {x : Str} (h : errNames[i]? = some x) : FnScope ["_law_it"] ["_law_it"] (laS x) := by
  refine ⟨rfl, rfl, rfl, by decide +kernel, rfl, fun y hy => ?_, fun y hy => ?_⟩
  · have e : y = "_law_it" := by simpa using hy
    subst e
    exact .inl rfl
  · have e : y = (("_law_it" : Str), NameKind.local) ∨ y = (x, NameKind.globalImplicit) := by simpa [laS] using hy
    rcases e with e | e <;> subst e <;> exact fun z => by cases z
/-- the init of the errors, as the text leaves it -/
structure Ini (c : Wd) (fI : Addr) (fd : FuncData) : Prop where
  ok : FnOk c.P c.w c.K c.mg c.base (L2.CX c.P c.w) 1 fI fd ["self", "value"] (spInit c.K)
  ty : PySem.W.typeIn c.K (.ref fI) = some (.type "function")
  b1 : ∀ (s : Shared) (a : Addr) (us : List Value), us.length + 1 = (["self", "value"] : List Str).length → BindsTo s fd ⟨.ref a :: us, []⟩ ((["self", "value"] : List Str).zip (.ref a :: us))
  b2 : ∀ (s : Shared) (a : Addr) (ws : List Value), ws.length = (["value"] : List Str).length → BindsTo s fd ⟨[.ref a], (["value"] : List Str).zip ws⟩ ((["self", "value"] : List Str).zip (.ref a :: ws))
section
variable {c : Wd} {fI : Addr} {fd : FuncData}
theorem init_end {K : PySem.W.Frag} {C a : Addr} {v : V} {H : Hp} {Q : VK} (T : Cl K fI C) (ha : H a = none) (q : ∀ (a dx : Addr) (H' : Hp), H a = none → H dx = none → Go [] H H' → H' a = some (exo a C (some dx)) → H' dx = some (exd dx [("value", v)]) → Q (.ref a) H') :
    spInit K [.ref a, v] (upd H a (exo a C none)) (fun u H3 => u = .non ∧ Q (.ref a) H3) fun _ _ _ => False := by
  refine ⟨a, C, v, rfl, T.oex, T.noV, upd_same, fun dx hd hne => ⟨rfl, ?_⟩⟩
  have hd' : H dx = none := by
    rw [upd_ne hne] at hd
    exact hd
  refine q a dx _ ha hd' ⟨fun b o _ e => ?_, fun b o _ e => ?_⟩ upd_same (by rw [upd_ne hne, upd_same])
  · rw [upd_ne (ne_of_none e ha), upd_ne (ne_of_none e hd'), upd_ne (ne_of_none e ha)]
    exact e
  · rw [upd_ne (ne_of_none e ha), upd_ne (ne_of_none e hd'), upd_ne (ne_of_none e ha)]
    exact e
theorem lam_pos (E : Es c fI) (J : Ini c fI fd) {i : Nat} {x : Str} (hx : errNames[i]? = some x) (q : Str) (p p1 p2 p3 : Pos) : LamOk c.P c.w c.K c.mg c.base (L2.CX c.P c.w) 3 q (laA p) (laP x p1 p2 p3) (laS x) (spLam (clAt c.K x)) := by
  have T := (E.at_ i x hx).2
  refine lam_of (laS_ok hx) (fun vs H Q E h => ?_) (fun us pm cv ctv hl => ?_) (fun A out s H f c' vs Q E' hr h => ?_)
  · obtain ⟨v, rfl, _⟩ := h
    rfl
  · match us, hl with
    | [u], _ => rfl
  · obtain ⟨v, rfl, q⟩ := h
    refine ⟨_, pe_oex T.oex T.ini J.ty J.ok hr J.b1 passL ?_ (E.at_ i x hx).1 (pa_cons (pv 0) pa_nil) rfl (err_ne hx).2.2, ?_⟩
    · show (laS x).names.lookup x = some .globalImplicit
      show List.lookup x [(("_law_it" : Str), NameKind.local), (x, NameKind.globalImplicit)] = _
      simp only [List.lookup, (err_ne hx).2.1, beq_self_eq_true]
    · exact ⟨_, rfl, rfl, by simp, fun a ha => init_end T ha q⟩
theorem lam_kw (E : Es c fI) (J : Ini c fI fd) {i : Nat} {x : Str} (hx : errNames[i]? = some x) (q : Str) (p p1 p2 p3 p4 : Pos) : LamOk c.P c.w c.K c.mg c.base (L2.CX c.P c.w) 3 q (laA p) (laK x p1 p2 p3 p4) (laS x) (spLam (clAt c.K x)) := by
  have T := (E.at_ i x hx).2
  refine lam_of (laS_ok hx) (fun vs H Q E h => ?_) (fun us pm cv ctv hl => ?_) (fun A out s H f c' vs Q E' hr h => ?_)
  · obtain ⟨v, rfl, _⟩ := h
    rfl
  · match us, hl with
    | [u], _ => rfl
  · obtain ⟨v, rfl, q⟩ := h
    refine ⟨_, pe_oexK (ks := ["value"]) T.oex T.ini J.ty J.ok hr J.b2 passL ?_ (E.at_ i x hx).1 (pk_cons (pv 0) pk_nil) rfl rfl (err_ne hx).2.2, ?_⟩
    · show List.lookup x [(("_law_it" : Str), NameKind.local), (x, NameKind.globalImplicit)] = _
      simp only [List.lookup, (err_ne hx).2.1, beq_self_eq_true]
    · exact ⟨_, rfl, rfl, by simp, fun a ha => init_end T ha q⟩
end
end Sd
/-! S75h: rows of lambdas, rows of isinstance -/
namespace Sd
open PySem PySem.Spec PyProof.Rows L2 LamX

/-- l.append(e), l a name -/
theorem ps_app {X : Cx} {sl : Str} {si : Nat} {e : Expr} {te : TE} {p1 p2 p3 p4 : Pos} (ho : PE X (.Name sl p1) (tVar si)) (he : PE X e te) (hline : (p2.endLine == p3.line) = true)
    (hs : swapsWith (.Call (.Attribute (.Name sl p1) "append" p2) [e] [] p3) none p4.line X.env = pure false)
    (hbase : attributeBase (.Name sl p1) "append" X.env (eval (.Name sl p1) X.env) = eval (.Name sl p1) X.env)
    (hfew : ((backTo p3 (starEach [e] X.env)).all (fun x => !x.1) && (backToKw p3 (keywordEach [] X.env)).all (fun x => x.1.isSome) && decide (([e] : List Expr).length + ([] : List Keyword).length + (if ([] : List Keyword).isEmpty then 0 else 1) < 30)) = true)
    (hst : starEach [e] X.env = (false, eval e X.env) :: starEach [] X.env) :
    PS X (.Expr (.Call (.Attribute (.Name sl p1) "append" p2) [e] [] p3) p4) (fun D σ H => ∃ l xs, σ[si]? = some (some (.ref l)) ∧ H l = some (.lst xs) ∧ te σ H fun v H1 => rAppend (.ref l) [v] H1 fun _ H2 => D.nx σ H2) := by
  refine ⟨fun pins s σ H D I h => ?_⟩
  obtain ⟨l, xs, e1, e2, h⟩ := h
  exact (ps_expr (pe_bm PySem.F.plainAttrs_list PySem.F.slot_list_append PySem.F.type_list_append mt_append ho (pa_cons he pa_nil hst) hbase hfew hline hst (by rfl)) hs).run pins s σ H D I
    ⟨.ref l, e1, .inl ⟨rfl, xs, .inl (.inl e2)⟩, h⟩

inductive LamE : Str → Expr → Prop
  | pos (x : Str) (p p1 p2 p3 pl : Pos) : LamE x (.Lambda (laA p) (laP x p1 p2 p3) (laS x) pl)
  | kw (x : Str) (p p1 p2 p3 p4 pl : Pos) : LamE x (.Lambda (laA p) (laK x p1 p2 p3 p4) (laS x) pl)
inductive LamSts : List Str → List Stmt → Prop
  | nil : LamSts [] []
  | cons {x : Str} {xs : List Str} {e : Expr} {sts : List Stmt} (p1 p2 p3 p4 : Pos) : LamE x e → (p2.endLine == p3.line) = true → LamSts xs sts → LamSts (x :: xs) (.Expr (.Call (.Attribute (.Name "_law_some" p1) "append" p2) [e] [] p3) p4 :: sts)
/-- at v a lambda that makes errors of the name x -/
def LamAt (q : Str) (x : Str) (v : V) (H : Hp) : Prop := ∃ (f c : Addr) (p : Pos) (body : Expr), v = .ref f ∧ H f = some (LamO f q (laA p) body (laS x) c) ∧ H c = some (CodeO c q) ∧ ((∃ p1 p2 p3, body = laP x p1 p2 p3) ∨ ∃ p1 p2 p3 p4, body = laK x p1 p2 p3 p4)
theorem codeO_tbl {c : Addr} {q : Str} (ps : Array Value) : CodeO c q ≠ .tbl ps := codeO_ne ps
theorem lamO_lst {f c : Addr} {q : Str} {params : Arguments} {body : Expr} {scope : Scope} (ps : List V) : LamO f q params body scope c ≠ .lst ps := fun z => by
  unfold LamO at z
  cases z
theorem codeO_lst {c : Addr} {q : Str} (ps : List V) : CodeO c q ≠ .lst ps := fun z => by
  unfold CodeO at z
  cases z
/-- what the cells of M hold are tables and lists -/
def Plain (M : List Addr) (H : Hp) : Prop := ∀ a ∈ M, (∃ ps, H a = some (.tbl ps)) ∨ ∃ xs, H a = some (.lst xs)
theorem LamAt.go {q x : Str} {v : V} {H H' : Hp} {M : List Addr} (h : LamAt q x v H) (g : Go M H H') (hM : Plain M H) : LamAt q x v H' := by
  obtain ⟨f, c, p, body, rfl, h1, h2, h3⟩ := h
  refine ⟨f, c, p, body, rfl, g.old f _ (fun z => ?_) h1, g.old c _ (fun z => ?_) h2, h3⟩
  · rcases hM f z with ⟨ps, e⟩ | ⟨xs, e⟩
    · rw [h1] at e
      exact lamO_ne ps (Option.some.inj e)
    · rw [h1] at e
      exact lamO_lst xs (Option.some.inj e)
  · rcases hM c z with ⟨ps, e⟩ | ⟨xs, e⟩
    · rw [h2] at e
      exact codeO_ne ps (Option.some.inj e)
    · rw [h2] at e
      exact codeO_lst xs (Option.some.inj e)
theorem tabUpd {H : Hp} {P l : Addr} {q : Str} {xs ys : List V} (t : TabS H P q) (hl : H l = some (.lst xs)) : TabS (L2.upd H l (.lst ys)) P q := by
  obtain ⟨ps, h1, h2, h3⟩ := t
  refine ⟨ps, ?_, h2, fun pos cv hc => ?_⟩
  · rw [upd_ne (fun e => by rw [e, hl] at h1; cases h1)]
    exact h1
  · obtain ⟨c, e1, e2⟩ := h3 pos cv hc
    refine ⟨c, e1, ?_⟩
    rw [upd_ne (fun e => by rw [e, hl] at e2; exact codeO_lst xs (Option.some.inj e2).symm)]
    exact e2
theorem tabPlain {H : Hp} {P : Addr} {q : Str} (t : TabS H P q) : Plain [P] H := fun a ha => by
  obtain ⟨ps, h1, _⟩ := t
  rw [List.mem_singleton.mp ha]
  exact .inl ⟨ps, h1⟩

section
variable {X : Cx} {cc P : Addr} {q : Str}
/-- what the making of the rows of lambdas asks of the def -/
structure MkX (X : Cx) (cc P : Addr) (q : Str) : Prop where
  TB : TabB X.base X.mg cc P
  code : X.env.code = .ref cc
  qual : X.env.qual ++ "<lambda>" = q
  N : X.N[0]? = some ("_law_some" : Str)
  vis : Vis X.env.scope "_law_some"
theorem pe_lamE (W : MkX X cc P q) {x : Str} {e : Expr} (h : LamE x e) : ∃ (p : Pos) (body : Expr), PE X e (tLam P q (laA p) body (laS x)) ∧ ((∃ p1 p2 p3, body = laP x p1 p2 p3) ∨ ∃ p1 p2 p3 p4, body = laK x p1 p2 p3 p4) := by
  cases h with
  | pos p p1 p2 p3 pl => exact ⟨p, _, pe_lam W.TB W.code W.qual rfl (fun y hy e => by
      have e' : y = (("_law_it" : Str), NameKind.local) ∨ y = (x, NameKind.globalImplicit) := by simpa [laS] using hy
      rcases e' with z | z <;> subst z <;> cases e) rfl, .inl ⟨p1, p2, p3, rfl⟩⟩
  | kw p p1 p2 p3 p4 pl => exact ⟨p, _, pe_lam W.TB W.code W.qual rfl (fun y hy e => by
      have e' : y = (("_law_it" : Str), NameKind.local) ∨ y = (x, NameKind.globalImplicit) := by simpa [laS] using hy
      rcases e' with z | z <;> subst z <;> cases e) rfl, .inr ⟨p1, p2, p3, p4, rfl⟩⟩
theorem lams_run (W : MkX X cc P q) : ∀ {xs : List Str} {sts : List Stmt}, LamSts xs sts → ∀ {rst : List Stmt} {trest : TS}, PSs X rst trest → ∃ t, PSs X (sts ++ rst) t ∧ ∀ (D : Ends) (σ : L2.St) (H : Hp) (l : Addr) (acc : List V) (done : List Str),
    σ[0]? = some (some (.ref l)) → H l = some (.lst acc) → acc.length = done.length → done.length + xs.length ≤ 100 → TabS H P q → (∀ (k : Nat) (v : V) (x : Str), acc[k]? = some v → done[k]? = some x → LamAt q x v H) →
    (∀ (H' : Hp) (acc' : List V), Go [P, l] H H' → TabS H' P q → H' l = some (.lst acc') → acc'.length = (done ++ xs).length → (∀ (k : Nat) (v : V) (x : Str), acc'[k]? = some v → (done ++ xs)[k]? = some x → LamAt q x v H') → trest D σ H') → t D σ H := by
  intro xs sts h
  induction h with
  | nil =>
    intro rst trest hr
    refine ⟨trest, hr, fun D σ H l acc done e1 e2 e3 e4 e5 e6 k => k H acc (Go.refl _ _) e5 e2 (by simpa using e3) (by simpa using e6)⟩
  | @cons x xs e sts p1 p2 p3 p4 hE hline hS ih =>
    intro rst trest hr
    obtain ⟨t, ht, kt⟩ := ih hr
    obtain ⟨p, body, hp, hb⟩ := pe_lamE W hE
    have hst : starEach [e] X.env = (false, eval e X.env) :: starEach [] X.env := by cases hE <;> rfl
    have hPS := ps_app (p4 := p4) (pe_var (pos := p1) (i := 0) (x := "_law_some") W.N W.vis (by decide) (by decide)) hp hline (by cases hE <;> rfl) (by rfl) (by cases hE <;> rfl) hst
    refine ⟨_, pss_cons hPS ht, fun D σ H l acc done e1 e2 e3 e4 e5 e6 k => ?_⟩
    refine ⟨l, acc, e1, e2, e5, fun f c H1 hf g1 t1 h1 h2 => ?_⟩
    have hlP : l ∉ [P] := fun z => by
      obtain ⟨ps, hP, _⟩ := e5
      rw [List.mem_singleton.mp z, hP] at e2
      cases e2
    have hl1 : H1 l = some (.lst acc) := g1.old l _ hlP e2
    refine ⟨l, acc, .ref f, rfl, rfl, hl1, Nat.lt_of_le_of_lt (show acc.length ≤ 100 by omega) (by decide), ?_⟩
    have g2 : Go [P, l] H1 (upd H1 l (.lst (acc ++ [.ref f]))) := Go.put hl1 rfl (by simp)
    have g12 : Go [P, l] H (upd H1 l (.lst (acc ++ [.ref f]))) := (g1.mono (by simp)).trans g2
    have plain1 : Plain [P, l] H1 := fun a ha => by
      rcases List.mem_cons.mp ha with z | z
      · obtain ⟨ps, hP, _⟩ := t1
        rw [z]
        exact .inl ⟨ps, hP⟩
      · rw [List.mem_singleton.mp z]
        exact .inr ⟨_, hl1⟩
    have lamNew : LamAt q x (.ref f) H1 := ⟨f, c, p, body, rfl, h1, h2, hb⟩
    refine kt D σ _ l (acc ++ [.ref f]) (done ++ [x]) e1 upd_same (by simp [e3]) (by simp at e4 ⊢; omega) (tabUpd t1 hl1) (fun k v y h3 h4 => ?_) fun H' acc' g3 t3 h3 h4 h5 => ?_
    · by_cases hk : k < acc.length
      · rw [List.getElem?_append_left hk] at h3
        rw [List.getElem?_append_left (by omega)] at h4
        exact ((e6 k v y h3 h4).go g1 (tabPlain e5)).go g2 plain1
      · have hk2 : k = acc.length := by
          have := (List.getElem?_eq_some_iff.mp h3).1
          simp at this
          omega
        subst hk2
        rw [List.getElem?_append_right (Nat.le_refl _)] at h3
        rw [e3, List.getElem?_append_right (Nat.le_refl _)] at h4
        simp at h3 h4
        subst h3 h4
        exact lamNew.go g2 plain1
    · exact k H' acc' (g12.trans g3) t3 h3 (by simpa using h4) (by simpa using h5)
end

/-! ### rows of isinstance -/
inductive MarkE : Str → Expr → Prop
  | mk (x : Str) (p1 p2 p3 p4 : Pos) : MarkE x (.Call (.Name "isinstance" p1) [.Name "_law_thing" p2, .Name x p3] [] p4)
inductive MarkSts : List Str → List Stmt → Prop
  | nil : MarkSts [] []
  | cons {x : Str} {xs : List Str} {e : Expr} {sts : List Stmt} (p1 p2 p3 p4 : Pos) : MarkE x e → (p2.endLine == p3.line) = true → MarkSts xs sts → MarkSts (x :: xs) (.Expr (.Call (.Attribute (.Name "_law_found" p1) "append" p2) [e] [] p3) p4 :: sts)
section
variable {X : Cx} {D : Addr} {b : Str → Bool}
structure MarkX (X : Cx) (D : Addr) (b : Str → Bool) : Prop where
  exc : ExcC X.K D
  bi : X.mg "isinstance" = none
  gi : Gl X "isinstance"
  N0 : X.N[0]? = some ("_law_thing" : Str)
  N1 : X.N[1]? = some ("_law_found" : Str)
  v0 : Vis X.env.scope "_law_thing"
  v1 : Vis X.env.scope "_law_found"
  cls : ∀ x ∈ errNames, ∃ C, X.mg x = some (.ref C) ∧ Gl X x ∧ (x == ("__debug__" : Str)) = false ∧ PySem.W.kitOne X.K (.ref D) (.ref C) = some (b x)
/-- the thing in slot 0 is an error of the class at D -/
def ErrAt (D : Addr) (a dx : Addr) (fs : List (Str × V)) (H : Hp) : Prop := H a = some (exo a D (some dx)) ∧ H dx = some (exd dx fs)
theorem exo_lst {a C : Addr} {d : Option Addr} (xs : List V) : exo a C d ≠ .lst xs := fun z => by
  unfold exo at z
  cases z
theorem exd_lst {a : Addr} {fs : List (Str × V)} (xs : List V) : exd a fs ≠ .lst xs := fun z => by
  unfold exd at z
  cases z
theorem exo_tbl2 {a C : Addr} {d : Option Addr} (xs : Array Value) : exo a C d ≠ .tbl xs := fun z => by
  unfold exo at z
  cases z
theorem exd_tbl2 {a : Addr} {fs : List (Str × V)} (xs : Array Value) : exd a fs ≠ .tbl xs := fun z => by
  unfold exd at z
  cases z
theorem ErrAt.go {D a dx : Addr} {fs : List (Str × V)} {H H' : Hp} {M : List Addr} (h : ErrAt D a dx fs H) (g : Go M H H') (hM : Plain M H) : ErrAt D a dx fs H' := by
  obtain ⟨h1, h2⟩ := h
  refine ⟨g.old a _ (fun z => ?_) h1, g.old dx _ (fun z => ?_) h2⟩
  · rcases hM a z with ⟨ps, e⟩ | ⟨xs, e⟩
    · rw [h1] at e
      exact exo_tbl2 ps (Option.some.inj e)
    · rw [h1] at e
      exact exo_lst xs (Option.some.inj e)
  · rcases hM dx z with ⟨ps, e⟩ | ⟨xs, e⟩
    · rw [h2] at e
      exact exd_tbl2 ps (Option.some.inj e)
    · rw [h2] at e
      exact exd_lst xs (Option.some.inj e)
/-- isinstance(thing, x) -/
theorem pe_markE (W : MarkX X D b) {x : Str} {e : Expr} (hx : x ∈ errNames) (h : MarkE x e) : ∃ te, PE X e te ∧ ∀ (σ : L2.St) (H : Hp) (Q : VK) (a dx : Addr) (fs : List (Str × V)), σ[0]? = some (some (.ref a)) → ErrAt D a dx fs H → Q (.bl (b x)) H → te σ H Q := by
  obtain ⟨C, hm, hg, hd, hk⟩ := W.cls x hx
  cases h with
  | mk p1 p2 p3 p4 =>
    refine ⟨_, pe_callB call_isX W.gi W.bi (by decide +kernel) (pa_cons (pe_var (i := 0) (x := "_law_thing") W.N0 W.v0 (by decide) (by decide)) (pa_cons (pe_glob hg hm (show RelV (.ref C) (.ref C) from rfl) hd) pa_nil)), ?_⟩
    intro σ H Q a dx fs e1 ⟨e2, e3⟩ q
    exact ⟨_, e1, a, D, dx, fs, .ref C, .ref C, b x, rfl, W.exc, .own C, e2, e3, hk, q⟩
theorem marks_run (W : MarkX X D b) : ∀ {xs : List Str} {sts : List Stmt}, MarkSts xs sts → (∀ x ∈ xs, x ∈ errNames) → ∀ {rst : List Stmt} {trest : TS}, PSs X rst trest → ∃ t, PSs X (sts ++ rst) t ∧ ∀ (E : Ends) (σ : L2.St) (H : Hp) (a dx l : Addr) (fs : List (Str × V)) (acc : List V),
    σ[0]? = some (some (.ref a)) → σ[1]? = some (some (.ref l)) → ErrAt D a dx fs H → H l = some (.lst acc) → acc.length + xs.length ≤ 100 →
    (∀ (H' : Hp), Go [l] H H' → H' l = some (.lst (acc ++ xs.map fun x => V.bl (b x))) → trest E σ H') → t E σ H := by
  intro xs sts h
  induction h with
  | nil =>
    intro _ rst trest hr
    exact ⟨trest, hr, fun E σ H a dx l fs acc e1 e2 e3 e4 e5 k => k H (Go.refl _ _) (by simpa using e4)⟩
  | @cons x xs e sts p1 p2 p3 p4 hE hline hS ih =>
    intro hx rst trest hr
    obtain ⟨t, ht, kt⟩ := ih (fun y hy => hx y (List.mem_cons_of_mem _ hy)) hr
    obtain ⟨te, hp, hb⟩ := pe_markE W (hx x (List.mem_cons_self ..)) hE
    have hst : starEach [e] X.env = (false, eval e X.env) :: starEach [] X.env := by cases hE <;> rfl
    have hPS := ps_app (p4 := p4) (pe_var (pos := p1) (i := 1) (x := "_law_found") W.N1 W.v1 (by decide) (by decide)) hp hline (by cases hE <;> rfl) (by rfl) (by cases hE <;> rfl) hst
    refine ⟨_, pss_cons hPS ht, fun E σ H a dx l fs acc e1 e2 e3 e4 e5 k => ?_⟩
    refine ⟨l, acc, e2, e4, hb σ H _ a dx fs e1 e3 ?_⟩
    refine ⟨l, acc, _, rfl, rfl, e4, Nat.lt_of_le_of_lt (show acc.length ≤ 100 by omega) (by decide), ?_⟩
    have g : Go [l] H (upd H l (.lst (acc ++ [.bl (b x)]))) := Go.put e4 rfl (by simp)
    refine kt E σ _ a dx l fs _ e1 e2 (e3.go g fun y hy => by rw [List.mem_singleton.mp hy]; exact .inr ⟨_, e4⟩) upd_same (by simp at e5 ⊢; omega) fun H' g' h' => ?_
    exact k H' (g.trans g') (by simpa using h')
end
end Sd
/-! S75i: how data are laid beside a variable that holds some; how long they show -/
namespace Sd
open PySem PySem.Spec PyProof.Rows L2 LamX

mutual
theorem Rp.wide {M N : List Addr} {H : Hp} (g : ∀ a ∈ N, a ∈ M ∨ H a = none) : ∀ (d : PyData) (v : V), Rp M H d v → Rp N H d v
  | .none, _, h => h
  | .bool b, _, h => h
  | .int i, _, h => h
  | .str s, _, h => h
  | .tuple ds, v, h => by
    simp only [Rp] at h ⊢
    obtain ⟨a, xs, e, ha, hd⟩ := h
    exact ⟨a, xs, e, ha, RpA.wide g ds xs hd⟩
  | .list ds, v, h => by
    simp only [Rp] at h ⊢
    obtain ⟨a, xs, e, hm, hs, ha, hd⟩ := h
    exact ⟨a, xs, e, fun z => (g a z).elim hm (fun y => by rw [y] at ha; cases ha), hs, ha, RpA.wide g ds xs hd⟩
  | .dict kvs, v, h => by
    simp only [Rp] at h ⊢
    obtain ⟨a, ks, e, hm, ha, hd⟩ := h
    exact ⟨a, ks, e, fun z => (g a z).elim hm (fun y => by rw [y] at ha; cases ha), ha, RpK.wide g kvs ks hd⟩
theorem RpA.wide {M N : List Addr} {H : Hp} (g : ∀ a ∈ N, a ∈ M ∨ H a = none) : ∀ (ds : List PyData) (xs : List V), RpA M H ds xs → RpA N H ds xs
  | [], _, h => h
  | d :: ds, xs, h => by
    simp only [RpA] at h ⊢
    obtain ⟨v, vs, e, h1, h2⟩ := h
    exact ⟨v, vs, e, Rp.wide g d v h1, RpA.wide g ds vs h2⟩
theorem RpK.wide {M N : List Addr} {H : Hp} (g : ∀ a ∈ N, a ∈ M ∨ H a = none) : ∀ (ds : List (PyData × PyData)) (xs : List (Key × V)), RpK M H ds xs → RpK N H ds xs
  | [], _, h => h
  | (k, d) :: ds, xs, h => by
    simp only [RpK] at h ⊢
    obtain ⟨s, v, vs, e, ek, h1, h2⟩ := h
    exact ⟨s, v, vs, e, ek, Rp.wide g d v h1, RpK.wide g ds vs h2⟩
end
/-- an expression that lays data, from the heap H0 on, apart from the cells of M0 -/
def Gr (M0 : List Addr) (H0 : Hp) (σ : L2.St) (te : TE) (d : PyData) : Prop := ∀ (M : List Addr) (H : Hp) (Q : VK), (∀ a ∈ M, H a ≠ none ∧ (a ∈ M0 ∨ H0 a = none)) → Go [] H0 H → (∀ v H', Go [] H H' → Rp M H' d v → Q v H') → te σ H Q
def GrA (M0 : List Addr) (H0 : Hp) (σ : L2.St) (ta : TA) (ds : List PyData) : Prop := ∀ (M : List Addr) (H : Hp) (Q : List V → Hp → Prop), (∀ a ∈ M, H a ≠ none ∧ (a ∈ M0 ∨ H0 a = none)) → Go [] H0 H → (∀ vs H', Go [] H H' → RpA M H' ds vs → Q vs H') → ta σ H Q
section
variable {M0 : List Addr} {H0 : Hp} {σ : L2.St}
theorem nMr {M : List Addr} {H H' : Hp} (hM : ∀ a ∈ M, H a ≠ none ∧ (a ∈ M0 ∨ H0 a = none)) (g : Go [] H H') : ∀ a ∈ M, H' a ≠ none ∧ (a ∈ M0 ∨ H0 a = none) := fun a ha => ⟨fun e => (hM a ha).1 (g.free (by simp) e), (hM a ha).2⟩
theorem gr_c {v : V} {d : PyData} (h : ∀ M H, Rp M H d v) : Gr M0 H0 σ (tC v) d := fun M H Q _ _ q => q v H (Go.refl _ _) (h M H)
theorem gr_non : Gr M0 H0 σ (tC .non) .none := gr_c fun _ _ => by simp only [Rp]
theorem gr_bl {b : Bool} : Gr M0 H0 σ (tC (.bl b)) (.bool b) := gr_c fun _ _ => by simp only [Rp]
theorem gr_int {i : Int} : Gr M0 H0 σ (tC (.int i)) (.int i) := gr_c fun _ _ => by simp only [Rp]
theorem gr_str {s : Str} : Gr M0 H0 σ (tC (.str s)) (.str s) := gr_c fun _ _ => by simp only [Rp]
theorem gr_v {i : Nat} {v : V} {d : PyData} (e : σ[i]? = some (some v)) (h : Rp M0 H0 d v) : Gr M0 H0 σ (tVar i) d := fun M H Q hM g q =>
  ⟨v, e, q v H (Go.refl _ _) (Rp.go g.wide d v (Rp.wide (fun a ha => (hM a ha).2) d v h))⟩
theorem grA_nil : GrA M0 H0 σ tNil [] := fun M H Q _ _ q => q [] H (Go.refl _ _) (by simp only [RpA])
theorem grA_cons {te : TE} {ta : TA} {d : PyData} {ds : List PyData} (h : Gr M0 H0 σ te d) (h' : GrA M0 H0 σ ta ds) : GrA M0 H0 σ (tCons te ta) (d :: ds) := fun M H Q hM g q => by
  refine h M H _ hM g fun v H1 g1 r1 => h' M H1 _ (nMr hM g1) (g.trans g1) fun vs H2 g2 r2 => q _ _ (g1.trans g2) ?_
  simp only [RpA]
  exact ⟨v, vs, rfl, Rp.go g2.wide d v r1, r2⟩
theorem gr_tup {ta : TA} {ds : List PyData} (h : GrA M0 H0 σ ta ds) (hl : ds.length ≤ 1000) : Gr M0 H0 σ (tTup ta) (.tuple ds) := fun M H Q hM g q => by
  refine h M H _ hM g fun vs H1 g1 r1 => ⟨by rw [r1.len, sizeLine_eq]; omega, fun p hp => q _ _ (g1.trans (Go.new hp)) ?_⟩
  simp only [Rp]
  exact ⟨p, vs, rfl, upd_same, RpA.go (Go.new hp) ds vs r1⟩
theorem gr_lst {ta : TA} {ds : List PyData} (h : GrA M0 H0 σ ta ds) (hl : ds.length ≤ 1000) : Gr M0 H0 σ (tLstS ta) (.list ds) := fun M H Q hM g q => by
  refine h M H _ hM g fun vs H1 g1 r1 => ⟨by rw [r1.len, sizeLine_eq]; omega, fun p hp hs => q _ _ (g1.trans (Go.new hp)) ?_⟩
  simp only [Rp]
  exact ⟨p, vs, rfl, fun z => (nMr hM g1 p z).1 hp, hs, upd_same, RpA.go (Go.new hp) ds vs r1⟩
theorem gr_d0 : Gr M0 H0 σ tDNewK (.dict []) := fun M H Q hM g q p hp => by
  refine q _ _ (Go.new hp) ?_
  simp only [Rp]
  exact ⟨p, [], rfl, fun z => (hM p z).1 hp, upd_same, by simp only [RpK]⟩
theorem gr_d1 {te : TE} {k : Str} {d : PyData} (h : Gr M0 H0 σ te d) : Gr M0 H0 σ (tDisp [(tC (.str k), te)]) (.dict [(.str k, d)]) := fun M H Q hM g q p hp => by
  show tC (.str k) σ (upd H p (.dK [])) _
  refine h (p :: M) _ _ (fun a ha => ?_) (g.trans (Go.new hp)) fun v H2 g2 r2 => ?_
  · rcases List.mem_cons.mp ha with z | z
    · subst z
      rw [upd_same]
      exact ⟨by simp, .inr (g.free (by simp) hp)⟩
    · rw [upd_ne (fun e => (hM a z).1 (by rw [e]; exact hp))]
      exact hM a z
  · have hpd : H2 p = some (.dK []) := g2.old p _ (by simp) upd_same
    refine ⟨hpd, [(.inr k, v)], rfl, by simp, ?_⟩
    have g3 : Go [p] H2 (upd H2 p (.dK (mergeK [] [(.inr k, v)]))) := Go.put hpd rfl (List.Mem.head _)
    refine q _ _ ⟨fun b o hb e => ?_, fun b o hb e => ?_⟩ ?_
    · rw [upd_ne (ne_of_none e hp)]
      exact g2.old b o (by simp) (by rw [upd_ne (ne_of_none e hp)]; exact e)
    · rw [upd_ne (ne_of_none e hp)]
      exact g2.old b o (by simp) (by rw [upd_ne (ne_of_none e hp)]; exact e)
    · simp only [Rp]
      refine ⟨p, _, rfl, fun z => (hM p z).1 hp, upd_same, ?_⟩
      show RpK M _ [(.str k, d)] [(.inr k, v)]
      simp only [RpK]
      exact ⟨k, v, [], rfl, rfl, Rp.sub (fun a ha => List.mem_cons_of_mem _ ha) d v (Rp.go (g3.mono fun b hb => by simpa using Or.inl (List.mem_singleton.mp hb)) d v r2), rfl⟩
end
/-- data that show in not too many signs -/
structure Sz (n : Nat) (d : PyData) : Prop where
  sh : d.showable = true
  ln : d.shown.length ≤ 60 + 10 * n
  dp : d.depth ≤ 3 + n
def szB (d : PyData) : Bool := d.showable && (decide (d.shown.length ≤ 60) && decide (d.depth ≤ 3))
theorem sz_of {d : PyData} (h : szB d = true) : Sz 0 d := by
  unfold szB at h
  simp only [Bool.and_eq_true, decide_eq_true_eq] at h
  exact ⟨h.1, by simpa using h.2.1, by simpa using h.2.2⟩
theorem Sz.tup {n : Nat} {d : PyData} (h : Sz n d) : Sz (n + 1) (.tuple [d]) := by
  obtain ⟨h1, h2, h3⟩ := h
  refine ⟨by simp [PyData.showable, PyData.showableAll, h1], ?_, ?_⟩
  · simp only [PyData.shown, PyData.shownAll]
    show (("(" : Str) ++ d.shown ++ (",)" : Str)).length ≤ _
    rw [strLen_append, strLen_append]
    have e1 : ("(" : Str).length = 1 := rfl
    have e2 : (",)" : Str).length = 2 := rfl
    omega
  · simp only [PyData.depth, PyData.depthAll]
    omega
theorem Sz.lst {n : Nat} {d : PyData} (h : Sz n d) : Sz (n + 1) (.list [d]) := by
  obtain ⟨h1, h2, h3⟩ := h
  refine ⟨by simp [PyData.showable, PyData.showableAll, h1], ?_, ?_⟩
  · simp only [PyData.shown, PyData.shownAll]
    show (("[" : Str) ++ ("" : Str) ++ d.shown ++ ("]" : Str)).length ≤ _
    rw [strLen_append, strLen_append, strLen_append]
    have e1 : ("[" : Str).length = 1 := rfl
    have e2 : ("]" : Str).length = 1 := rfl
    have e3 : ("" : Str).length = 0 := rfl
    omega
  · simp only [PyData.depth, PyData.depthAll]
    omega
theorem Sz.dic {n : Nat} {d : PyData} (h : Sz n d) : Sz (n + 1) (.dict [(.str "a", d)]) := by
  obtain ⟨h1, h2, h3⟩ := h
  refine ⟨by simp [PyData.showable, PyData.showableKv, h1], ?_, ?_⟩
  · simp only [PyData.shown, PyData.shownKv]
    show (("{" : Str) ++ (reprText "a" ++ ": " ++ d.shown) ++ ("}" : Str)).length ≤ _
    rw [strLen_append, strLen_append, strLen_append, strLen_append]
    have e1 : ("{" : Str).length = 1 := rfl
    have e2 : ("}" : Str).length = 1 := rfl
    have e3 : (": " : Str).length = 2 := rfl
    have e4 : (reprText "a").length = 3 := by decide +kernel
    omega
  · simp only [PyData.depth, PyData.depthKv]
    omega
theorem Sz.two {n : Nat} {d : PyData} (h : Sz n d) : Sz (n + 1) (.tuple [d, .int 0]) := by
  obtain ⟨h1, h2, h3⟩ := h
  refine ⟨by simp [PyData.showable, PyData.showableAll, h1], ?_, ?_⟩
  · simp only [PyData.shown, PyData.shownAll]
    show (("(" : Str) ++ (d.shown ++ ", " ++ PyData.shown (.int 0)) ++ (")" : Str)).length ≤ _
    rw [strLen_append, strLen_append, strLen_append, strLen_append]
    have e1 : ("(" : Str).length = 1 := rfl
    have e2 : (")" : Str).length = 1 := rfl
    have e3 : (", " : Str).length = 2 := rfl
    have e4 : (PyData.shown (.int 0)).length = 1 := by decide +kernel
    omega
  · simp only [PyData.depth, PyData.depthAll]
    omega
end Sd
/-! S75j: the law's end, where nothing is shown around its call and tables of code objects stand -/
namespace Sd
open PySem PySem.Spec PyProof.Rows L2 LamX

/-- the script, locked -/
abbrev scrO (vs : List Value) : Obj := { cls := .type "list", data := .seq vs.toArray }
/-- what is tracked as the law begins: the tables, and the script where it is not written -/
def lawH (K : PySem.W.Frag) (ts : List Addr) (a : Addr) (vs : List Value) (ns : List Int) : Hp := fun b =>
  if b ∈ ts then some (.tbl #[]) else if b = a ∧ K.lookup a = none then some (.frz (scrO vs) (.lst (ns.map V.int))) else none
section
variable {K : PySem.W.Frag} {ts : List Addr} {a : Addr} {vs : List Value} {ns : List Int}
theorem lawH_some {b : Addr} {u : HO} (e : lawH K ts a vs ns b = some u) : (b ∈ ts ∧ u = .tbl #[]) ∨ (b ∉ ts ∧ b = a ∧ K.lookup a = none ∧ u = .frz (scrO vs) (.lst (ns.map V.int))) := by
  unfold lawH at e
  split at e
  · rename_i h
    exact .inl ⟨h, (Option.some.inj e).symm⟩
  · rename_i h
    split at e
    · rename_i h2
      exact .inr ⟨h, h2.1, h2.2, (Option.some.inj e).symm⟩
    · cases e
theorem lawH_tab {b : Addr} (h : b ∈ ts) : lawH K ts a vs ns b = some (.tbl #[]) := if_pos h
theorem lawH_none {b : Addr} (h1 : b ∉ ts) (h2 : b ≠ a) : lawH K ts a vs ns b = none := by
  unfold lawH
  rw [if_neg h1, if_neg fun z => h2 z.1]
end
theorem law_callGT {P : Program} {w : World} {K : PySem.W.Frag} {mg mb : Str → Option Value} {cx : CXT} {k : Nat} {fa a : Addr} {cs : List (Addr × Addr)} {fd : FuncData} {x : Str} {sp : Sp} {s : Shared} {vs : List Value} {ns : List Int}
    (KX : K.In s.heap) (hns : s.heap.Ns mainGlobals mg) (hmb : s.heap.Ns builtinsNs mb) (hboot : ∀ y : Str, y ≠ "__name__" → mb y = bootBuiltins y) (hlim : s.heap.NoLimit) (hgen : s.gens = #[])
    (hT : ∀ p ∈ cs, s.heap.get? p.2 = some (PySem.W.tabObj #[])) (nT : ∀ p ∈ cs, K.lookup p.2 = none) (hC : ∀ p ∈ cs, PySem.W.CodeHd s.heap p.1 p.2)
    (hbm : ∃ (bm : Addr) (ob : Obj), mg "__builtins__" = some (.ref bm) ∧ bm ≠ builtinsNs ∧ s.heap.get? bm = some ob ∧ ob.cls = .type "module" ∧ ob.dict = some builtinsNs ∧ ob.data = .plain)
    (ha : s.heap.get? a = some (scrO vs)) (hi : IntsAre vs ns) (hl : ns.length ≤ sizeLine) (hr : Room k callerA)
    (F : ∀ base : Heap, K.In base → base.Ns mainGlobals mg → (∀ p ∈ cs, TabB base mg p.1 p.2) → FnG P w K mg base cx k fa fd [x] sp) (hbind : ∀ (s : Shared) (u : Value), BindsTo s fd ⟨[u], []⟩ [(x, u)])
    (hsp : ∀ H : Hp, (∀ p ∈ cs, H p.2 = some (.tbl #[])) → SqL K H a (ns.map V.int) → sp [.ref a] H (fun v _ => v = .bl true) fun _ _ _ => False)
    (hcx : ∀ H e s', cx [] H s (fun _ _ _ => False) e s' → False) :
    codeAny (model P w) callerA (.call (.ref fa) ⟨[.ref a], []⟩) (fun r s' => r = .ok (.ret (.bool true)) ∧ OldK s.heap s'.heap ∧ s'.os = s.os ∧ AllBare s'.gens) s := by
  have rv := vals_ints hi
  -- the tables
  have tabAt : ∀ b ∈ cs.map (·.2), s.heap.get? b = some (PySem.W.tabObj #[]) ∧ K.lookup b = none := by
    intro b hb
    obtain ⟨p, hp, rfl⟩ := List.mem_map.mp hb
    exact ⟨hT p hp, nT p hp⟩
  have aNot : a ∉ cs.map (·.2) := by
    intro z
    have e := (tabAt a z).1
    rw [ha] at e
    cases e
  generalize hH : lawH K (cs.map (·.2)) a vs ns = H
  have some_ : ∀ {b : Addr} {u : HO}, H b = some u → (b ∈ cs.map (·.2) ∧ u = .tbl #[]) ∨ (b ∉ cs.map (·.2) ∧ b = a ∧ K.lookup a = none ∧ u = .frz (scrO vs) (.lst (ns.map V.int))) := by
    subst hH
    exact lawH_some
  have tabs : ∀ p ∈ cs, H p.2 = some (.tbl #[]) := by
    subst hH
    exact fun p hp => lawH_tab (List.mem_map.mpr ⟨p, hp, rfl⟩)
  have hok : HOk P w H s.heap := by
    intro b u e
    rcases some_ e with ⟨h1, rfl⟩ | ⟨_, rfl, _, rfl⟩
    · exact (tabAt b h1).1
    · exact ⟨ha, by rw [List.length_map]; exact hl, vs, _, rv, ha⟩
  have seq : SqL K H a (ns.map V.int) := by
    cases hk : K.lookup a with
    | none =>
      refine .inl (.inr ⟨scrO vs, ?_⟩)
      subst hH
      unfold lawH
      rw [if_neg aNot, if_pos ⟨rfl, hk⟩]
    | some o =>
      have e := KX a o hk
      rw [ha] at e
      cases e
      exact .inr ⟨_, vs.toArray, _, hk, rfl, rfl, rfl, by rw [List.size_toArray, hi.length]; exact hl, by simpa using rv⟩
  -- what is not tracked is seen in the base
  have notTracked : ∀ {b : Addr} {o : Obj}, s.heap.get? b = some o → o ≠ PySem.W.tabObj #[] → (b = a → K.lookup a ≠ none) → H b = none := by
    intro b o e n1 n2
    cases q : H b with
    | none => rfl
    | some u =>
      rcases some_ q with ⟨h1, _⟩ | ⟨_, h2, h3, _⟩
      · rw [(tabAt b h1).1] at e
        exact absurd (Option.some.inj e).symm n1
      · exact absurd h3 (n2 h2)
  have base : ∀ {b : Addr} {o : Obj}, s.heap.get? b = some o → o ≠ PySem.W.tabObj #[] → o ≠ scrO vs → (hidT s.heap H).get? b = some o := by
    intro b o e n1 n2
    refine hidT_get e (notTracked e n1 fun z => ?_)
    rw [z, ha] at e
    exact absurd (Option.some.inj e).symm n2
  have nsB : ∀ {b : Addr} {m : Str → Option Value}, s.heap.Ns b m → (hidT s.heap H).Ns b m := by
    rintro b m ⟨o, es, ep, e, d, r⟩
    refine ⟨o, es, ep, base e (fun z => ?_) (fun z => ?_), d, r⟩ <;> (rw [z] at d; cases d)
  have kB : K.In (hidT s.heap H) := by
    intro b o e
    refine hidT_get (KX b o e) ?_
    cases q : H b with
    | none => rfl
    | some u =>
      rcases some_ q with ⟨h1, _⟩ | ⟨_, h2, h3, _⟩
      · rw [(tabAt b h1).2] at e
        cases e
      · rw [h2, h3] at e
        cases e
  have M : L2.Mod K mg (hidT s.heap H) := by
    obtain ⟨mc, z1, z2⟩ := hlim
    exact ⟨kB, nsB hns, ⟨mb, nsB hmb, hboot⟩, ⟨mc, nsB z1, z2⟩⟩
  have gAt := hns
  obtain ⟨og, eg, pg, hg1, hg2, _⟩ := gAt
  have TB : ∀ p ∈ cs, TabB (hidT s.heap H) mg p.1 p.2 := by
    intro p hp
    refine ⟨?_, ?_, fun z => ?_⟩
    · obtain ⟨o, us, fl, tf, fg, tg, inF, tx, tt, z1, z2, z3, z⟩ := hC p hp
      refine ⟨o, us, fl, tf, fg, tg, inF, tx, tt, base z1 (fun y => ?_) (fun y => ?_), z2, z3, z⟩
      · rw [y] at z2
        cases z2
      · rw [y] at z3
        cases z3
    · obtain ⟨bm, ob, b1, b2, b3, b4, b5, b6⟩ := hbm
      refine ⟨bm, ob, b1, b2, fun y => ?_, fun y => ?_, base b3 (fun y => ?_) (fun y => ?_), b4, b5, b6⟩
      · rw [y, hg1] at b3
        cases b3
        rw [hg2] at b6
        cases b6
      · rw [y, hT p hp] at b3
        cases b3
        cases b6
      · rw [y] at b6
        cases b6
      · rw [y] at b6
        cases b6
    · rw [z, hT p hp] at hg1
      cases hg1
      cases hg2
  have e0 : Env0 P w K mg (hidT s.heap H) callerA [] s H := ⟨rfl, M, fun b o e => of_hidT e, Nat.le_of_eq (hidT_size _ _), True.intro, (fun b z => nomatch (show b ∈ ([] : List Addr) from z)), hok, .of_eq hgen⟩
  refine codeAny_mono ((F _ kB (nsB hns) TB).go callerA [] s H ⟨[.ref a], []⟩ [.ref a] [.ref a] _ _ rfl hr e0 (hbind s (.ref a)) (.cons rfl .nil) (hsp H tabs seq)) ?_
  intro r s' h
  match r, h with
  | .error e, h => exact (hcx H e s' h).elim
  | .ok .next, h => exact h.elim
  | .ok .brk, h => exact h.elim
  | .ok .cont, h => exact h.elim
  | .ok (.ret u), ⟨v, H', os, bare, un, hok', r', q⟩ =>
    obtain rfl : v = .bl true := q
    obtain rfl : u = Value.bool true := r'
    -- the tables have grown, all else is as it was
    have grown : ∀ b ∈ cs.map (·.2), ∃ more : Array Value, s'.heap.get? b = some (PySem.W.tabObj more) := by
      intro b hb
      obtain ⟨p, hp, rfl⟩ := List.mem_map.mp hb
      obtain ⟨more, z⟩ := un.tbls p.2 #[] (tabs p hp)
      exact ⟨_, hok' p.2 _ z⟩
    have kept : ∀ b o, b ∉ cs.map (·.2) → s.heap.get? b = some o → s'.heap.get? b = some o := by
      intro b o nb e
      cases q : H b with
      | none => exact un.keep b o e q (fun z => nomatch (show b ∈ ([] : List Addr) from z)) (fun z => nomatch z)
      | some u =>
        rcases some_ q with ⟨h1, _⟩ | ⟨_, h2, h3, rfl⟩
        · exact absurd h1 nb
        · obtain ⟨y, _⟩ := hok' b _ (un.frzs b _ _ q)
          rw [h2, ha] at e
          cases e
          exact y
    refine ⟨rfl, ⟨fun b o e => ?_, fun b o e => ?_⟩, os, bare⟩
    · by_cases hb : b ∈ cs.map (·.2)
      · obtain ⟨p, hp, hpb⟩ := List.mem_map.mp hb
        obtain ⟨more, hm⟩ := grown b hb
        rw [(tabAt b hb).1] at e
        cases e
        refine .inr (.inl ⟨?_, rfl, #[], more, rfl, by rw [Array.empty_append]; exact hm⟩)
        rw [← hpb]
        exact ((hC p hp).tab (hT p hp)).isCodeTable
      · exact .inl (kept b o hb e)
    · by_cases hb : b ∈ cs.map (·.2)
      · obtain ⟨more, hm⟩ := grown b hb
        exact ⟨_, hm⟩
      · exact ⟨o, kept b o hb e⟩
end Sd
namespace Sd
open PySem PySem.Spec PyProof.Rows L2
def topS (i : Nat) : Stmt := PySem.Challenge.pw_seldomseen_k75_errors_with_any_value.main.body.getD i (.Pass ⟨0, 0, 0, 0⟩)

structure Bi (c : Wd) : Prop where
  len : c.mg "len" = none
  isinstance : c.mg "isinstance" = none
  all : c.mg "all" = none
  sum : c.mg "sum" = none
  list : c.mg "list" = none
  tuple : c.mg "tuple" = none
  int : c.mg "int" = none
  bool : c.mg "bool" = none
  str : c.mg "str" = none
  abs : c.mg "abs" = none
  min : c.mg "min" = none
  max : c.mg "max" = none
  sorted : c.mg "sorted" = none
  repr : c.mg "repr" = none
  set : c.mg "set" = none
  range : c.mg "range" = none
  zip : c.mg "zip" = none
  enumerate : c.mg "enumerate" = none
  reversed : c.mg "reversed" = none

/-- the drawn numbers' pot: three ints, the last one counts -/
def Pot (H : Hp) (p : Addr) (n : Nat) : Prop := ∃ (a b : Int) (k : Nat), H p = some (.lst [.int a, .int b, .int (k : Int)]) ∧ 0 ≤ b ∧ b < 2305843009213693921 ∧ k ≤ n
def spTake : Sp := fun vs H Q _ => ∃ (p : Addr) (n u : Nat), vs = [.ref p, .int (u : Int)] ∧ Pot H p n ∧ n ≤ 2 ^ 30 ∧ 0 < u ∧ u < 2 ^ 29 ∧
  ∀ (r : Nat) (H' : Hp), r < u → Go [p] H H' → Pot H' p (n + 1) → Q (.int (r : Int)) H'
theorem modNat (a : Int) {u : Nat} (h : 0 < u) : ∃ r : Nat, r < u ∧ a % (u : Int) = (r : Int) := by
  have h1 := Int.emod_nonneg a (show (u : Int) ≠ 0 by omega)
  have h2 := Int.emod_lt_of_pos a (show (0 : Int) < u by omega)
  exact ⟨(a % (u : Int)).toNat, by omega, by omega⟩
theorem prime5 (k : Nat) : ∃ (j : Nat) (pr : Int), j < 5 ∧ ((k : Nat) : Int) % 5 = (j : Int) ∧ [V.int 2147483647, V.int 2147483629, V.int 2147483587, V.int 2147483579, V.int 2147483563][j]? = some (.int pr) ∧ 0 < pr ∧ pr < 2 ^ 31 := by
  have h : k % 5 < 5 := Nat.mod_lt _ (by decide)
  refine ⟨k % 5, ?_⟩
  have e : ((k : Nat) : Int) % 5 = ((k % 5 : Nat) : Int) := by omega
  rcases (by omega : k % 5 = 0 ∨ k % 5 = 1 ∨ k % 5 = 2 ∨ k % 5 = 3 ∨ k % 5 = 4) with z | z | z | z | z <;> rw [z] at e ⊢
  · exact ⟨2147483647, by decide, e, rfl, by decide, by decide⟩
  · exact ⟨2147483629, by decide, e, rfl, by decide, by decide⟩
  · exact ⟨2147483587, by decide, e, rfl, by decide, by decide⟩
  · exact ⟨2147483579, by decide, e, rfl, by decide, by decide⟩
  · exact ⟨2147483563, by decide, e, rfl, by decide, by decide⟩
theorem powW {i j : Int} {n : Nat} (h0 : 0 < n) (h : i.natAbs < 2 ^ n) (hj : 0 ≤ j) (hm : ((n : Nat) : Int) * j ≤ 2 ^ 27) : CPowW i j := by
  refine ⟨hj, Int.le_trans (Int.mul_le_mul_of_nonneg_right ?_ hj) hm⟩
  have := PySem.Flt.log2_lt_of h0 h
  unfold Builtin.Int.intBits
  split <;> omega
section
variable {c : Wd}
abbrev s__law_take : Stmt := topS 34
abbrev N__law_take : List Str := ["_law_pot", "_law_upto", "_law_prime", "_law_mixed", "_law_digit"]
abbrev P__law_take : List Str := ["_law_pot", "_law_upto"]
theorem sc__law_take : FnScope N__law_take P__law_take (defScope s__law_take) := ⟨rfl, rfl, rfl, by decide +kernel, rfl, by decide +kernel, by decide +kernel⟩
theorem ok_take (F : At c "_law_take" "_law_take" s__law_take P__law_take) (B : Bi c) : Ok c "_law_take" 1 P__law_take spTake := by
  refine Ok.of F sc__law_take (fun vs H Q E h => ?_) (fun f cdv A out s H vs Q E hr h => ?_)
  · obtain ⟨p, n, u, rfl, _⟩ := h
    rfl
  · obtain ⟨p, n, u, rfl, ⟨a, b, k, hp, hb0, hb1, hk⟩, hn, hu0, huu, q⟩ := h
    have hu1 := hu_of hr
    refine ⟨_, (pss_cons (ps_if (pt_cmpR op_gtU (pe_ixU (K := c.K) hu1 (pv 0) pe_int (fun _ _ => rfl) (fun _ _ => rfl)) pe_int (nomark _)) (pss_cons (ps_set (i := 4) sc__law_take.nd rfl (by first | exact Or.inl rfl | exact Or.inr rfl) (pe_op op_modU (pe_callTy call_intU (by rfl) B.int (by decide +kernel) (pa_cons (pe_ixU (K := c.K) hu1 (pv 0) pe_int (fun _ _ => rfl) (fun _ _ => rfl)) pa_nil)) (pv 1)))
    (pss_cons (ps_asg (pe_op op_fdU (pe_ixU (K := c.K) hu1 (pv 0) pe_int (fun _ _ => rfl) (fun _ _ => rfl)) (pv 1)) (pg_sub (pv 0) pe_int set_list))
    (pss_one (ps_ret (pv 4))))) pss_nil)
    (pss_cons (ps_asg (pe_op (op_addU (K := c.K)) (pe_ixU (K := c.K) hu1 (pv 0) pe_int (fun _ _ => rfl) (fun _ _ => rfl)) pe_int) (pg_sub (pv 0) pe_int set_list))
    (pss_cons (ps_set (i := 2) sc__law_take.nd rfl (by first | exact Or.inl rfl | exact Or.inr rfl) (pe_ixU (K := c.K) hu1 (pe_lst (pa_cons pe_int (pa_cons pe_int (pa_cons pe_int (pa_cons pe_int (pa_cons pe_int pa_nil)))))) (pe_op op_modU (pe_callTy call_intU (by rfl) B.int (by decide +kernel) (pa_cons (pe_ixU (K := c.K) hu1 (pv 0) pe_int (fun _ _ => rfl) (fun _ _ => rfl)) pa_nil)) pe_int) (fun _ _ => rfl) (fun _ _ => rfl)))
    (pss_cons (ps_set (i := 3) sc__law_take.nd rfl (by first | exact Or.inl rfl | exact Or.inr rfl) (pe_op op_modU (pe_op op_powU (pe_callTy call_intU (by rfl) B.int (by decide +kernel) (pa_cons (pe_op (op_addU (K := c.K)) (pe_op (op_addU (K := c.K)) (pe_ixU (K := c.K) hu1 (pv 0) pe_int (fun _ _ => rfl) (fun _ _ => rfl)) (pe_op op_mulU (pe_op op_mulU pe_int (pe_ixU (K := c.K) hu1 (pv 0) pe_int (fun _ _ => rfl) (fun _ _ => rfl))) (pe_ixU (K := c.K) hu1 (pv 0) pe_int (fun _ _ => rfl) (fun _ _ => rfl)))) pe_int) pa_nil)) pe_int) (pv 2)))
    (pss_one (ps_ret (pe_op op_modU (pe_op op_fdU (pe_op op_modU (pe_callTy call_intU (by rfl) B.int (by decide +kernel) (pa_cons (pe_op op_mulU (pv 3) (pe_op (op_addU (K := c.K)) (pe_op op_modU (pe_callTy call_intU (by rfl) B.int (by decide +kernel) (pa_cons (pv 3) pa_nil)) pe_int) (pe_op op_mulU pe_int (pe_ixU (K := c.K) hu1 (pv 0) pe_int (fun _ _ => rfl) (fun _ _ => rfl))))) pa_nil)) pe_int) pe_int) (pv 1)))))))), ?_⟩
    refine .inl ⟨_, rfl, ixL (i := 0) hp rfl (r_gtI ⟨_, rfl, ite2 (fun hc => ?_) (fun hc => ?_)⟩)⟩
    · refine .inl ⟨_, rfl, ixL (i := 0) hp rfl (.inl ⟨_, rfl, ⟨_, rfl, r_mod (by omega) fun r r0 r1 _ => ?_⟩⟩)⟩
      refine .inl ⟨_, rfl, ixL (i := 0) hp rfl ⟨_, rfl, r_fdiv (by omega) (by omega) fun a' _ => ⟨_, rfl, ?_⟩⟩⟩
      refine ⟨p, _, 0, 0, rfl, rfl, hp, rfl, ⟨_, rfl, ?_⟩⟩
      obtain ⟨r', rfl⟩ := Int.eq_ofNat_of_zero_le r0
      exact q r' _ (by omega) (Go.put hp rfl (List.Mem.head _)) ⟨_, b, k, upd_same, hb0, hb1, by omega⟩
    · refine .inl ⟨_, rfl, ixL (i := 2) hp rfl (r_addI ⟨_, rfl, ?_⟩)⟩
      refine ⟨p, _, 2, 2, rfl, rfl, hp, rfl, ?_⟩
      have hp2 : (upd H p (.lst [.int a, .int b, .int ((k + 1 : Nat) : Int)])) p = some (.lst [.int a, .int b, .int ((k + 1 : Nat) : Int)]) := upd_same
      show tSeq _ _ _ _ (upd H p (.lst [.int a, .int b, .int ((k + 1 : Nat) : Int)]))
      generalize hH : upd H p (.lst [.int a, .int b, .int ((k + 1 : Nat) : Int)]) = H2 at hp2 ⊢
      refine .inl ⟨by decide, fun z hz => ?_⟩
      have hzp : z ≠ p := fun e => by subst e; rw [hp2] at hz; cases hz
      have hp3 : ∀ o, (upd H2 z o) p = some (.lst [.int a, .int b, .int ((k + 1 : Nat) : Int)]) := fun o => by rw [upd_ne hzp.symm]; exact hp2
      refine .inl ⟨_, rfl, ixL (i := 2) (hp3 _) rfl (.inl ⟨_, rfl, r_mod (by decide) fun m00 _ _ e00 => ?_⟩)⟩
      obtain ⟨j, pr, hj, e5, hpr, h0, h1⟩ := prime5 (k + 1)
      obtain rfl := e00.trans e5
      refine ixL (i := j) upd_same hpr ?_
      have g0 : Go [p] H H2 := by rw [← hH]; exact Go.put hp rfl (List.Mem.head _)
      have g : Go [p] H (upd H2 z (.lst [.int 2147483647, .int 2147483629, .int 2147483587, .int 2147483579, .int 2147483563])) := g0.trans (Go.new hz)
      have hp4 := hp3 (.lst [.int 2147483647, .int 2147483629, .int 2147483587, .int 2147483579, .int 2147483563])
      generalize upd H2 z _ = H3 at g hp4 ⊢
      have hK : ((k + 1 : Nat) : Int).natAbs < 2 ^ 31 := by omega
      have m1 : CMulW 60017 ((k + 1 : Nat) : Int) := wide_mul (a := 16) (b := 31) (by decide) hK (by decide) (by decide) (by decide)
      have l1 : (60017 * ((k + 1 : Nat) : Int)).natAbs < 2 ^ 47 := wide_lt (a := 16) (b := 31) (by decide) hK
      have m2 : CMulW (60017 * ((k + 1 : Nat) : Int)) ((k + 1 : Nat) : Int) := wide_mul l1 hK (by decide) (by decide) (by decide)
      have l2 : (60017 * ((k + 1 : Nat) : Int) * ((k + 1 : Nat) : Int)).natAbs < 2 ^ 78 := wide_lt l1 hK
      have l3 : CPowW (b + 60017 * ((k + 1 : Nat) : Int) * ((k + 1 : Nat) : Int) + 43) 3 := powW (n := 80) (by decide) (by omega) (by decide) (by decide)
      refine .inl ⟨_, rfl, ixL (i := 1) hp4 rfl ?_⟩
      refine .inl ⟨_, rfl, ixL (i := 2) hp4 rfl (r_mulI m1 ?_)⟩
      refine .inl ⟨_, rfl, ixL (i := 2) hp4 rfl (r_mulI m2 (r_addI (r_addI (.inl ⟨_, rfl, ?_⟩))))⟩
      refine r_pow l3 fun m0 _ => ⟨_, rfl, r_mod h0 fun m n0 n1 _ => ?_⟩
      have m3 : CMulW 89 ((k + 1 : Nat) : Int) := wide_mul (a := 16) (b := 31) (by decide) hK (by decide) (by decide) (by decide)
      refine ⟨_, rfl, _, rfl, .inl ⟨_, rfl, r_mod (by decide) fun m' n2 n3 _ => ?_⟩⟩
      have m4 : CMulW m (m' + 89 * ((k + 1 : Nat) : Int)) := wide_mul (a := 31) (b := 40) (by omega) (by omega) (by decide) (by decide) (by decide)
      refine .inl ⟨_, rfl, ixL (i := 2) hp4 rfl (r_mulI m3 (r_addI (r_mulI m4 (.inl ⟨_, rfl, ?_⟩))))⟩
      refine r_mod (by decide) fun m5 _ _ _ => r_fdiv (by decide) (by decide) fun m6 _ => ⟨_, rfl, r_mod (by omega) fun r r0 r1 _ => ?_⟩
      obtain ⟨r', rfl⟩ := Int.eq_ofNat_of_zero_le r0
      exact q r' _ (by omega) g ⟨a, b, k + 1, hp4, hb0, hb1, by omega⟩
end
end Sd
namespace Sd
open PySem PySem.Spec PyProof.Rows L2 LamX

/-- some[take(pot, len(some))] -/
def spOf (c : Wd) : Sp := fun vs H Q _ => ∃ (p l : Addr) (n : Nat) (xs : List V), vs = [.ref p, .ref l] ∧ Pot H p n ∧ n ≤ 2 ^ 30 ∧ xs ≠ [] ∧ xs.length < 2 ^ 29 ∧
  ((l ≠ p ∧ H l = some (.lst xs)) ∨ SqT c.K H l xs) ∧ ∀ (r : Nat) (v : V) (H' : Hp), xs[r]? = some v → Go [p] H H' → Pot H' p (n + 1) → Q v H'
section
variable {c : Wd}
abbrev s__law_of : Stmt := topS 35
abbrev N__law_of : List Str := ["_law_pot", "_law_some"]
abbrev P__law_of : List Str := ["_law_pot", "_law_some"]
theorem sc__law_of : FnScope N__law_of P__law_of (defScope s__law_of) := ⟨rfl, rfl, rfl, by decide +kernel, rfl, by decide +kernel, by decide +kernel⟩
theorem ok_of (F : At c "_law_of" "_law_of" s__law_of P__law_of) (B : Bi c) (D__law_take : Ok c "_law_take" 1 P__law_take spTake) : Ok c "_law_of" 2 P__law_of (spOf c) := by
  refine Ok.of F sc__law_of (fun vs H Q E h => ?_) (fun f cdv A out s H vs Q E hr h => ?_)
  · obtain ⟨p, l, n, xs, rfl, _⟩ := h
    rfl
  · obtain ⟨p, l, n, xs, rfl, hp, hn, h0, hz, hl, q⟩ := h
    have hu1 := hu_of hr
    refine ⟨_, (pss_one (ps_ret (pe_ixU (K := c.K) hu1 (pv 1) (pe_f D__law_take (hr.mono (by decide)) (by rfl) (pa_cons (pv 0) (pa_cons (pe_callB (call_lenU (K := c.K)) (by rfl) B.len (by decide +kernel) (pa_cons (pv 1) pa_nil)) pa_nil))) (fun _ _ => rfl) (fun _ _ => rfl)))), ?_⟩
    have hpos : 0 < xs.length := by cases xs with | nil => exact absurd rfl h0 | cons => simp
    have fin : ∀ (r : Nat) (H' : Hp), r < xs.length → Go [p] H H' → Pot H' p (n + 1) → rIx c.K (.ref l) (.int (r : Int)) H' Q := by
      intro r H' hr g hp'
      have hx : xs[r]? = some xs[r] := List.getElem?_eq_getElem hr
      rcases hl with ⟨hne, hl⟩ | hl
      · exact ixL (g.old l _ (by simpa using hne) hl) hx (q r _ _ hx g hp')
      · exact ixT (g.sqT hl) hx (q r _ _ hx g hp')
    rcases hl with ⟨hne, hl⟩ | hl
    · exact .inl ⟨_, rfl, _, rfl, _, rfl, r_nil (r_lenL (SqL.of hl) ⟨p, n, xs.length, rfl, hp, hn, hpos, hz, fin⟩)⟩
    · exact .inl ⟨_, rfl, _, rfl, _, rfl, r_nil (r_lenT hl ⟨p, n, xs.length, rfl, hp, hn, hpos, hz, fin⟩)⟩

end


theorem Pot.up {H : Hp} {p : Addr} {n m : Nat} (h : Pot H p n) (l : n ≤ m) : Pot H p m := by
  obtain ⟨a, b, k, h1, h2, h3, h4⟩ := h
  exact ⟨a, b, k, h1, h2, h3, by omega⟩
theorem Pot.go {H H' : Hp} {p : Addr} {n : Nat} (h : Pot H p n) (g : Go [] H H') : Pot H' p n := by
  obtain ⟨a, b, k, h1, h2⟩ := h
  exact ⟨a, b, k, g.old p _ (by simp) h1, h2⟩
/-- a new pot, for a small number -/
def spPotOf (c : Wd) : Sp := fun vs H Q _ => ∃ (a : Addr) (ns : List Int) (k : Nat), vs = [.ref a, .int (k : Int)] ∧ SqL c.K H a (ns.map V.int) ∧ ns.length ≤ 63 ∧ (∀ z ∈ ns, Builtin.Int.intBits z ≤ 1048576) ∧ k ≤ 3 ∧
  ∀ (p : Addr) (H' : Hp), H p = none → Go [] H H' → Pot H' p 0 → Q (.ref p) H'
section
variable {c : Wd}
abbrev s__law_pot_of : Stmt := topS 33
abbrev N__law_pot_of : List Str := ["_law_script", "_law_k", "_law_cell", "_law_own"]
abbrev P__law_pot_of : List Str := ["_law_script", "_law_k"]
theorem sc__law_pot_of : FnScope N__law_pot_of P__law_pot_of (defScope s__law_pot_of) := ⟨rfl, rfl, rfl, by decide +kernel, rfl, by decide +kernel, by decide +kernel⟩
theorem ok_pot_of (F : At c "_law_pot_of" "_law_pot_of" s__law_pot_of P__law_pot_of) (B : Bi c) : Ok c "_law_pot_of" 1 P__law_pot_of (spPotOf c) := by
  refine Ok.of F sc__law_pot_of (fun vs H Q E h => ?_) (fun f cdv A out s H vs Q E hr h => ?_)
  · obtain ⟨a, ns, k, rfl, _⟩ := h
    rfl
  · obtain ⟨a, ns, k, rfl, hS, hl, hbits, hk, q⟩ := h
    have hu1 := hu_of hr
    have hu := hr.units
    refine ⟨_, (pss_cons (ps_set (i := 2) sc__law_pot_of.nd rfl (by first | exact Or.inl rfl | exact Or.inr rfl) (pe_ifExp (pt_cmpR op_ltU (pv 1) (pe_callB (call_lenU (K := c.K)) (by rfl) B.len (by decide +kernel) (pa_cons (pv 0) pa_nil)) (nomark _)) (pe_ixU (K := c.K) hu1 (pv 0) (pv 1) (fun _ _ => rfl) (fun _ _ => rfl)) (pe_op (op_addU (K := c.K)) (pe_op op_mulU pe_int (pv 1)) pe_int)))
    (pss_cons (ps_set (i := 3) sc__law_pot_of.nd rfl (by first | exact Or.inl rfl | exact Or.inr rfl) (pe_op op_mulU (pe_op op_modU (pe_callTy call_intU (by rfl) B.int (by decide +kernel) (pa_cons (pe_callB call_absU (by rfl) B.abs (by decide +kernel) (pa_cons (pv 2) pa_nil)) pa_nil)) (pe_op op_powU (pe_op op_powU pe_int pe_int) pe_int)) (pe_callTy call_intU (by rfl) B.int (by decide +kernel) (pa_cons (pe_cmpR op_ge (pe_callB call_absU (by rfl) B.abs (by decide +kernel) (pa_cons (pv 2) pa_nil)) (pe_op op_powU pe_int pe_int) (nomark _)) pa_nil))))
    (pss_one (ps_ret (pe_lst (pa_cons (pv 3) (pa_cons (pe_op op_modU (pe_op (op_addU (K := c.K)) (pe_op (op_addU (K := c.K)) (pe_op op_mulU (pe_op op_modU (pe_callTy call_intU (by rfl) B.int (by decide +kernel) (pa_cons (pv 2) pa_nil)) pe_int) pe_int) (pe_op op_mulU (pe_op op_mulU pe_int (pv 1)) (pv 1))) pe_int) pe_int) (pa_cons pe_int pa_nil)))))))), ?_⟩
    have hK : ((k : Nat) : Int).natAbs < 2 ^ 31 := by omega
    refine ⟨_, rfl, _, rfl, r_nil (r_lenL hS (r_ltI ⟨_, rfl, ?_⟩))⟩
    have hp1 : (((10 : Int) ^ (60 : Int).toNat) ^ (5 : Int).toNat) ≤ 2 ^ 1000 := by decide +kernel
    have hp0 : 0 < (((10 : Int) ^ (60 : Int).toNat) ^ (5 : Int).toNat) := by decide +kernel
    have c1 : CPowW 10 60 := ⟨by decide, by decide +kernel⟩
    have c2 : CPowW ((10 : Int) ^ (60 : Int).toNat) 5 := ⟨by decide, by decide +kernel⟩
    have c3 : CPowW 10 18 := ⟨by decide, by decide +kernel⟩
    refine ite2 (fun h1 => ?_) (fun h1 => ?_)
    · have hk2 : k < ns.length := by
        simpa using h1
      have hz : (ns.map V.int)[k]? = some (.int ns[k]) := by
        rw [List.getElem?_map, List.getElem?_eq_getElem hk2]
        rfl
      refine .inl ⟨_, rfl, _, rfl, .inl ⟨a, _, _, _, rfl, rfl, hS, atI_nat hz, ?_⟩⟩
      generalize ns[k] = z
      refine ⟨_, rfl, z, rfl, ?_⟩
      generalize (if z < 0 then -z else z) = z1
      refine r_nil (.inl ⟨z1, rfl, ?_⟩)
      dsimp only [tOp, tC]
      refine r_pow c1 fun m1 e1 => ?_
      subst e1
      refine r_pow c2 fun m2 e2 => ?_
      subst e2
      refine r_mod hp0 fun m m0 ml _ => ?_
      refine ⟨_, rfl, z, rfl, ?_⟩
      generalize (if z < 0 then -z else z) = z2
      dsimp only [tOp, tC]
      refine r_pow c3 fun m3 e3 => ⟨z2, m3, rfl, rfl, r_nil (.inr ⟨_, rfl, ?_⟩)⟩
      generalize decide (m3 ≤ z2) = bb
      have hm : m.natAbs < 2 ^ 1000 := by
        have : m < 2 ^ 1000 := Int.lt_of_lt_of_le ml hp1
        have h2 : (m.natAbs : Int) < ((2 ^ 1000 : Nat) : Int) := by
          rw [Int.natAbs_of_nonneg m0]
          exact_mod_cast this
        exact_mod_cast h2
      have hb : (if bb = true then (1 : Int) else 0).natAbs < 2 ^ 1 := by cases bb <;> decide
      refine r_mulI (wide_mul (a := 1000) (b := 1) hm hb (by decide) (by decide) (by decide)) ?_
      generalize m * (if bb = true then (1 : Int) else 0) = own
      refine ⟨_, rfl, _, rfl, .inl ⟨z, rfl, r_mod (by decide) fun n1 n1a n1b _ => ?_⟩⟩
      have hn1 : n1.natAbs < 2 ^ 62 := by omega
      refine r_mulI (wide_mul (j := 70913) (a := 62) (b := 20) hn1 (by decide) (by decide) (by decide) (by decide)) ?_
      refine ⟨_, rfl, r_mulI (wide_mul (i := 7013) (a := 16) (b := 31) (by decide) hK (by decide) (by decide) (by decide)) ?_⟩
      refine ⟨_, rfl, r_mulI (wide_mul (a := 47) (b := 31) (wide_lt (a := 16) (b := 31) (by decide) hK) hK (by decide) (by decide) (by decide)) ?_⟩
      refine r_addI (r_addI (r_mod (by decide) fun n2 n2a n2b _ => ?_))
      refine r_c (r_nil ⟨by show 3 ≤ sizeLine; decide, fun p hp => ?_⟩)
      exact q p _ hp (Go.new hp) ⟨own, n2, 0, upd_same, n2a, n2b, by omega⟩
    · refine ⟨_, rfl, r_mulI (wide_mul (i := 37) (a := 16) (b := 31) (by decide) hK (by decide) (by decide) (by decide)) (r_addI ?_)⟩
      generalize 37 * ((k : Nat) : Int) + 11 = z
      refine ⟨_, rfl, z, rfl, ?_⟩
      generalize (if z < 0 then -z else z) = z1
      refine r_nil (.inl ⟨z1, rfl, ?_⟩)
      dsimp only [tOp, tC]
      refine r_pow c1 fun m1 e1 => ?_
      subst e1
      refine r_pow c2 fun m2 e2 => ?_
      subst e2
      refine r_mod hp0 fun m m0 ml _ => ?_
      refine ⟨_, rfl, z, rfl, ?_⟩
      generalize (if z < 0 then -z else z) = z2
      dsimp only [tOp, tC]
      refine r_pow c3 fun m3 e3 => ⟨z2, m3, rfl, rfl, r_nil (.inr ⟨_, rfl, ?_⟩)⟩
      generalize decide (m3 ≤ z2) = bb
      have hm : m.natAbs < 2 ^ 1000 := by
        have : m < 2 ^ 1000 := Int.lt_of_lt_of_le ml hp1
        have h2 : (m.natAbs : Int) < ((2 ^ 1000 : Nat) : Int) := by
          rw [Int.natAbs_of_nonneg m0]
          exact_mod_cast this
        exact_mod_cast h2
      have hb : (if bb = true then (1 : Int) else 0).natAbs < 2 ^ 1 := by cases bb <;> decide
      refine r_mulI (wide_mul (a := 1000) (b := 1) hm hb (by decide) (by decide) (by decide)) ?_
      generalize m * (if bb = true then (1 : Int) else 0) = own
      refine ⟨_, rfl, _, rfl, .inl ⟨z, rfl, r_mod (by decide) fun n1 n1a n1b _ => ?_⟩⟩
      have hn1 : n1.natAbs < 2 ^ 62 := by omega
      refine r_mulI (wide_mul (j := 70913) (a := 62) (b := 20) hn1 (by decide) (by decide) (by decide) (by decide)) ?_
      refine ⟨_, rfl, r_mulI (wide_mul (i := 7013) (a := 16) (b := 31) (by decide) hK (by decide) (by decide) (by decide)) ?_⟩
      refine ⟨_, rfl, r_mulI (wide_mul (a := 47) (b := 31) (wide_lt (a := 16) (b := 31) (by decide) hK) hK (by decide) (by decide) (by decide)) ?_⟩
      refine r_addI (r_addI (r_mod (by decide) fun n2 n2a n2b _ => ?_))
      refine r_c (r_nil ⟨by show 3 ≤ sizeLine; decide, fun p hp => ?_⟩)
      exact q p _ hp (Go.new hp) ⟨own, n2, 0, upd_same, n2a, n2b, by omega⟩
end
end Sd
namespace Sd
open PySem PySem.Spec PyProof.Rows L2 LamX

/-- a drawn thing -/
def spOdd (c : Wd) : Sp := fun vs H Q _ => ∃ (p : Addr) (n : Nat) (M : List Addr), vs = [.ref p] ∧ Pot H p n ∧ n ≤ 2 ^ 29 ∧ p ∈ M ∧ (∀ a ∈ M, H a ≠ none) ∧
  ∀ (v : V) (d : PyData) (H' : Hp), Go [p] H H' → Pot H' p (n + 20) → Rp M H' d v → Sz 20 d → Q v H'
def odd1 : List PyData := [.none, .bool true, .bool false, .int 0, .int 1, .int 3, .int (-1), .int 4, .int (10 ^ 17), .str "", .str "p", .str "a", .str "A", .str "a b", .str "ninesigns", .tuple [], .list [], .dict [], .tuple [.tuple []]]
def odd2 : List PyData := [.tuple [.str "p"], .list [.str "p"], .tuple [.str "q", .str "p"], .dict [(.str "p", .int 1)], .tuple [.str "a", .none, .tuple []], .tuple [.int 1, .int 2], .str "a\n"]
theorem odd_sz : (odd1 ++ odd2).all szB = true := by decide +kernel
section
variable {M0 : List Addr} {H0 : Hp} {σ : L2.St}
theorem u_seq {t u : TS} {D : Ends} {H : Hp} (h : t { D with nx := u D } σ H) : tSeq t u D σ H := h
theorem u_asg {te : TE} {g : TG} {D : Ends} {H : Hp} (h : te σ H fun x H1 => g x σ H1 D.nx) : tAsg te g D σ H := h
theorem gr_neg {i : Int} : Gr M0 H0 σ (tUn (rU fun i => .int (-i)) (tC (.int i))) (.int (-i)) := fun M H Q _ _ q => ⟨i, rfl, q _ H (Go.refl _ _) (by simp only [Rp])⟩
theorem gr_pow : Gr M0 H0 σ (tOp rPowU (tC (.int 10)) (tC (.int 17))) (.int (10 ^ 17)) := fun M H Q _ _ q => ⟨10, 17, rfl, rfl, ⟨by decide, by decide +kernel⟩, q _ H (Go.refl _ _) (by simp only [Rp]; rfl)⟩
theorem use_grA {ta : TA} {ds : List PyData} {M : List Addr} {H : Hp} {Q : List V → Hp → Prop} (h : GrA M0 H0 σ ta ds) (hM : ∀ a ∈ M, H a ≠ none ∧ (a ∈ M0 ∨ H0 a = none)) (g : Go [] H0 H) (q : ∀ vs H', Go [] H H' → RpA M H' ds vs → Q vs H') : ta σ H Q := h M H Q hM g q
theorem use_lst {ta : TA} {ds : List PyData} {M : List Addr} {H : Hp} {Q : VK} (h : GrA M0 H0 σ ta ds) (hl : ds.length ≤ 1000) (hM : ∀ a ∈ M, H a ≠ none ∧ (a ∈ M0 ∨ H0 a = none)) (g : Go [] H0 H) (q : ∀ vs H' l, Go [] H H' → RpA M H' ds vs → H' l = none → Q (.ref l) (upd H' l (.lst vs))) : tLstS ta σ H Q :=
  h M H _ hM g fun vs H1 g1 r1 => ⟨by rw [r1.len, sizeLine_eq]; omega, fun l hl1 _ => q vs H1 l g1 r1 hl1⟩
theorem Sz.up {n m : Nat} {d : PyData} (h : Sz n d) (l : n ≤ m) : Sz m d := ⟨h.sh, Nat.le_trans h.ln (by omega), Nat.le_trans h.dp (by omega)⟩
theorem potM {H H' : Hp} {p : Addr} {M : List Addr} (g : Go [p] H H') (hp : ∃ n, Pot H' p n) (hM : ∀ a ∈ M, H a ≠ none) : ∀ a ∈ M, H' a ≠ none := fun a ha e => by
  by_cases z : a = p
  · obtain ⟨n, x, b, k, h1, _⟩ := hp
    rw [z, h1] at e
    cases e
  · exact hM a ha (g.free (by simpa using z) e)
end
section
variable {c : Wd}
/-- _law_of(pot, [..]) -/
theorem of_run {σ : L2.St} {H : Hp} {Q : VK} {p : Addr} {n : Nat} {M : List Addr} {ta : TA} {ds : List PyData} (e : σ[0]? = some (some (.ref p))) (hp : Pot H p n) (hn : n ≤ 2 ^ 30) (h : GrA M H σ ta ds) (h0 : ds ≠ []) (hl : ds.length ≤ 1000) (hpM : p ∈ M) (hM : ∀ a ∈ M, H a ≠ none)
    (q : ∀ (r : Nat) (v : V) (d : PyData) (H' : Hp), ds[r]? = some d → Go [p] H H' → Pot H' p (n + 1) → Rp M H' d v → Q v H') : tCall (spOf c) [] E0 (tCons (tVar 0) (tCons (tLstS ta) tNil)) σ H Q := by
  refine ⟨_, e, use_lst h hl (fun a ha => ⟨hM a ha, .inl ha⟩) (Go.refl _ _) fun vs H1 l g1 r1 hl1 => ?_⟩
  have hp1 : Pot H1 p n := hp.go g1
  have g2 : Go [] H1 (upd H1 l (.lst vs)) := Go.new hl1
  have hlp : l ≠ p := fun z => by
    obtain ⟨a, b, k, z1, _⟩ := hp1
    rw [← z, hl1] at z1
    cases z1
  refine ⟨p, l, n, vs, rfl, hp1.go g2, hn, fun z => h0 (by rw [z] at r1; have := r1.len; simp at this; exact List.length_eq_zero_iff.mp this.symm), by rw [r1.len]; omega, .inl ⟨hlp, upd_same⟩, fun r v H' hv g3 hp3 => ?_⟩
  obtain ⟨d, hd, rv⟩ := RpA.at r1 hv
  exact q r v d H' hd ((g1.trans g2).wide.trans g3) hp3 (Rp.go (g3.mono fun b hb => by rw [List.mem_singleton.mp hb]; exact hpM) d v (Rp.go g2.wide d v rv))
abbrev s__law_odd : Stmt := topS 36
abbrev N__law_odd : List Str := ["_law_pot", "_law_some", "_law_found", "_law_turn"]
abbrev P__law_odd : List Str := ["_law_pot"]
theorem sc__law_odd : FnScope N__law_odd P__law_odd (defScope s__law_odd) := ⟨rfl, rfl, rfl, by decide +kernel, rfl, by decide +kernel, by decide +kernel⟩
theorem ok_odd (F : At c "_law_odd" "_law_odd" s__law_odd P__law_odd) (B : Bi c) (D__law_of : Ok c "_law_of" 2 P__law_of (spOf c)) : Ok c "_law_odd" 3 P__law_odd (spOdd c) := by
  refine Ok.of F sc__law_odd (fun vs H Q E h => ?_) (fun f cdv A out s H vs Q E hr h => ?_)
  · obtain ⟨p, n, M, rfl, _⟩ := h
    rfl
  · obtain ⟨p, n, M, rfl, hp, hn, hpM, hM, q⟩ := h
    have hu1 := hu_of hr
    have hu := hr.units
    refine ⟨_, (pss_cons (ps_set (i := 1) sc__law_odd.nd rfl (by first | exact Or.inl rfl | exact Or.inr rfl) (pe_lstS (pa_cons pe_non (pa_cons pe_bl (pa_cons pe_bl (pa_cons pe_int (pa_cons pe_int (pa_cons pe_int (pa_cons (pe_un un_neg pe_int) (pa_cons pe_int (pa_cons (pe_op op_powU pe_int pe_int) (pa_cons pe_str (pa_cons pe_str (pa_cons pe_str (pa_cons pe_str (pa_cons pe_str (pa_cons pe_str (pa_cons (pe_tup pa_nil) (pa_cons (pe_lstS pa_nil) (pa_cons pe_dnewK (pa_cons (pe_tup (pa_cons (pe_tup pa_nil) pa_nil)) pa_nil)))))))))))))))))))))
    (pss_cons (ps_set (i := 2) sc__law_odd.nd rfl (by first | exact Or.inl rfl | exact Or.inr rfl) (pe_f D__law_of (hr.mono (by decide)) (by rfl) (pa_cons (pv 0) (pa_cons (pe_op (op_addU (K := c.K)) (pv 1) (pe_lstS (pa_cons (pe_tup (pa_cons pe_str pa_nil)) (pa_cons (pe_lstS (pa_cons pe_str pa_nil)) (pa_cons (pe_tup (pa_cons pe_str (pa_cons pe_str pa_nil))) (pa_cons (pe_disp (pps_cons pe_str pe_int pps_nil) (by rfl) (by rfl) (fun z => by cases z) (by decide)) (pa_cons (pe_tup (pa_cons pe_str (pa_cons pe_non (pa_cons (pe_tup pa_nil) pa_nil)))) (pa_cons (pe_tup (pa_cons pe_int (pa_cons pe_int pa_nil))) (pa_cons pe_str pa_nil))))))))) pa_nil))))
    (pss_cons (ps_for PassesOwn.never rfl (pi_range1 (by rfl) B.range (pa_cons (pe_f D__law_of (hr.mono (by decide)) (by rfl) (pa_cons (pv 0) (pa_cons (pe_lstS (pa_cons pe_int (pa_cons pe_int (pa_cons pe_int (pa_cons pe_int (pa_cons pe_int (pa_cons pe_int (pa_cons pe_int pa_nil)))))))) pa_nil))) pa_nil)) (pg_name (i := 3) sc__law_odd.nd rfl (by first | exact Or.inl rfl | exact Or.inr rfl)) (pss_one (ps_set (i := 2) sc__law_odd.nd rfl (by first | exact Or.inl rfl | exact Or.inr rfl) (pe_f D__law_of (hr.mono (by decide)) (by rfl) (pa_cons (pv 0) (pa_cons (pe_lstS (pa_cons (pe_tup (pa_cons (pv 2) pa_nil)) (pa_cons (pe_lstS (pa_cons (pv 2) pa_nil)) (pa_cons (pe_disp (pps_cons pe_str (pv 2) pps_nil) (by rfl) (by rfl) (fun z => by cases z) (by decide)) (pa_cons (pe_tup (pa_cons (pv 2) (pa_cons pe_int pa_nil))) pa_nil))))) pa_nil))))))
    (pss_one (ps_ret (pv 2)))))), ?_⟩
    have hpM1 : ∀ b ∈ [p], b ∈ M := fun b hb => by rw [List.mem_singleton.mp hb]; exact hpM
    -- the menu
    refine u_seq (u_asg (use_lst (M := M) (M0 := M) (H0 := H) (ds := odd1) ?_ (by decide) (fun a ha => ⟨hM a ha, .inl ha⟩) (Go.refl _ _) fun xs1 H1 l1 g1 r1 hl1 => ?_))
    · repeat' first | exact grA_nil | exact gr_non | exact gr_bl | exact gr_int | exact gr_str | exact gr_neg | exact gr_pow | exact gr_d0 | refine grA_cons ?_ ?_ | refine gr_tup ?_ (by decide) | refine gr_lst ?_ (by decide) | refine gr_d1 ?_
    have g2 : Go [] H1 (upd H1 l1 (.lst xs1)) := Go.new hl1
    have h2 : (upd H1 l1 (.lst xs1)) l1 = some (.lst xs1) := upd_same
    have g12 := g1.trans g2
    generalize upd H1 l1 (.lst xs1) = H2 at g2 h2 g12
    have r2 : RpA M H2 odd1 xs1 := RpA.go g2.wide _ _ r1
    refine ⟨_, rfl, _, rfl, ?_⟩
    refine use_lst (M := M) (M0 := M) (H0 := H2) (ds := odd2) ?_ (by decide) (fun a ha => ⟨notM hM g12 a ha, .inl ha⟩) (Go.refl _ _) fun xs2 H3 l2 g3 r3 hl2 => ?_
    · repeat' first | exact grA_nil | exact gr_non | exact gr_bl | exact gr_int | exact gr_str | exact gr_neg | exact gr_pow | exact gr_d0 | refine grA_cons ?_ ?_ | refine gr_tup ?_ (by decide) | refine gr_lst ?_ (by decide) | refine gr_d1 ?_
    have g4 : Go [] H3 (upd H3 l2 (.lst xs2)) := Go.new hl2
    have h4 : (upd H3 l2 (.lst xs2)) l2 = some (.lst xs2) := upd_same
    have g34 := g3.trans g4
    generalize upd H3 l2 (.lst xs2) = H4 at g4 h4 g34
    have r4 : RpA M H4 (odd1 ++ odd2) (xs1 ++ xs2) := (RpA.go g34.wide _ _ r2).app (RpA.go g4.wide _ _ r3)
    have hlen : (xs1 ++ xs2).length = 26 := r4.len
    refine .inr (.inl ⟨l1, l2, xs1, xs2, rfl, rfl, g34.old _ _ (by simp) h2, h4, by rw [← List.length_append, hlen]; decide, fun l3 hl3 => ?_⟩)
    have g5 : Go [] H4 (upd H4 l3 (.lst (xs1 ++ xs2))) := Go.new hl3
    have h5 : (upd H4 l3 (.lst (xs1 ++ xs2))) l3 = some (.lst (xs1 ++ xs2)) := upd_same
    generalize upd H4 l3 (.lst (xs1 ++ xs2)) = H5 at g5 h5
    have g05 : Go [] H H5 := (g12.trans g34).trans g5
    have hp5 : Pot H5 p n := hp.go g05
    have hlp : l3 ≠ p := fun z => by
      obtain ⟨a, b, k, z1, _⟩ := hp.go (g12.trans g34)
      rw [← z, hl3] at z1
      cases z1
    refine ⟨p, l3, n, xs1 ++ xs2, rfl, hp5, by omega, fun z => (by rw [z] at hlen; cases hlen), (by rw [hlen]; decide), .inl ⟨hlp, h5⟩, fun r v H6 hv g6 hp6 => ?_⟩
    obtain ⟨d, hd, rv⟩ := RpA.at r4 hv
    have rv6 : Rp M H6 d v := Rp.go (g6.mono hpM1) d v (Rp.go g5.wide d v rv)
    have hsz : Sz 0 d := sz_of (List.all_eq_true.mp odd_sz d (List.mem_of_getElem? hd))
    have g06 : Go [p] H H6 := g05.wide.trans g6
    have hM6 := potM g06 ⟨_, hp6⟩ hM
    -- how often
    refine of_run (ds := [.int 0, .int 0, .int 0, .int 0, .int 1, .int 2, .int 15]) (M := M) rfl hp6 (by omega) ?_ (by simp) (by decide) hpM hM6 fun r2 v2 d2 H7 hd2 g7 hp7 rv7 => ?_
    · repeat' first | exact grA_nil | exact gr_int | refine grA_cons ?_ ?_
    obtain ⟨j, rfl, hj⟩ : ∃ j : Nat, v2 = .int (j : Int) ∧ j ≤ 15 := by
      rcases r2 with _ | _ | _ | _ | _ | _ | _ | r2
      all_goals first
        | (have e : _ = d2 := Option.some.inj hd2
           subst e
           simp only [Rp] at rv7
           first
             | exact ⟨0, rv7, by decide⟩
             | exact ⟨1, rv7, by decide⟩
             | exact ⟨2, rv7, by decide⟩
             | exact ⟨15, rv7, by decide⟩)
        | (simp at hd2)
    refine ⟨(j : Int), rfl, by omega, by omega, for_range (lo := 0) (n := (j : Int).toNat) (fun i σ H' => ∃ (v : V) (d : PyData) (o : Option V), σ = [some (.ref p), some (.ref l1), some v, o] ∧ Go [p] H H' ∧ Pot H' p (n + 2 + i) ∧ Rp M H' d v ∧ Sz i d)
      ⟨v, d, none, rfl, g06.trans g7, hp7, Rp.go (g7.mono hpM1) d v rv6, hsz⟩ ?_ ?_⟩
    · rintro i σ H8 hi ⟨v, d, o, rfl, g8, hp8, rv8, sz8⟩
      have hM8 := potM g8 ⟨_, hp8⟩ hM
      refine of_run (ds := [.tuple [d], .list [d], .dict [(.str "a", d)],   .tuple [d, .int 0]]) (M := M) rfl hp8 (by simp at hi; omega) ?_ (by simp) (by simp) hpM hM8 fun r3 v3 d3 H9 hd3 g9 hp9 rv9 => ?_
      · repeat' first | exact grA_nil | exact gr_int | exact gr_v rfl rv8 | refine grA_cons ?_ ?_ | refine gr_tup ?_ (by simp) | refine gr_lst ?_ (by simp) | refine gr_d1 ?_
      refine ⟨v3, d3, _, rfl, g8.trans g9, hp9, rv9, ?_⟩
      rcases r3 with _ | _ | _ | _ | r3
      · exact Option.some.inj hd3 ▸ sz8.tup
      · exact Option.some.inj hd3 ▸ sz8.lst
      · exact Option.some.inj hd3 ▸ sz8.dic
      · exact Option.some.inj hd3 ▸ sz8.two
      · simp at hd3
    · rintro σ H8 ⟨v, d, o, rfl, g8, hp8, rv8, sz8⟩
      refine ⟨_, rfl, q v d H8 g8 (hp8.up (by simp; omega)) rv8 (sz8.up (by simp; omega))⟩
end
end Sd
namespace Sd
open PySem PySem.Spec PyProof.Rows L2 LamX

section
variable {c : Wd} {fI : Addr} {fd : FuncData}
abbrev s_SeldomError___init__ : Stmt := inClass (topS 1) 0
abbrev N_SeldomError___init__ : List Str := ["self", "value"]
abbrev P_SeldomError___init__ : List Str := ["self", "value"]
theorem sc_SeldomError___init__ : FnScope N_SeldomError___init__ P_SeldomError___init__ (defScope s_SeldomError___init__) := ⟨rfl, rfl, rfl, by decide +kernel, rfl, by decide +kernel, by decide +kernel⟩
theorem ok_init (F : Fun c.K "__init__" "SeldomError.__init__" s_SeldomError___init__ fI fd) : FnOk c.P c.w c.K c.mg c.base (L2.CX c.P c.w) 1 fI fd ["self", "value"] (spInit c.K) := by
  refine F.okX sc_SeldomError___init__ (fun vs H Q E h => ?_) (fun cdv A out s H vs Q E hr h => ?_)
  · obtain ⟨a, C, v, rfl, _⟩ := h
    rfl
  · obtain ⟨a, C, v, rfl, T, hno, ha, q⟩ := h
    refine ⟨_, pss_one (ps_ost (pv 0) (pv 1)), ?_⟩
    exact ⟨_, rfl, _, rfl, a, C, rfl, T, hno, .inl ⟨ha, fun dx hd hne => q dx hd hne⟩⟩

/-- a def whose code object is known, with its table -/
structure FunC (K : PySem.W.Frag) (x qual : Str) (st : Stmt) (f : Addr) (fd : FuncData) (cc : Addr) : Prop where
  ex : ∃ (oc : Value) (od : Option Addr) (kV doc pm : Value) (an : Option Addr) (ct : Value) (osl : Array (Option Value)),
    fd = PySem.W.fnOf x qual (defArgs st) (defBody st) (defScope st) .none kV doc pm an (.ref cc) ct ∧ K.lookup f = some ⟨oc, od, .func fd, osl⟩ ∧ PySem.W.codeIn K (.ref cc) qual = true
  kp : PySem.W.keepIn K (.ref f) = true
def AtC (c : Wd) (x qual : Str) (st : Stmt) (ps : List Str) (cc : Addr) : Prop := ∃ (f : Addr) (fd : FuncData), c.mg x = some (.ref f) ∧ FunC c.K x qual st f fd cc ∧ Binds c.K fd ps []
theorem OkC.of {x qual : Str} {st : Stmt} {N ps : List Str} {k : Nat} {sp : Sp} {cc : Addr} (F : AtC c x qual st ps cc) (S : FnScope N ps (defScope st))
    (len : ∀ vs H Q E, sp vs H Q E → vs.length = ps.length)
    (h : ∀ (f : Addr) (A : Around) (out : List Env) (s : Shared) (H : Hp) (vs : List V) (Q : VK) (E : XK),
      Room k (A.deeper (envOfC qual (defScope st) s.heap.objs.size f (.ref cc))) → sp vs H Q E →
      ∃ t, PSs (cxN c N qual st f (.ref cc) A out s H E) (defBody st) t ∧ t { nx := fun _ H' => Q .non H', rt := Q } (start N vs) H) : Ok c x (k + 1) ps sp := by
  obtain ⟨f, fd, h1, h2, h3⟩ := F
  obtain ⟨⟨oc, od, kV, doc, pm, an, ct, osl, rfl, lk, hcd⟩, kp⟩ := h2
  exact ⟨f, _, h1, kp, h3, fn_of lk hcd S len fun A out s H vs Q E hr q => h f A out s H vs Q E hr q⟩

/-- a row of thirty lambdas -/
def spRow (P : Addr) (q : Str) : Sp := fun vs H Q _ => vs = [] ∧ TabS H P q ∧ ∀ (l : Addr) (fs : List V) (H' : Hp), H l = none → Go [P] H H' → TabS H' P q → H' l = some (.lst fs) → fs.length = 30 →
  (∀ (i : Nat) (v : V) (x : Str), fs[i]? = some v → errNames[i]? = some x → LamAt q x v H') → Q (.ref l) H'
/-- the body of such a def -/
inductive RowBody : List Str → List Stmt → Prop
  | mk {x : Str} {xs : List Str} {e : Expr} {sts rst : List Stmt} (p1 p2 p3 p4 p5 : Pos) : LamE x e → LamSts xs sts → rst = sts ++ [.Return (some (.Name "_law_some" p4)) p5] → RowBody (x :: xs) (.Assign [.Name "_law_some" p1] (.List [e] p2) p3 :: rst)
theorem row_run {X : Cx} {cc P : Addr} {q : Str} {body : List Stmt} (W : MkX X cc P q) (hN : X.N = [("_law_some" : Str)]) (hloc : X.env.scope.names.lookup ("_law_some" : Str) = some NameKind.local) (hb : RowBody errNames body) : ∃ t, PSs X body t ∧ ∀ (Q : VK) (H : Hp) (D : Ends), D.rt = Q → spRow P q [] H Q (fun _ _ _ => False) → t D (start ["_law_some"] []) H := by
  generalize hen : errNames = en at hb
  cases hb with
  | @mk x xs e sts rst p1 p2 p3 p4 p5 hE hS hrst =>
    subst hrst
    have hND : X.N.Nodup := by rw [hN]; decide
    obtain ⟨p, bd, hp, hb⟩ := pe_lamE W hE
    obtain ⟨t, ht, kt⟩ := lams_run W hS (pss_one (ps_ret (pos := p5) (pe_var (pos := p4) (i := 0) (x := "_law_some") W.N W.vis (by decide) (by decide))))
    have hst : starEach [e] X.env = (false, eval e X.env) :: starEach [] X.env := by cases hE <;> rfl
    refine ⟨_, pss_cons (ps_set (i := 0) hND W.N (.inl hloc) (pe_lst (pa_cons hp pa_nil hst)) (by cases hE <;> rfl) (.inr hloc)) ht, fun Q H D hD h => ?_⟩
    obtain ⟨_, hT, hq⟩ := h
    refine ⟨hT, fun f c H1 hf g1 t1 h1 h2 => ⟨by show 1 ≤ sizeLine; decide, fun l hl => ?_⟩⟩
    have hPl : ∀ ps, H1 P = some (.tbl ps) → P ≠ l := fun ps hP z => by rw [z, hl] at hP; cases hP
    have g2 : Go [P] H1 (upd H1 l (.lst [.ref f])) := Go.new hl
    have lam1 : LamAt q x (.ref f) (upd H1 l (.lst [.ref f])) := LamAt.go ⟨f, c, p, bd, rfl, h1, h2, hb⟩ g2 (tabPlain t1)
    have t2 : TabS (upd H1 l (.lst [.ref f])) P q := t1.ext fun b o e => by rw [upd_ne (ne_of_none e hl)]; exact e
    have hH : H l = none := by
      cases e : H l with
      | none => rfl
      | some o =>
        by_cases z : l = P
        · obtain ⟨ps, hP, _⟩ := t1
          rw [z, hP] at hl
          cases hl
        · rw [g1.old l o (by simpa using z) e] at hl
          cases hl
    have hlen : xs.length = 29 := by
      have := congrArg List.length hen
      simpa [errNames] using this.symm
    refine kt D _ _ l [.ref f] [x] rfl upd_same rfl (by simp [hlen]) t2 (fun k v y h3 h4 => ?_) fun H' acc' g3 t3 h3 h4 h5 => ?_
    · rcases k with _ | k
      · cases h3
        cases h4
        exact lam1
      · simp at h3
    · refine ⟨_, rfl, ?_⟩
      rw [hD]
      refine hq l acc' H' hH ⟨fun b o hb e => ?_, fun b o hb e => ?_⟩ t3 h3 (by rw [h4]; simp [hlen]) fun i v y h6 h7 => h5 i v y h6 (by rw [← h7, hen]; rfl)
      · have e1 := g1.old b o hb e
        refine g3.old b o (fun z => ?_) (by rw [upd_ne (ne_of_none e1 hl)]; exact e1)
        rcases List.mem_cons.mp z with z | z
        · exact hb (by rw [z]; simp)
        · rw [List.mem_singleton.mp z, hH] at e
          cases e
      · have e1 := g1.fix b o hb e
        exact g3.fix b o hb (by rw [upd_ne (ne_of_none e1 hl)]; exact e1)
end
end Sd
namespace Sd
open PySem PySem.Spec PyProof.Rows L2 LamX

section
variable {c : Wd} {fI : Addr} {fd : FuncData} {cc P : Addr}
abbrev s__law_makers : Stmt := topS 37
abbrev N__law_makers : List Str := ["_law_some"]
abbrev P__law_makers : List Str := []
theorem sc__law_makers : FnScope N__law_makers P__law_makers (defScope s__law_makers) := ⟨rfl, rfl, rfl, by decide +kernel, rfl, by decide +kernel, by decide +kernel⟩
abbrev s__law_named : Stmt := topS 38
abbrev N__law_named : List Str := ["_law_some"]
abbrev P__law_named : List Str := []
theorem sc__law_named : FnScope N__law_named P__law_named (defScope s__law_named) := ⟨rfl, rfl, rfl, by decide +kernel, rfl, by decide +kernel, by decide +kernel⟩
theorem row_makers : RowBody errNames (defBody s__law_makers) := by
  refine RowBody.mk (sts := (List.drop 1 (defBody s__law_makers)).dropLast) _ _ _ _ _ (LamE.pos _ _ _ _ _ _) ?_ rfl
  repeat' first | exact LamSts.nil | refine LamSts.cons _ _ _ _ (LamE.pos _ _ _ _ _ _) rfl ?_
theorem row_named : RowBody errNames (defBody s__law_named) := by
  refine RowBody.mk (sts := (List.drop 1 (defBody s__law_named)).dropLast) _ _ _ _ _ (LamE.kw _ _ _ _ _ _ _) ?_ rfl
  repeat' first | exact LamSts.nil | refine LamSts.cons _ _ _ _ (LamE.kw _ _ _ _ _ _ _) rfl ?_
def qMakers : Str := "_law_makers.<locals>.<lambda>"
def qNamed : Str := "_law_named.<locals>.<lambda>"
theorem ok_makers (F : AtC c "_law_makers" "_law_makers" s__law_makers [] cc) (TB : TabB c.base c.mg cc P) : Ok c "_law_makers" 1 [] (spRow P qMakers) := by
  refine OkC.of F sc__law_makers (fun vs H Q E h => ?_) (fun f A out s H vs Q E hr h => ?_)
  · rw [h.1]
    rfl
  · obtain ⟨t, ht, kt⟩ := row_run (X := cxN c N__law_makers "_law_makers" s__law_makers f (.ref cc) A out s H E) (cc := cc) (P := P) (q := qMakers) ⟨TB, rfl, rfl, rfl, .inl rfl⟩ rfl rfl row_makers
    have hv := h.1
    subst hv
    exact ⟨t, ht, kt Q H _ rfl ⟨rfl, h.2⟩⟩
theorem ok_named (F : AtC c "_law_named" "_law_named" s__law_named [] cc) (TB : TabB c.base c.mg cc P) : Ok c "_law_named" 1 [] (spRow P qNamed) := by
  refine OkC.of F sc__law_named (fun vs H Q E h => ?_) (fun f A out s H vs Q E hr h => ?_)
  · rw [h.1]
    rfl
  · obtain ⟨t, ht, kt⟩ := row_run (X := cxN c N__law_named "_law_named" s__law_named f (.ref cc) A out s H E) (cc := cc) (P := P) (q := qNamed) ⟨TB, rfl, rfl, rfl, .inl rfl⟩ rfl rfl row_named
    have hv := h.1
    subst hv
    exact ⟨t, ht, kt Q H _ rfl ⟨rfl, h.2⟩⟩

/-! ### which classes -/
def marksV (i : Nat) : List V := (List.range 30).map fun j => V.bl (decide (j = i))
theorem err_inj0 : ∀ i : Fin 30, ∀ j : Fin 30, errNames[j.1]? = errNames[i.1]? → j = i := by decide +kernel
theorem err_inj {i j : Nat} {x : Str} (h : errNames[i]? = some x) (h' : errNames[j]? = some x) : j = i := by
  have hi : i < 30 := (List.getElem?_eq_some_iff.mp h).1
  have hj : j < 30 := (List.getElem?_eq_some_iff.mp h').1
  have := err_inj0 ⟨i, hi⟩ ⟨j, hj⟩ (by rw [h', h])
  exact congrArg Fin.val this
theorem marks_eq {i : Nat} {x : Str} (h : errNames[i]? = some x) : (errNames.map fun y => V.bl (decide (y = x))) = marksV i := by
  apply List.ext_getElem?
  intro j
  unfold marksV
  rw [List.getElem?_map, List.getElem?_map]
  by_cases hj : j < 30
  · have hl : errNames.length = 30 := rfl
    rw [List.getElem?_range hj, List.getElem?_eq_getElem (by omega)]
    simp only [Option.map_some, Option.some.injEq, V.bl.injEq, decide_eq_decide]
    obtain ⟨hi, e⟩ := List.getElem?_eq_some_iff.mp h
    constructor
    · intro z
      exact err_inj h (by rw [List.getElem?_eq_getElem (by omega), z])
    · intro z
      subst z
      exact e
  · rw [List.getElem?_eq_none_iff.mpr (show errNames.length ≤ j by show 30 ≤ j; omega), List.getElem?_eq_none_iff.mpr (by simp; omega)]
    rfl
def spMarks (c : Wd) : Sp := fun vs H Q _ => ∃ (a dx : Addr) (i : Nat) (x : Str) (fs : List (Str × V)), vs = [.ref a] ∧ errNames[i]? = some x ∧ ErrAt (clAt c.K x) a dx fs H ∧
  ∀ (l : Addr) (H' : Hp), H l = none → Go [] H H' → H' l = some (.lst (marksV i)) → Q (.ref l) H'
inductive MarkBody : List Str → List Stmt → Prop
  | mk {x : Str} {xs : List Str} {e : Expr} {sts rst : List Stmt} (p1 p2 p3 p4 p5 : Pos) : MarkE x e → MarkSts xs sts → rst = sts ++ [.Return (some (.Name "_law_found" p4)) p5] → MarkBody (x :: xs) (.Assign [.Name "_law_found" p1] (.List [e] p2) p3 :: rst)
abbrev s__law_marks : Stmt := topS 39
abbrev N__law_marks : List Str := ["_law_thing", "_law_found"]
abbrev P__law_marks : List Str := ["_law_thing"]
theorem sc__law_marks : FnScope N__law_marks P__law_marks (defScope s__law_marks) := ⟨rfl, rfl, rfl, by decide +kernel, rfl, by decide +kernel, by decide +kernel⟩
theorem row_marks : MarkBody errNames (defBody s__law_marks) := by
  refine MarkBody.mk (sts := (List.drop 1 (defBody s__law_marks)).dropLast) _ _ _ _ _ (MarkE.mk _ _ _ _ _) ?_ rfl
  repeat' first | exact MarkSts.nil | refine MarkSts.cons _ _ _ _ (MarkE.mk _ _ _ _ _) rfl ?_
theorem gl_marks : errNames.all (fun x => decide ((defScope s__law_marks).names.lookup x = some .globalImplicit)) = true := by decide +kernel
theorem ok_marks (F : At c "_law_marks" "_law_marks" s__law_marks P__law_marks) (B : Bi c) (ES : Es c fI) : Ok c "_law_marks" 1 P__law_marks (spMarks c) := by
  refine Ok.of F sc__law_marks (fun vs H Q E h => ?_) (fun f cdv A out s H vs Q E hr h => ?_)
  · obtain ⟨a, dx, i, x, fs, rfl, _⟩ := h
    rfl
  · obtain ⟨a, dx, i, x, fs, rfl, hx, hE, q⟩ := h
    have W : MarkX (cxN c N__law_marks "_law_marks" s__law_marks f cdv A out s H E).nox (clAt c.K x) (fun y => decide (y = x)) := by
      refine ⟨(ES.at_ i x hx).2.exc, B.isinstance, rfl, rfl, rfl, .inl rfl, .inl rfl, fun y hy => ?_⟩
      obtain ⟨j, hj, ej⟩ := List.getElem_of_mem hy
      have hy' : errNames[j]? = some y := by rw [← ej]; exact List.getElem?_eq_getElem hj
      have hgl : (defScope s__law_marks).names.lookup y = some .globalImplicit := of_decide_eq_true (List.all_eq_true.mp gl_marks y hy)
      refine ⟨clAt c.K y, (ES.at_ j y hy').1, hgl, (err_ne hy').2.2, ?_⟩
      show PySem.W.kitOne c.K (.ref (clAt c.K x)) (.ref (clAt c.K y)) = _
      rw [ES.two i j x y hx hy']
      congr 1
      rw [decide_eq_decide]
      obtain ⟨hi, e⟩ := List.getElem?_eq_some_iff.mp hx
      constructor
      · intro z
        subst z
        rw [hx] at hy'
        exact (Option.some.inj hy').symm
      · intro z
        subst z
        exact err_inj hx hy'
    have hb := row_marks
    generalize hbody : defBody s__law_marks = body at hb ⊢
    generalize hen : errNames = en at hb
    cases hb with
    | @mk y ys e sts rst p1 p2 p3 p4 p5 hE1 hS hrst =>
      subst hrst
      have hsub : ∀ z ∈ y :: ys, z ∈ errNames := fun z hz => by rw [hen]; exact hz
      obtain ⟨te, hp, hte⟩ := pe_markE W (hsub y (List.mem_cons_self ..)) hE1
      obtain ⟨t, ht, kt⟩ := marks_run W hS (fun z hz => hsub z (List.mem_cons_of_mem _ hz)) (pss_one (ps_ret (pos := p5) (pe_var (pos := p4) (i := 1) (x := "_law_found") W.N1 W.v1 (by decide) (by decide))))
      have hst : ∀ env : Env, starEach [e] env = (false, eval e env) :: starEach [] env := fun env => by cases hE1 <;> rfl
      refine ⟨_, pss_cons (ps_set (i := 1) sc__law_marks.nd W.N1 (.inl rfl) (pe_lst (pa_cons hp pa_nil (hst _))) (by cases hE1 <;> rfl) (.inr rfl)) ht, ?_⟩
      refine hte _ _ _ a dx fs rfl hE ⟨by show 1 ≤ sizeLine; decide, fun l hl => ?_⟩
      have g1 : Go [] H (upd H l (.lst [V.bl (decide (y = x))])) := Go.new hl
      have hlen : ys.length = 29 := by
        have := congrArg List.length hen
        simpa [errNames] using this.symm
      refine kt _ _ _ a dx l fs _ rfl rfl (hE.go g1 fun z hz => nomatch hz) upd_same (by simp [hlen]) fun H' g2 h2 => ?_
      refine ⟨_, rfl, q l H' hl ⟨fun b o hb e => ?_, fun b o hb e => ?_⟩ ?_⟩
      · have e1 := g1.old b o hb e
        exact g2.old b o (fun z => by rw [List.mem_singleton.mp z, hl] at e; cases e) e1
      · exact g2.fix b o hb (g1.fix b o hb e)
      · rw [h2, ← marks_eq hx, hen]
        rfl
end
end Sd
namespace Sd
open PySem PySem.Spec PyProof.Rows L2 LamX

section
variable {X : Cx} {c : Wd} {x : Str} {k : Nat} {sp : Sp} {p pos : Pos}
theorem pe_f0 (D : Ok c x k [] sp) (hr : Room k X.A) (hg : Gl X x) (hc : Of X c := by exact ⟨rfl, rfl, rfl, rfl, rfl⟩) (hdb : (x == ("__debug__" : Str)) = false := by decide) : PE X (.Call (.Name x p) [] [] pos) (tCall sp [] E0 tNil) := by
  obtain ⟨f, fd, h1, h2, h3, h4⟩ := D
  obtain ⟨c1, c2, c3, c4, c5⟩ := hc
  obtain ⟨P, w, K, mg, base⟩ := c
  dsimp only at c1 c2 c3 c4 c5
  subst c1 c2 c3 c4 c5
  exact pe_call0 h4 hr hg h1 h2 h3 .nil passL hdb
end
/-- two drawn rows of lambdas, then each class four times -/
def spRight (c : Wd) (P1 P2 : Addr) : Sp := fun vs H Q _ => ∃ (p : Addr), vs = [.ref p] ∧ Pot H p 0 ∧ TabS H P1 qMakers ∧ TabS H P2 qNamed ∧ P1 ≠ P2 ∧
  ∀ H', Go [p, P1, P2] H H' → TabS H' P1 qMakers → TabS H' P2 qNamed → Q (.bl true) H'
theorem tabGo {H H' : Hp} {P : Addr} {q : Str} {M : List Addr} (t : TabS H P q) (g : Go M H H') (hP : P ∉ M) (hM : Plain M H) : TabS H' P q := by
  obtain ⟨ps, z1, z2, z3⟩ := t
  refine ⟨ps, g.old P _ hP z1, z2, fun pos cv hc => ?_⟩
  obtain ⟨cc, y1, y2⟩ := z3 pos cv hc
  refine ⟨cc, y1, g.old cc _ (fun z => ?_) y2⟩
  rcases hM cc z with ⟨ps1, w1⟩ | ⟨xs, w1⟩
  · rw [w1] at y2
    exact codeO_ne ps1 (Option.some.inj y2).symm
  · rw [w1] at y2
    exact codeO_lst xs (Option.some.inj y2).symm
theorem potPlain {H : Hp} {p : Addr} {n : Nat} (h : Pot H p n) : Plain [p] H := fun a ha => by
  obtain ⟨x, b, k, h1, _⟩ := h
  rw [List.mem_singleton.mp ha]
  exact .inr ⟨_, h1⟩
theorem potGo {H H' : Hp} {p P : Addr} {n : Nat} {q : Str} (h : Pot H p n) (g : Go [P] H H') (t : TabS H P q) : Pot H' p n := by
  obtain ⟨x, b, k, h1, h2⟩ := h
  obtain ⟨ps, z1, _⟩ := t
  exact ⟨x, b, k, g.old p _ (fun z => by rw [List.mem_singleton.mp z, z1] at h1; cases h1) h1, h2⟩
theorem lamAt_ok {c : Wd} {fI : Addr} {fd : FuncData} (E : Es c fI) (J : Ini c fI fd) {i : Nat} {x q : Str} {v : V} {H : Hp} (hx : errNames[i]? = some x) (h : LamAt q x v H) : ∃ (f cc : Addr) (params : Arguments) (body : Expr), v = .ref f ∧ H f = some (LamO f q params body (laS x) cc) ∧ H cc = some (CodeO cc q) ∧
    LamOk c.P c.w c.K c.mg c.base (L2.CX c.P c.w) 3 q params body (laS x) (spLam (clAt c.K x)) := by
  obtain ⟨f, cc, p, body, e, h1, h2, h3⟩ := h
  refine ⟨f, cc, _, _, e, h1, h2, ?_⟩
  rcases h3 with ⟨p1, p2, p3, rfl⟩ | ⟨p1, p2, p3, p4, rfl⟩
  · exact lam_pos E J hx q p p1 p2 p3
  · exact lam_kw E J hx q p p1 p2 p3 p4
def marksD (i : Nat) : PyData := .list ((List.range 30).map fun j => .bool (decide (j = i)))
theorem marksD_ok : ∀ i : Fin 30, SeqAt.shaped (marksD i.1) = true ∧ PyData.eqv (marksD i.1) (marksD i.1) = true := by decide +kernel
theorem marks_dpA {K : PySem.W.Frag} {H : Hp} {i : Nat} : ∀ l : List Nat, DpAll K H (l.map fun j => V.bl (decide (j = i))) (l.map fun j => PyData.bool (decide (j = i)))
  | [] => .nil
  | j :: l => .cons (.bl _) (marks_dpA l)
theorem marks_dp {K : PySem.W.Frag} {H : Hp} {i : Nat} {a : Addr} (h : H a = some (.lst (marksV i))) : Dp K H (.ref a) (marksD i) := .lst (SqL.of h) (marks_dpA _)
section
variable {c : Wd} {fI : Addr} {fd : FuncData} {P1 P2 : Addr}
abbrev s__law_right : Stmt := topS 40
abbrev N__law_right : List Str := ["_law_pot", "_law_at", "_law_plain", "_law_named_here", "_law_turn", "_law_thing", "_law_made", "_law_spot"]
abbrev P__law_right : List Str := ["_law_pot"]
theorem sc__law_right : FnScope N__law_right P__law_right (defScope s__law_right) := ⟨rfl, rfl, rfl, by decide +kernel, rfl, by decide +kernel, by decide +kernel⟩
theorem ok_right (F : At c "_law_right" "_law_right" s__law_right P__law_right) (B : Bi c) (ES : Es c fI) (J : Ini c fI fd) (D__law_makers : Ok c "_law_makers" 1 [] (spRow P1 qMakers)) (D__law_named : Ok c "_law_named" 1 [] (spRow P2 qNamed))
    (D__law_odd : Ok c "_law_odd" 3 P__law_odd (spOdd c)) (D__law_marks : Ok c "_law_marks" 1 P__law_marks (spMarks c)) : OkG c "_law_right" 4 P__law_right (spRight c P1 P2) := by
  refine OkG.of F sc__law_right (fun vs H Q E h => ?_) (fun f cdv A out s H vs Q E hG hr h => ?_)
  · obtain ⟨p, rfl, _⟩ := h
    rfl
  · obtain ⟨p, rfl, hp, hT1, hT2, hne, q⟩ := h
    have hu1 := hu_of hr
    have hu := hr.units
    have CL_SeldomError := ES.sel
    let M : List Addr := [p]
    refine ⟨_, (pss_cons (ps_par (i := 2) (j := 3) rfl sc__law_right.nd rfl rfl (by decide) rfl rfl (pa_cons (pe_f0 D__law_makers (hr.mono (by decide)) (by rfl)) (pa_cons (pe_f0 D__law_named (hr.mono (by decide)) (by rfl)) pa_nil)) (by rfl))
    (pss_cons (ps_for PassesOwn.never rfl (pi_range1 (by rfl) B.range (pa_cons (pe_callB (call_lenU (K := c.K)) (by rfl) B.len (by decide +kernel) (pa_cons (pv 2) pa_nil)) pa_nil)) (pg_name (i := 1) sc__law_right.nd rfl (by first | exact Or.inl rfl | exact Or.inr rfl)) (pss_one (ps_for PassesOwn.never rfl (pi_range1 (by rfl) B.range (pa_cons pe_int pa_nil)) (pg_name (i := 4) sc__law_right.nd rfl (by first | exact Or.inl rfl | exact Or.inr rfl)) (pss_cons (ps_set (i := 5) sc__law_right.nd rfl (by first | exact Or.inl rfl | exact Or.inr rfl) (pe_f D__law_odd (hr.mono (by decide)) (by rfl) (pa_cons (pv 0) pa_nil)))
    (pss_one (ps_for PassesOwn.never rfl (pi_seq (K := c.K) (pe_tup (pa_cons (pe_lamcall (k := 3) (hr.mono (by decide)) passL (pe_ixU (K := c.K) hu1 (pv 2) (pv 1) (fun _ _ => rfl) (fun _ _ => rfl)) (pa_cons (pv 5) pa_nil)) (pa_cons (pe_lamcall (k := 3) (hr.mono (by decide)) passL (pe_ixU (K := c.K) hu1 (pv 3) (pv 1) (fun _ _ => rfl) (fun _ _ => rfl)) (pa_cons (pv 5) pa_nil)) pa_nil)))) (pg_name (i := 6) sc__law_right.nd rfl (by first | exact Or.inl rfl | exact Or.inr rfl)) (pss_cons (ps_if (pt_cmpR (op_neU (K := c.K) hu) (pe_f D__law_marks (hr.mono (by decide)) (by rfl) (pa_cons (pv 6) pa_nil)) (pe_lc (own := [("_law_spot", 7)]) rfl sc__law_right.nd (pi_range1 (by rfl) B.range (pa_cons (pe_callB (call_lenU (K := c.K)) (by rfl) B.len (by decide +kernel) (pa_cons (pv 2) pa_nil)) pa_nil)) (blkOk_by (N := N__law_right) (sc := defScope s__law_right) (by decide +kernel)) (fun _ _ _ _ _ => (pg_name (i := 7) sc__law_right.nd rfl (by first | exact Or.inl rfl | exact Or.inr rfl))) (fun _ _ _ _ _ => pts_nil) (fun _ _ _ _ _ => (pe_cmpR (op_eqU (K := c.K) hu) (pv 7) (pv 1) (nomark _)))) (nomark _)) (pss_one (ps_ret pe_bl)) pss_nil)
    (pss_cons (ps_if (pt_cmpR (op_neU (K := c.K) hu) (pe_callB (call_reprX (M := M) hG) (by rfl) B.repr (by decide +kernel) (pa_cons (pe_xv (K := c.K) (pv 6)) pa_nil)) (pe_callB (call_reprX (M := M) hG) (by rfl) B.repr (by decide +kernel) (pa_cons (pv 5) pa_nil)) (nomark _)) (pss_one (ps_ret pe_bl)) pss_nil)
    (pss_one (ps_if (PW.pt (pw_or (pt_not (pt_val (pe_callB call_isX (by rfl) B.isinstance (by decide +kernel) (pa_cons (pv 6) (pa_cons (pe_glob (v := V.ref _) rfl CL_SeldomError rfl) pa_nil))))) (pw_or1 (pt_not (pt_val (pe_callB call_isX (by rfl) B.isinstance (by decide +kernel) (pa_cons (pv 6) (pa_cons (pe_ty "ValueError" "ValueError" (by rfl) ES.val (by decide +kernel)) pa_nil)))))))) (pss_one (ps_ret pe_bl)) pss_nil))))))))))
    (pss_one (ps_ret pe_bl)))), ?_⟩
    refine ⟨rfl, hT1, fun l1 fs1 H1 hl1 g1 t1 e1 n1 a1 => ?_⟩
    have hT2' : TabS H1 P2 qNamed := tabGo hT2 g1 (by simpa using hne.symm) (tabPlain hT1)
    refine ⟨rfl, hT2', fun l2 fs2 H2 hl2 g2 t2 e2 n2 a2 => ?_⟩
    have t1' : TabS H2 P1 qMakers := tabGo t1 g2 (by simpa using hne) (tabPlain hT2')
    have hp2 : Pot H2 p 0 := potGo (potGo hp g1 hT1) g2 hT2'
    have e1' : H2 l1 = some (.lst fs1) := g2.old l1 _ (fun z => by
      obtain ⟨ps, z1, _⟩ := hT2'
      rw [List.mem_singleton.mp z, z1] at e1
      cases e1) e1
    have a1' : ∀ (i : Nat) (v : V) (x : Str), fs1[i]? = some v → errNames[i]? = some x → LamAt qMakers x v H2 := fun i v x h3 h4 => (a1 i v x h3 h4).go g2 (tabPlain hT2')
    have g02 : Go [p, P1, P2] H H2 := (g1.mono (by simp)).trans (g2.mono (by simp))
    have np : ∀ {l : Addr} {fs : List V}, H2 l = some (.lst fs) → fs.length = 30 → l ∉ [p] := fun {l fs} z1 z2 z => by
      obtain ⟨x, b, k, h1, _⟩ := hp2
      rw [List.mem_singleton.mp z, h1] at z1
      cases z1
      cases z2
    refine ⟨_, _, rfl, ?_⟩
    refine ⟨_, rfl, r_nil (r_lenL (SqL.of e1') (r_nil ⟨_, rfl, by omega, by omega, for_range (lo := 0) (n := ((fs1.length : Nat) : Int).toNat)
      (fun i σ H' => ∃ (o1 o4 o5 o6 o7 : Option V), σ = [some (.ref p), o1, some (.ref l1), some (.ref l2), o4, o5, o6, o7] ∧ Go [p] H2 H' ∧ Pot H' p (80 * i)) ⟨_, _, _, _, _, rfl, Go.refl _ _, hp2⟩ ?_ ?_⟩))⟩
    · rintro i σ H3 hi ⟨o1, o4, o5, o6, o7, rfl, g3, hp3⟩
      have hi30 : i < 30 := by omega
      obtain ⟨x, hx⟩ : ∃ x, errNames[i]? = some x := ⟨_, List.getElem?_eq_getElem (show i < errNames.length from hi30)⟩
      refine ⟨4, rfl, by decide, by decide, for_range (lo := 0) (n := (4 : Int).toNat)
        (fun j σ H' => ∃ (o4 o5 o6 o7 : Option V), σ = [some (.ref p), some (.int (i : Int)), some (.ref l1), some (.ref l2), o4, o5, o6, o7] ∧ Go [p] H2 H' ∧ Pot H' p (80 * i + 20 * j)) ⟨_, _, _, _, by simp; exact ⟨rfl, rfl, rfl, rfl⟩, g3, hp3⟩ ?_ ?_⟩
      · rintro j σ H4 hj ⟨o4, o5, o6, o7, rfl, g4, hp4⟩
        have hj4 : j < 4 := by simpa using hj
        refine ⟨_, rfl, p, 80 * i + 20 * j, [p], rfl, hp4, by omega, by simp, (fun a ha z => by
          obtain ⟨y, b, k, h1, _⟩ := hp4
          rw [List.mem_singleton.mp ha, h1] at z
          cases z), fun v d H5 g5 hp5 rv sz => ?_⟩
        have g25 : Go [p] H2 H5 := g4.trans g5
        obtain ⟨v1, hv1⟩ : ∃ v, fs1[i]? = some v := ⟨_, List.getElem?_eq_getElem (by omega)⟩
        obtain ⟨v2, hv2⟩ : ∃ v, fs2[i]? = some v := ⟨_, List.getElem?_eq_getElem (by omega)⟩
        have m1 : LamAt qMakers x v1 H5 := (a1' i v1 x hv1 hx).go g25 (potPlain hp2)
        have m2 : LamAt qNamed x v2 H5 := (a2 i v2 x hv2 hx).go g25 (potPlain hp2)
        have E1 : H5 l1 = some (.lst fs1) := g25.old l1 _ (np e1' n1) e1'
        have E2 : H5 l2 = some (.lst fs2) := g25.old l2 _ (np e2 n2) e2
        refine .inl (.inr ?_)
        obtain ⟨f1, c1, pa1, bd1, rfl, L1, C1, K1⟩ := lamAt_ok ES J hx m1
        obtain ⟨f2, c2, pa2, bd2, rfl, L2', C2, K2⟩ := lamAt_ok ES J hx m2
        refine .inl ⟨_, rfl, _, rfl, ixL (i := i) E1 hv1 ⟨f1, c1, _, _, _, _, spLam (clAt c.K x), rfl, L1, _, rfl, L1, C1, K1, v, rfl, fun b1 dx1 H6 hb1 hdx1 g6 eb1 ed1 => ?_⟩⟩
        refine .inl ⟨_, rfl, _, rfl, ixL (i := i) (g6.old _ _ (by simp) E2) hv2 ⟨f2, c2, _, _, _, _, spLam (clAt c.K x), rfl, g6.old _ _ (by simp) L2', _, rfl, g6.old _ _ (by simp) L2', g6.old _ _ (by simp) C2, K2, v, rfl, fun b2 dx2 H7 hb2 hdx2 g7 eb2 ed2 => ?_⟩⟩
        refine r_nil ⟨by show 2 ≤ sizeLine; decide, fun t ht => ?_⟩
        have g8 : Go [] H7 (upd H7 t (.tup [.ref b1, .ref b2])) := Go.new ht
        have e8 : (upd H7 t (.tup [.ref b1, .ref b2])) t = some (.tup [.ref b1, .ref b2]) := upd_same
        generalize upd H7 t (.tup [.ref b1, .ref b2]) = H8 at g8 e8
        have g58 : Go [] H5 H8 := (g6.trans g7).trans g8
        have hE : ∀ (k : Nat) (y : V), [V.ref b1, V.ref b2][k]? = some y → ∃ b dx, y = .ref b ∧ ErrAt (clAt c.K x) b dx [("value", v)] H8 := by
          intro k y hk
          rcases k with _ | _ | k
          · cases hk
            exact ⟨b1, dx1, rfl, (g7.trans g8).old _ _ (by simp) eb1, (g7.trans g8).old _ _ (by simp) ed1⟩
          · cases hk
            exact ⟨b2, dx2, rfl, g8.old _ _ (by simp) eb2, g8.old _ _ (by simp) ed2⟩
          · simp at hk
        refine ⟨t, rfl, ⟨_, .inl (.inl e8)⟩, for_tup (xs := [.ref b1, .ref b2]) (fun k σ H' => ∃ (o6 o7 : Option V), σ = [some (.ref p), some (.int (i : Int)), some (.ref l1), some (.ref l2), some (.int (j : Int)), some v, o6, o7] ∧ Go [] H8 H') ⟨_, _, by simp; exact ⟨rfl, rfl⟩, Go.refl _ _⟩ (fun k σ H' _ ⟨_, _, _, g⟩ => .inl (.inl (g.old _ _ (by simp) e8))) ?_ ?_⟩
        · rintro k y σ H9 hk ⟨o6, o7, rfl, g9⟩
          obtain ⟨b, dx, rfl, hEb⟩ := hE k y hk
          have hE9 : ErrAt (clAt c.K x) b dx [("value", v)] H9 := ⟨g9.old _ _ (by simp) hEb.1, g9.old _ _ (by simp) hEb.2⟩
          refine ⟨_, rfl, b, dx, i, x, _, rfl, hx, hE9, fun lm H10 hlm g10 e10 => ?_⟩
          have E10 : H10 l1 = some (.lst fs1) := g10.old _ _ (by simp) (g9.old _ _ (by simp) (g58.old _ _ (by simp) E1))
          refine ⟨_, rfl, r_nil (r_lenL (SqL.of E10) (r_nil ⟨_, rfl, by omega, by omega, fun D hD => lc_map walk_range [] (fun _ _ => True) (fun k y _ => y = .bl (decide (k = i))) yk_fn (by omega) hD (fun _ h => nomatch h) (fun _ _ => trivial) trivial (fun _ _ _ _ _ => trivial) (fun _ _ _ _ _ _ h => h) ?_ ?_⟩))⟩
          · rintro k' y Ha Hb Fin hk' ga gy _ ⟨rfl, rfl⟩ fin
            refine ⟨rfl, _, rfl, _, rfl, .inl ⟨rfl, fin _ _ (Go.refl _ _) trivial ?_⟩⟩
            congr 1
            rw [decide_eq_decide]
            constructor
            · intro z
              have := V.int.inj z
              omega
            · intro z
              subst z
              simp
          · intro Hc ys gc _ hDc hl hr'
            have ey : ys = marksV i := by
              have := list_of_fn (f := fun k => V.bl (decide (k = i))) hl hr'
              rw [this]
              unfold marksV
              rw [n1]
              rfl
            subst ey
            have hmi := marksD_ok ⟨i, hi30⟩
            refine .inr ⟨marksD i, marksD i, marks_dp (gc.old _ _ (by simp) e10), marks_dp hDc, hmi.1, hmi.1, _, rfl, ?_⟩
            rw [hmi.2]
            refine (if_neg (by decide)).mpr ?_
            have g5c : Go [] H5 Hc := ((g58.trans g9).trans g10).trans gc
            have rvc : Rp [p] Hc d v := Rp.go g5c.wide d v rv
            have hEc : ErrAt (clAt c.K x) b dx [("value", v)] Hc := ⟨(g10.trans gc).old _ _ (by simp) hE9.1, (g10.trans gc).old _ _ (by simp) hE9.2⟩
            have T := (ES.at_ i x hx).2
            have hln : d.shown.length ≤ sizeLine := Nat.le_trans sz.ln (by decide)
            have hdp : (A.deeper (envOfC "_law_right" (defScope s__law_right) s.heap.objs.size f cdv)).units + (d.depth + 1) < cLine := by
              have := sz.dp
              omega
            refine ⟨_, rfl, b, _, dx, _, v, rfl, T.xf, T.noV, hEc.1, hEc.2, by simp [List.lookup], r_nil ⟨v, d, rfl, rvc, sz.sh, hln, hdp, _, rfl, r_nil ⟨v, d, rfl, rvc, sz.sh, hln, hdp, .inl ⟨rfl, _, rfl, ?_⟩⟩⟩⟩
            refine (if_neg (by simp)).mpr ?_
            refine ⟨_, rfl, b, _, dx, _, .ref _, .ref _, true, rfl, T.exc, .own _, hEc.1, hEc.2, (ES.top i x hx).1, true, rfl, ?_⟩
            refine (if_neg (by decide)).mpr ?_
            refine ⟨_, rfl, b, _, dx, _, .ty _, .type _, true, rfl, T.exc, .ty _, hEc.1, hEc.2, (ES.top i x hx).2, true, rfl, ?_⟩
            refine (if_neg (by decide)).mpr ?_
            exact ⟨_, _, rfl, (g9.trans g10).trans gc⟩
        · rintro σ H9 ⟨o6, o7, rfl, g9⟩
          exact ⟨_, _, _, _, rfl, g25.trans (g58.trans g9).wide, ((hp5.go g58).go g9).up (by omega)⟩
      · rintro σ H9 ⟨o4, o5, o6, o7, rfl, g9, hp9⟩
        exact ⟨_, _, _, _, _, rfl, g9, hp9.up (by simp; omega)⟩
    · rintro σ H9 ⟨o1, o4, o5, o6, o7, rfl, g9, hp9⟩
      refine q H9 (g02.trans (g9.mono (by simp))) (tabGo t1' g9 ?_ (potPlain hp2)) (tabGo t2 g9 ?_ (potPlain hp2))
      · intro z
        obtain ⟨y, b, k, h1, _⟩ := hp2
        obtain ⟨ps, z1, _⟩ := t1'
        rw [List.mem_singleton.mp z, h1] at z1
        cases z1
      · intro z
        obtain ⟨y, b, k, h1, _⟩ := hp2
        obtain ⟨ps, z1, _⟩ := t2
        rw [List.mem_singleton.mp z, h1] at z1
        cases z1
end
end Sd
namespace Sd
open PySem PySem.Spec PyProof.Rows L2 LamX

def spLaw (c : Wd) (P1 P2 : Addr) : Sp := fun vs H Q _ => ∃ (a : Addr) (ns : List Int), vs = [.ref a] ∧ SqL c.K H a (ns.map V.int) ∧ ns.length ≤ 63 ∧ (∀ z ∈ ns, Builtin.Int.intBits z ≤ 1048576) ∧ TabS H P1 qMakers ∧ TabS H P2 qNamed ∧ P1 ≠ P2 ∧ ∀ H', Q (.bl true) H'
theorem sqL_go {K : PySem.W.Frag} {H H' : Hp} {a : Addr} {xs : List V} {M : List Addr} (h : SqL K H a xs) (g : Go M H H') (hM : ∀ b ∈ M, ∃ ps, H b = some (.tbl ps)) : SqL K H' a xs := by
  rcases h with (h | ⟨o, h⟩) | h
  · refine .inl (.inl (g.old a _ (fun z => ?_) h))
    obtain ⟨ps, e⟩ := hM a z
    rw [h] at e
    cases e
  · exact .inl (.inr ⟨o, g.fix a _ rfl h⟩)
  · exact .inr h
theorem FnG.ofF {c : Wd} {x qual : Str} {st : Stmt} {N ps : List Str} {k : Nat} {sp : Sp} {f : Addr} {fd : FuncData} (F : Fun c.K x qual st f fd) (S : FnScope N ps (defScope st)) (len : ∀ vs H Q E, sp vs H Q E → vs.length = ps.length)
    (h : ∀ (f : Addr) (cdv : Value) (A : Around) (out : List Env) (s : Shared) (H : Hp) (vs : List V) (Q : VK) (E : XK), A.guards = some [] → Room k (A.deeper (envOfC qual (defScope st) s.heap.objs.size f cdv)) → sp vs H Q E →
      ∃ t, PSs (cxN c N qual st f cdv A out s H E).nox (defBody st) t ∧ t { nx := fun _ H' => Q .non H', rt := Q } (start N vs) H) : FnG c.P c.w c.K c.mg c.base (L2.CX c.P c.w) (k + 1) f fd ps sp :=
  Fun.okG F S len fun cdv A out s H vs Q E hG hr q => by
    obtain ⟨t, a, b⟩ := h f cdv A out s H vs Q E hG hr q
    exact ⟨t, a.nox, b⟩
section
variable {c : Wd} {P1 P2 : Addr} {fl : Addr} {fdl : FuncData}
abbrev s_law : Stmt := topS 41
abbrev N_law : List Str := ["_law_script", "_law_k"]
abbrev P_law : List Str := ["_law_script"]
theorem sc_law : FnScope N_law P_law (defScope s_law) := ⟨rfl, rfl, rfl, by decide +kernel, rfl, by decide +kernel, by decide +kernel⟩
theorem ok_law (F : Fun c.K "law" "law" s_law fl fdl) (B : Bi c) (D__law_pot_of : Ok c "_law_pot_of" 1 P__law_pot_of (spPotOf c)) (D__law_right : OkG c "_law_right" 4 P__law_right (spRight c P1 P2)) : FnG c.P c.w c.K c.mg c.base (L2.CX c.P c.w) 5 fl fdl P_law (spLaw c P1 P2) := by
  refine FnG.ofF F sc_law (fun vs H Q E h => ?_) (fun f cdv A out s H vs Q E hG hr h => ?_)
  · obtain ⟨a, ns, rfl, _⟩ := h
    rfl
  · obtain ⟨a, ns, rfl, hS, hl, hb, hT1, hT2, hne, q⟩ := h
    have hu1 := hu_of hr
    have hu := hr.units
    refine ⟨_, (pss_cons (ps_for PassesOwn.never rfl (pi_range1 (by rfl) B.range (pa_cons (pe_callB (call_max2 rfl) (by rfl) B.max (by decide +kernel) (pa_cons pe_int (pa_cons (pe_callB (call_min2 rfl) (by rfl) B.min (by decide +kernel) (pa_cons pe_int (pa_cons (pe_callB (call_lenU (K := c.K)) (by rfl) B.len (by decide +kernel) (pa_cons (pv 0) pa_nil)) pa_nil))) pa_nil))) pa_nil)) (pg_name (i := 1) sc_law.nd rfl (by first | exact Or.inl rfl | exact Or.inr rfl)) (pss_one (ps_if (pt_not (pt_val (pe_fG D__law_right hG (hr.mono (by decide)) (by rfl) (pa_cons (pe_f D__law_pot_of (hr.mono (by decide)) (by rfl) (pa_cons (pv 0) (pa_cons (pv 1) pa_nil))) pa_nil)))) (pss_one (ps_ret pe_bl)) pss_nil)))
    (pss_one (ps_ret pe_bl))), ?_⟩
    have hPl : ∀ b ∈ [P1, P2], ∃ ps, H b = some (.tbl ps) := fun b hb => by
      rcases List.mem_cons.mp hb with z | z
      · obtain ⟨ps, z1, _⟩ := hT1
        exact ⟨ps, z ▸ z1⟩
      · obtain ⟨ps, z1, _⟩ := hT2
        exact ⟨ps, (List.mem_singleton.mp z) ▸ z1⟩
    refine ⟨_, rfl, r_nil (r_lenL hS (r_nil ⟨3, _, rfl, r_nil ⟨1, _, rfl, r_nil ⟨_, rfl, ?_⟩⟩⟩))⟩
    generalize hm : (if (if ((List.map V.int ns).length : Int) < 3 then ((List.map V.int ns).length : Int) else 3) > 1 then (if ((List.map V.int ns).length : Int) < 3 then ((List.map V.int ns).length : Int) else 3) else 1) = m
    have hm0 : 1 ≤ m ∧ m ≤ 3 := by
      rw [← hm]
      split <;> split <;> omega
    refine ⟨by omega, by omega, for_range (lo := 0) (n := m.toNat) (fun k σ H' => ∃ o1 : Option V, σ = [some (.ref a), o1] ∧ Go [P1, P2] H H' ∧ TabS H' P1 qMakers ∧ TabS H' P2 qNamed) ⟨_, rfl, Go.refl _ _, hT1, hT2⟩ ?_ ?_⟩
    · rintro k σ H1 hk ⟨o1, rfl, g1, t1, t2⟩
      refine ⟨_, rfl, _, rfl, a, ns, k, by simp, sqL_go hS g1 hPl, hl, hb, by omega, fun p H2 hp g2 hp2 => ?_⟩
      have t1' : TabS H2 P1 qMakers := t1.ext fun b o e => g2.old b o (by simp) e
      have t2' : TabS H2 P2 qNamed := t2.ext fun b o e => g2.old b o (by simp) e
      refine ⟨p, rfl, hp2, t1', t2', hne, fun H3 g3 t31 t32 => ⟨true, rfl, ?_⟩⟩
      refine (if_neg (by decide)).mpr ?_
      refine ⟨_, rfl, g1.trans ⟨fun b o hb e => ?_, fun b o hb e => g3.fix b o hb (g2.fix b o hb e)⟩, t31, t32⟩
      refine g3.old b o (fun z => ?_) (g2.old b o (by simp) e)
      rcases List.mem_cons.mp z with z | z
      · rw [z, hp] at e
        cases e
      · exact hb z
    · rintro σ H1 ⟨o1, rfl, g1, t1, t2⟩
      exact q H1
end
end Sd
namespace Sd
open PySem PySem.Spec PyProof.Rows L2 LamX

/-- a def of the text as it stands in what is written -/
structure Fact (K : PySem.W.Frag) (x qual : Str) (st : Stmt) (ps : List Str) (f : Addr) (fd : FuncData) : Prop where
  at_ : PySem.W.nsIn K mainGlobals x = some (some (.ref f))
  fn : Fun K x qual st f fd
  bi : ∀ us : List Value, us.length = ps.length → bindArgs fd ⟨us, []⟩ = pure (ps.zip us)
theorem Fact.at {c : Wd} {h : Heap} {x qual : Str} {st : Stmt} {ps : List Str} {f : Addr} {fd : FuncData} (F : Fact c.K x qual st ps f fd) (X : c.K.In h) (G : h.Ns mainGlobals c.mg) : At c x qual st ps := ⟨f, fd, PySem.W.mg_of X G F.at_, F.fn, Binds.all F.bi⟩
theorem fact_mk {K : PySem.W.Frag} {x : Str} {st : Stmt} {ps : List Str} {f : Addr} {oc kV dc pm cd ct : Value} {od an : Option Addr} {sl : Array (Option Value)}
    (a : PySem.W.nsIn K mainGlobals x = some (some (.ref f))) (l : K.lookup f = some ⟨oc, od, .func (PySem.W.fnOf x x (defArgs st) (defBody st) (defScope st) .none kV dc pm an cd ct), sl⟩) (c : PySem.W.codeIn K cd x = true) (k : PySem.W.keepIn K (.ref f) = true)
    (hb : ∀ us : List Value, us.length = ps.length → bindArgs (PySem.W.fnOf x x (defArgs st) (defBody st) (defScope st) .none kV dc pm an cd ct) ⟨us, []⟩ = pure (ps.zip us)) : ∃ f fd, Fact K x x st ps f fd :=
  ⟨f, _, a, fun_mk l c k, hb⟩
/-- a def whose code object has its table at P -/
structure FactC (K : PySem.W.Frag) (x : Str) (st : Stmt) (f cc P : Addr) (fd : FuncData) : Prop where
  at_ : PySem.W.nsIn K mainGlobals x = some (some (.ref f))
  fn : FunC K x x st f fd cc
  bi : Binds K fd [] []
  lk : ∃ oc od sl, K.lookup f = some ⟨oc, od, .func fd, sl⟩
  cd : fd.code = .ref cc
  co : ∃ e dd vs sl, K.lookup cc = some ⟨e, dd, .fields vs, sl⟩ ∧ vs[11]? = some (.ref P)
  no : K.lookup P = none
theorem FactC.at {c : Wd} {h : Heap} {x : Str} {st : Stmt} {f cc P : Addr} {fd : FuncData} (F : FactC c.K x st f cc P fd) (X : c.K.In h) (G : h.Ns mainGlobals c.mg) : AtC c x x st [] cc := ⟨f, fd, PySem.W.mg_of X G F.at_, F.fn, F.bi⟩
theorem factC_mk {K : PySem.W.Frag} {x : Str} {st : Stmt} {f cc P : Addr} {oc kV dc pm ct e : Value} {od an dd : Option Addr} {sl sl2 : Array (Option Value)} {vs : Array Value}
    (a : PySem.W.nsIn K mainGlobals x = some (some (.ref f))) (l : K.lookup f = some ⟨oc, od, .func (PySem.W.fnOf x x (defArgs st) (defBody st) (defScope st) .none kV dc pm an (.ref cc) ct), sl⟩) (c : PySem.W.codeIn K (.ref cc) x = true) (k : PySem.W.keepIn K (.ref f) = true)
    (hb : ∀ us : List Value, us.length = ([] : List Str).length → bindArgs (PySem.W.fnOf x x (defArgs st) (defBody st) (defScope st) .none kV dc pm an (.ref cc) ct) ⟨us, []⟩ = pure (([] : List Str).zip us))
    (lc : K.lookup cc = some ⟨e, dd, .fields vs, sl2⟩) (hP : vs[11]? = some (.ref P)) (nP : K.lookup P = none) : ∃ f cc P fd, FactC K x st f cc P fd :=
  ⟨f, cc, P, _, a, ⟨⟨oc, od, kV, dc, pm, an, ct, sl, rfl, l, c⟩, k⟩, Binds.all hb, ⟨_, _, _, l⟩, rfl, ⟨_, _, _, _, lc, hP⟩, nP⟩
/-- the init of the errors -/
structure FactI (K : PySem.W.Frag) (fI : Addr) (fd : FuncData) : Prop where
  fn : Fun K "__init__" "SeldomError.__init__" s_SeldomError___init__ fI fd
  ty : PySem.W.typeIn K (.ref fI) = some (.type "function")
  b1 : ∀ us : List Value, us.length = 2 → bindArgs fd ⟨us, []⟩ = pure ((["self", "value"] : List Str).zip us)
  b2 : ∀ u v : Value, bindArgs fd ⟨[u], [("value", v)]⟩ = pure ((["self", "value"] : List Str).zip [u, v])
theorem factI_mk {K : PySem.W.Frag} {fI : Addr} {oc kV dc pm cd ct : Value} {od an : Option Addr} {sl : Array (Option Value)}
    (l : K.lookup fI = some ⟨oc, od, .func (PySem.W.fnOf "__init__" "SeldomError.__init__" (defArgs s_SeldomError___init__) (defBody s_SeldomError___init__) (defScope s_SeldomError___init__) .none kV dc pm an cd ct), sl⟩) (c : PySem.W.codeIn K cd "SeldomError.__init__" = true) (k : PySem.W.keepIn K (.ref fI) = true)
    (t : PySem.W.typeIn K (.ref fI) = some (.type "function")) : ∃ fd, FactI K fI fd :=
  ⟨_, fun_mk l c k, t, fun us h => (match us, h with | [_, _], _ => rfl), fun u v => rfl⟩
def bltNames : List Str := ["len", "isinstance", "all", "sum", "list", "tuple", "int", "bool", "str", "abs", "min", "max", "sorted", "repr", "set", "range", "zip", "enumerate", "reversed", "ValueError"]
def bltB (K : PySem.W.Frag) : Bool := bltNames.all fun x => decide (PySem.W.nsIn K mainGlobals x = some none)
/-- all that is asked of what is written -/
structure Txt (K : PySem.W.Frag) (fI : Addr) (P1 P2 : Addr) (cc1 cc2 : Addr) (fdl : FuncData) (fl : Addr) : Prop where
  d_law_take : ∃ f fd, Fact K "_law_take" "_law_take" s__law_take P__law_take f fd
  d_law_of : ∃ f fd, Fact K "_law_of" "_law_of" s__law_of P__law_of f fd
  d_law_odd : ∃ f fd, Fact K "_law_odd" "_law_odd" s__law_odd P__law_odd f fd
  d_law_pot_of : ∃ f fd, Fact K "_law_pot_of" "_law_pot_of" s__law_pot_of P__law_pot_of f fd
  d_law_marks : ∃ f fd, Fact K "_law_marks" "_law_marks" s__law_marks P__law_marks f fd
  d_law_right : ∃ f fd, Fact K "_law_right" "_law_right" s__law_right P__law_right f fd
  dlaw : Fact K "law" "law" s_law P_law fl fdl
  d_law_makers : ∃ f fd, FactC K "_law_makers" s__law_makers f cc1 P1 fd
  d_law_named : ∃ f fd, FactC K "_law_named" s__law_named f cc2 P2 fd
  ini : ∃ fd, FactI K fI fd
  all : allB K fI = true
  mat : matB K = true
  top : topB K = true
  sel : nmB K "SeldomError" = true
  gt : PySem.W.specialIn K (.builtin "object.__class__") "__get__" = some (some (.builtin "getset_descriptor.__get__"))
  tk : PySem.W.takesIn K (.builtin "object.__class__") = some true
  blt : bltB K = true
  ne : P1 ≠ P2
theorem bi_of {c : Wd} {h : Heap} (X : c.K.In h) (G : h.Ns mainGlobals c.mg) (hb : bltB c.K = true) : Bi c ∧ c.mg "ValueError" = none := by
  have k : ∀ x ∈ bltNames, c.mg x = none := fun x hx => PySem.W.mg_none_of X G (of_decide_eq_true (List.all_eq_true.mp hb x hx))
  refine ⟨?_, k _ (by decide +kernel)⟩
  constructor <;> exact k _ (by decide +kernel)
theorem law75 {P : Program} {w : World} {K : PySem.W.Frag} {mg : Str → Option Value} {base : Heap} {fI P1 P2 cc1 cc2 fl : Addr} {fdl : FuncData} (T : Txt K fI P1 P2 cc1 cc2 fdl fl) (X : K.In base) (G : base.Ns mainGlobals mg) (TB : ∀ p ∈ [(cc1, P1), (cc2, P2)], TabB base mg p.1 p.2) :
    FnG P w K mg base (L2.CX P w) 5 fl fdl P_law (spLaw ⟨P, w, K, mg, base⟩ P1 P2) := by
  let c : Wd := ⟨P, w, K, mg, base⟩
  have X' : c.K.In base := X
  have G' : base.Ns mainGlobals c.mg := G
  obtain ⟨B, hV⟩ := bi_of (c := c) X' G' T.blt
  have ES : Es c fI := es_of X' G' T.all T.mat T.top T.gt T.tk T.sel hV
  obtain ⟨fdI, FI⟩ := T.ini
  have J : Ini c fI fdI := ⟨ok_init FI.fn, FI.ty, fun s a us h => .of_eq (FI.b1 _ (by simpa using h)), fun s a ws h => by
    match ws, h with
    | [v], _ => exact .of_eq (FI.b2 _ v)⟩
  obtain ⟨_, _, F1⟩ := T.d_law_take
  obtain ⟨_, _, F2⟩ := T.d_law_of
  obtain ⟨_, _, F3⟩ := T.d_law_odd
  obtain ⟨_, _, F4⟩ := T.d_law_pot_of
  obtain ⟨_, _, F5⟩ := T.d_law_marks
  obtain ⟨_, _, F6⟩ := T.d_law_right
  obtain ⟨_, _, F7⟩ := T.d_law_makers
  obtain ⟨_, _, F8⟩ := T.d_law_named
  have D1 := ok_take (c := c) (Fact.at (c := c) F1 X' G') B
  have D2 := ok_of (c := c) (Fact.at (c := c) F2 X' G') B D1
  have D3 := ok_odd (c := c) (Fact.at (c := c) F3 X' G') B D2
  have D4 := ok_pot_of (c := c) (Fact.at (c := c) F4 X' G') B
  have D5 := ok_marks (c := c) (Fact.at (c := c) F5 X' G') B ES
  have D7 := ok_makers (c := c) (FactC.at (c := c) F7 X' G') (TB (cc1, P1) (by simp))
  have D8 := ok_named (c := c) (FactC.at (c := c) F8 X' G') (TB (cc2, P2) (by simp))
  have D6 := ok_right (c := c) (Fact.at (c := c) F6 X' G') B ES J D7 D8 D3 D5
  exact ok_law (c := c) T.dlaw.fn B D4 D6
theorem walk75 {l : PySem.W.OpenLaw} {q : Program} {loose : List Str} {XP : (Str → Option Value) → Heap → Prop} {YP : World → Heap → Prop} {d : DefRec} {K : Params → PySem.W.Frag} (hn : l.most = some 63) (hdf : d.params.defaults = []) (hd : d.name = "law")
    (r1 : ((recsOf q).any fun e => e.name == "_law_makers") = true) (r2 : ((recsOf q).any fun e => e.name == "_law_named") = true) (hY : ∀ (w : World) (h : Heap), YP w h → (K w.params).In h)
    (F : ∀ w : World, ∃ fI P1 P2 cc1 cc2 fdl fl, Txt (K w.params) fI P1 P2 cc1 cc2 fdl fl) : PySem.W.WalkO q loose XP YP l.row.toRowW d [] (fun f vs => PySem.call f vs) := by
  refine Att.attach_callB hn hdf fun w s₀ s₁ mg mb fa o pm cd doc a vs ns G Y ho hd' hcd hmg hobj hints hlen hbits hg => ?_
  have KX := hY w _ Y
  obtain ⟨fI, P1, P2, cc1, cc2, fdl, fl, T⟩ := F w
  have tabOf : ∀ {x : Str} {st : Stmt} {cc P : Addr}, ((recsOf q).any fun e => e.name == x) = true → (∃ f fd, FactC (K w.params) x st f cc P fd) → s₁.heap.get? P = some (PySem.W.tabObj #[]) ∧ PySem.W.CodeHd s₁.heap cc P := by
    rintro x st cc P hrec ⟨f, fd, FC⟩
    obtain ⟨dL, hm, hn1⟩ := List.any_eq_true.mp hrec
    have hn2 : dL.name = x := beq_iff_eq.mp hn1
    obtain ⟨a', o', fd', c', P', h1, h2, h3, h4, h5, h6⟩ := G.T.tab dL hm
    rw [hn2, PySem.W.mg_of KX G.T.g FC.at_] at h1
    cases h1
    obtain ⟨oc, od, sl, lk⟩ := FC.lk
    rw [KX _ _ lk] at h2
    cases h2
    cases h3
    rw [FC.cd] at h4
    cases h4
    obtain ⟨e, dd, us, sl2, lc, hP⟩ := FC.co
    have h6' := h6
    obtain ⟨⟨oo, us', z1, z2, z3, z4⟩, z5⟩ := h6'
    rw [KX _ _ lc] at z1
    cases z1
    cases z3
    rw [hP] at z4
    cases z4
    exact ⟨z5, PySem.W.CodeHd.of h5 h6⟩
  have t1 := tabOf r1 T.d_law_makers
  have t2 := tabOf r2 T.d_law_named
  have two : ∀ {p : Addr × Addr}, p ∈ [(cc1, P1), (cc2, P2)] → p = (cc1, P1) ∨ p = (cc2, P2) := fun {p} hp => by simpa using hp
  have n1 : (K w.params).lookup P1 = none := by
    obtain ⟨_, _, FC⟩ := T.d_law_makers
    exact FC.no
  have n2 : (K w.params).lookup P2 = none := by
    obtain ⟨_, _, FC⟩ := T.d_law_named
    exact FC.no
  have hfa : fa = fl := by
    rw [hd, PySem.W.mg_of KX G.T.g T.dlaw.at_] at hmg
    cases hmg
    rfl
  subst hfa
  refine law_callGT (cs := [(cc1, P1), (cc2, P2)]) (k := 5) (x := "_law_script") (sp := fun vs H Q E => spLaw ⟨l.prog, w, K w.params, mg, s₁.heap⟩ P1 P2 vs H Q E) KX G.T.g G.T.b G.T.builtins G.T.nolimit hg (fun p hp => ?_) (fun p hp => ?_) (fun p hp => ?_) G.T.bmain hobj hints (Nat.le_trans hlen (by decide)) ⟨rfl, by decide, by decide⟩ (fun base Xb Gb TB => law75 T Xb Gb TB) ?_ (fun H hH hS => ?_) fun H e s' z => ?_
  · rcases two hp with z | z <;> rw [z]
    · exact t1.1
    · exact t2.1
  · rcases two hp with z | z <;> rw [z]
    · exact n1
    · exact n2
  · rcases two hp with z | z <;> rw [z]
    · exact t1.2
    · exact t2.2
  · intro s u
    exact .of_eq (T.dlaw.bi [u] rfl)
  · exact ⟨a, ns, rfl, hS, hlen, hbits, TabS.nil (hH (cc1, P1) (by simp)), TabS.nil (hH (cc2, P2) (by simp)), T.ne, fun _ => rfl⟩
  · obtain ⟨_, _, _, _, _, _, _, _, _, _, _, _, y⟩ := z
    exact y.elim
theorem txt_mk {K : PySem.W.Frag} {f1 : Addr} {oc1 kV1 dc1 pm1 cd1 ct1 : Value} {od1 an1 : Option Addr} {sl1 : Array (Option Value)} {f2 : Addr} {oc2 kV2 dc2 pm2 cd2 ct2 : Value} {od2 an2 : Option Addr} {sl2 : Array (Option Value)} {f3 : Addr} {oc3 kV3 dc3 pm3 cd3 ct3 : Value} {od3 an3 : Option Addr} {sl3 : Array (Option Value)} {f4 : Addr} {oc4 kV4 dc4 pm4 cd4 ct4 : Value} {od4 an4 : Option Addr} {sl4 : Array (Option Value)} {f5 : Addr} {oc5 kV5 dc5 pm5 cd5 ct5 : Value} {od5 an5 : Option Addr} {sl5 : Array (Option Value)} {f6 : Addr} {oc6 kV6 dc6 pm6 cd6 ct6 : Value} {od6 an6 : Option Addr} {sl6 : Array (Option Value)} {f7 : Addr} {oc7 kV7 dc7 pm7 cd7 ct7 : Value} {od7 an7 : Option Addr} {sl7 : Array (Option Value)} {f8 cc1 P1 : Addr} {oc8 kV8 dc8 pm8 ct8 e8 : Value} {od8 an8 dd8 : Option Addr} {sl8 sm8 : Array (Option Value)} {vs8 : Array Value} {f9 cc2 P2 : Addr} {oc9 kV9 dc9 pm9 ct9 e9 : Value} {od9 an9 dd9 : Option Addr} {sl9 sm9 : Array (Option Value)} {vs9 : Array Value} {CS fI : Addr} {oc0 kV0 dc0 pm0 cd0 ct0 : Value} {od0 an0 : Option Addr} {sl0 : Array (Option Value)}
    (a1 : PySem.W.nsIn K mainGlobals "_law_take" = some (some (.ref f1))) (l1 : K.lookup f1 = some ⟨oc1, od1, .func (PySem.W.fnOf "_law_take" "_law_take" (defArgs s__law_take) (defBody s__law_take) (defScope s__law_take) .none kV1 dc1 pm1 an1 cd1 ct1), sl1⟩) (c1 : PySem.W.codeIn K cd1 "_law_take" = true) (k1 : PySem.W.keepIn K (.ref f1) = true)
    (a2 : PySem.W.nsIn K mainGlobals "_law_of" = some (some (.ref f2))) (l2 : K.lookup f2 = some ⟨oc2, od2, .func (PySem.W.fnOf "_law_of" "_law_of" (defArgs s__law_of) (defBody s__law_of) (defScope s__law_of) .none kV2 dc2 pm2 an2 cd2 ct2), sl2⟩) (c2 : PySem.W.codeIn K cd2 "_law_of" = true) (k2 : PySem.W.keepIn K (.ref f2) = true)
    (a3 : PySem.W.nsIn K mainGlobals "_law_odd" = some (some (.ref f3))) (l3 : K.lookup f3 = some ⟨oc3, od3, .func (PySem.W.fnOf "_law_odd" "_law_odd" (defArgs s__law_odd) (defBody s__law_odd) (defScope s__law_odd) .none kV3 dc3 pm3 an3 cd3 ct3), sl3⟩) (c3 : PySem.W.codeIn K cd3 "_law_odd" = true) (k3 : PySem.W.keepIn K (.ref f3) = true)
    (a4 : PySem.W.nsIn K mainGlobals "_law_pot_of" = some (some (.ref f4))) (l4 : K.lookup f4 = some ⟨oc4, od4, .func (PySem.W.fnOf "_law_pot_of" "_law_pot_of" (defArgs s__law_pot_of) (defBody s__law_pot_of) (defScope s__law_pot_of) .none kV4 dc4 pm4 an4 cd4 ct4), sl4⟩) (c4 : PySem.W.codeIn K cd4 "_law_pot_of" = true) (k4 : PySem.W.keepIn K (.ref f4) = true)
    (a5 : PySem.W.nsIn K mainGlobals "_law_marks" = some (some (.ref f5))) (l5 : K.lookup f5 = some ⟨oc5, od5, .func (PySem.W.fnOf "_law_marks" "_law_marks" (defArgs s__law_marks) (defBody s__law_marks) (defScope s__law_marks) .none kV5 dc5 pm5 an5 cd5 ct5), sl5⟩) (c5 : PySem.W.codeIn K cd5 "_law_marks" = true) (k5 : PySem.W.keepIn K (.ref f5) = true)
    (a6 : PySem.W.nsIn K mainGlobals "_law_right" = some (some (.ref f6))) (l6 : K.lookup f6 = some ⟨oc6, od6, .func (PySem.W.fnOf "_law_right" "_law_right" (defArgs s__law_right) (defBody s__law_right) (defScope s__law_right) .none kV6 dc6 pm6 an6 cd6 ct6), sl6⟩) (c6 : PySem.W.codeIn K cd6 "_law_right" = true) (k6 : PySem.W.keepIn K (.ref f6) = true)
    (a7 : PySem.W.nsIn K mainGlobals "law" = some (some (.ref f7))) (l7 : K.lookup f7 = some ⟨oc7, od7, .func (PySem.W.fnOf "law" "law" (defArgs s_law) (defBody s_law) (defScope s_law) .none kV7 dc7 pm7 an7 cd7 ct7), sl7⟩) (c7 : PySem.W.codeIn K cd7 "law" = true) (k7 : PySem.W.keepIn K (.ref f7) = true)
    (a8 : PySem.W.nsIn K mainGlobals "_law_makers" = some (some (.ref f8))) (l8 : K.lookup f8 = some ⟨oc8, od8, .func (PySem.W.fnOf "_law_makers" "_law_makers" (defArgs s__law_makers) (defBody s__law_makers) (defScope s__law_makers) .none kV8 dc8 pm8 an8 (.ref cc1) ct8), sl8⟩) (c8 : PySem.W.codeIn K (.ref cc1) "_law_makers" = true) (k8 : PySem.W.keepIn K (.ref f8) = true)
    (q8 : K.lookup cc1 = some ⟨e8, dd8, .fields vs8, sm8⟩) (r8 : vs8[11]? = some (.ref P1)) (n8 : K.lookup P1 = none)
    (a9 : PySem.W.nsIn K mainGlobals "_law_named" = some (some (.ref f9))) (l9 : K.lookup f9 = some ⟨oc9, od9, .func (PySem.W.fnOf "_law_named" "_law_named" (defArgs s__law_named) (defBody s__law_named) (defScope s__law_named) .none kV9 dc9 pm9 an9 (.ref cc2) ct9), sl9⟩) (c9 : PySem.W.codeIn K (.ref cc2) "_law_named" = true) (k9 : PySem.W.keepIn K (.ref f9) = true)
    (q9 : K.lookup cc2 = some ⟨e9, dd9, .fields vs9, sm9⟩) (r9 : vs9[11]? = some (.ref P2)) (n9 : K.lookup P2 = none)
    (a0 : PySem.W.nsIn K mainGlobals "SeldomError" = some (some (.ref CS))) (i0 : PySem.W.findIn K (.ref CS) "__init__" = some (some (.ref fI)))
    (l0 : K.lookup fI = some ⟨oc0, od0, .func (PySem.W.fnOf "__init__" "SeldomError.__init__" (defArgs s_SeldomError___init__) (defBody s_SeldomError___init__) (defScope s_SeldomError___init__) .none kV0 dc0 pm0 an0 cd0 ct0), sl0⟩) (c0 : PySem.W.codeIn K cd0 "SeldomError.__init__" = true) (k0 : PySem.W.keepIn K (.ref fI) = true) (t0 : PySem.W.typeIn K (.ref fI) = some (.type "function"))
    (gt : PySem.W.specialIn K (.builtin "object.__class__") "__get__" = some (some (.builtin "getset_descriptor.__get__"))) (tk : PySem.W.takesIn K (.builtin "object.__class__") = some true)
    (zB : bltB K = true) (zS : nmB K "SeldomError" = true) (zA : allB K fI = true) (zT : topB K = true) (zM : matB K = true) (ne : P1 ≠ P2) :
    ∃ fI P1 P2 cc1 cc2 fdl fl, Txt K fI P1 P2 cc1 cc2 fdl fl := by
  refine ⟨fI, P1, P2, cc1, cc2, PySem.W.fnOf "law" "law" (defArgs s_law) (defBody s_law) (defScope s_law) .none kV7 dc7 pm7 an7 cd7 ct7, f7, ?_⟩
  constructor
  · exact fact_mk a1 l1 c1 k1 fun us h => (match us, h with | [_, _], _ => rfl)
  · exact fact_mk a2 l2 c2 k2 fun us h => (match us, h with | [_, _], _ => rfl)
  · exact fact_mk a3 l3 c3 k3 fun us h => (match us, h with | [_], _ => rfl)
  · exact fact_mk a4 l4 c4 k4 fun us h => (match us, h with | [_, _], _ => rfl)
  · exact fact_mk a5 l5 c5 k5 fun us h => (match us, h with | [_], _ => rfl)
  · exact fact_mk a6 l6 c6 k6 fun us h => (match us, h with | [_], _ => rfl)
  · exact ⟨a7, fun_mk l7 c7 k7, fun us h => (match us, h with | [_], _ => rfl)⟩
  · exact ⟨f8, _, a8, ⟨⟨_, _, _, _, _, _, _, _, rfl, l8, c8⟩, k8⟩, Binds.all fun us h => (match us, h with | [], _ => rfl), ⟨_, _, _, l8⟩, rfl, ⟨_, _, _, _, q8, r8⟩, n8⟩
  · exact ⟨f9, _, a9, ⟨⟨_, _, _, _, _, _, _, _, rfl, l9, c9⟩, k9⟩, Binds.all fun us h => (match us, h with | [], _ => rfl), ⟨_, _, _, l9⟩, rfl, ⟨_, _, _, _, q9, r9⟩, n9⟩
  · exact factI_mk l0 c0 k0 t0
  · exact zA
  · exact zM
  · exact zT
  · exact zS
  · exact gt
  · exact tk
  · exact zB
  · exact ne
end Sd
set_option maxHeartbeats 0
open PySem PySem.W PyProof.Rows
open_top hd75 for PySem.Challenge.rw_seldomseen_k75_errors_with_any_value
open PySem PySem.W PyProof.Rows
theorem PySem.Challenge.cw_seldomseen_k75_errors_with_any_value_holds : PySem.Challenge.rw_seldomseen_k75_errors_with_any_value.Holds := by
  refine hd75 ?_
  k_fill
  refine Sd.walk75 rfl rfl rfl ?r1 ?r2 (fun w h Y => PySem.W.km_in_of Y) ?F
  case r1 => kernel_rfl
  case r2 => kernel_rfl
  case F =>
    intro w
    refine' Sd.txt_mk ?a1 ?l1 ?c1 ?k1 ?a2 ?l2 ?c2 ?k2 ?a3 ?l3 ?c3 ?k3 ?a4 ?l4 ?c4 ?k4 ?a5 ?l5 ?c5 ?k5 ?a6 ?l6 ?c6 ?k6 ?a7 ?l7 ?c7 ?k7 ?a8 ?l8 ?c8 ?k8 ?q8 ?r8 ?n8 ?a9 ?l9 ?c9 ?k9 ?q9 ?r9 ?n9 ?a0 ?i0 ?l0 ?c0 ?k0 ?t0 ?gt ?tk ?zB ?zS ?zA ?zT ?zM ?ne
    (case a1 => k_is)
    (case l1 => k_is)
    (case c1 => k_is)
    (case k1 => k_is)
    (case a2 => k_is)
    (case l2 => k_is)
    (case c2 => k_is)
    (case k2 => k_is)
    (case a3 => k_is)
    (case l3 => k_is)
    (case c3 => k_is)
    (case k3 => k_is)
    (case a4 => k_is)
    (case l4 => k_is)
    (case c4 => k_is)
    (case k4 => k_is)
    (case a5 => k_is)
    (case l5 => k_is)
    (case c5 => k_is)
    (case k5 => k_is)
    (case a6 => k_is)
    (case l6 => k_is)
    (case c6 => k_is)
    (case k6 => k_is)
    (case a7 => k_is)
    (case l7 => k_is)
    (case c7 => k_is)
    (case k7 => k_is)
    (case a8 => k_is)
    (case l8 => k_is)
    (case c8 => k_is)
    (case k8 => k_is)
    (case q8 => k_is)
    (case r8 => rfl)
    (case n8 => kernel_rfl)
    (case a9 => k_is)
    (case l9 => k_is)
    (case c9 => k_is)
    (case k9 => k_is)
    (case q9 => k_is)
    (case r9 => rfl)
    (case n9 => kernel_rfl)
    (case a0 => k_is)
    (case i0 => k_is)
    (case l0 => k_is)
    (case c0 => k_is)
    (case k0 => k_is)
    (case t0 => k_is)
    (case gt => k_is)
    (case tk => k_is)
    (case zB => kernel_rfl)
    (case zS => kernel_rfl)
    (case zA => kernel_rfl)
    (case zT => kernel_rfl)
    (case zM => kernel_rfl)
    (case ne => decide)
