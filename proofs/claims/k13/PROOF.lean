import PyProof.Rows.All
import Wide.All
import OpenK.AllK
import Wide.FinOn
import KE.KStateDown
import HandS.ForExc
import HandS.More
import HandS.Defaults
import HandS.Head0
import HandS.Head1
import HandS.Head2
import HandS.HeadEnd
import HandS.HeadHook1
import HandS.HeadHook2
import HandS.ExcInit
import HandS.ExcValue
import HandS.IsInst
import KE.KExcIs
import HandS.ForMost
import HandS.Walk
import PySem.Challenge.RW_tagless_k13_errors_with_any_value
set_option Elab.async false
set_option linter.all false
set_option maxRecDepth 100000
set_option maxHeartbeats 0
namespace M13
open PySem PySem.Spec PyProof.Rows L2
def top (i : Nat) : Stmt := PySem.Challenge.pw_tagless_k13_errors_with_any_value.main.body.getD i (.Pass ⟨0, 0, 0, 0⟩)
def errsA : List Str := ["NoKind", "NoDocument", "BadBook", "Unnamed", "Ring", "BadForms", "Clash", "NoReading", "BadReading",
  "BadSide", "TooLarge", "NotEither", "BadOrder", "NoOrder", "TooMany", "BadMember", "BadPlace", "BadField"]
def errsB : List Str := ["NoField", "BadDraft", "BadRoad", "BadChanges", "BadOffers", "BadWish", "BadEdition", "BadTruth", "Broken",
  "NotKept", "NoNumber", "Turned", "NothingToUndo", "NothingToRedo", "NoTrial", "BadText", "BadJournal", "BadLine"]
def errs : List Str := errsA ++ errsB
def defsA : List Str := ["TaglessError", "LETTERS", "LONGEST_NAME", "is_name", "sort_of", "inner_parts", "parts_of", "is_document", "size",
  "_law_pot_of", "_law_take", "_law_of", "_law_made", "_law_marks", "_law_thing", "_law_right"]
def looseN : List Str := errsA ++ (errsB ++ defsA)
abbrev sInit : Stmt := match top 1 with
  | .ClassDef (body := b) .. => b.getD 0 (.Pass ⟨0, 0, 0, 0⟩)
  | _ => .Pass ⟨0, 0, 0, 0⟩
def dF (i : Nat) (x : Str) : He.DefD := ⟨(x, none), x, x, defArgs (top i), defBody (top i), defScope (top i), [], []⟩
def fn : List He.DefD := [dF 42 "sort_of", dF 43 "inner_parts", dF 44 "parts_of", dF 45 "is_document", dF 46 "size",
  dF 48 "_law_pot_of", dF 49 "_law_take", dF 50 "_law_of", dF 51 "_law_made", dF 52 "_law_marks", dF 53 "_law_thing", dF 54 "_law_right", dF 55 "law",
  ⟨("TaglessError", some "__init__"), "__init__", "TaglessError.__init__", defArgs sInit, defBody sInit, defScope sInit, [], []⟩]
def freeN : List Str := ["len", "isinstance", "all", "list", "max", "min", "range", "abs", "int", "repr", "enumerate", "bool", "str", "dict", "ValueError"]
def fa : List He.Fa := (fn.take 13).map (fun d => He.Fa.glo d.name) ++ freeN.map He.Fa.free
/-- what is asked of an error's class at C -/
def eqB {α : Type} [DecidableEq α] (a b : α) : Bool := decide (a = b)
def clsB (K : PySem.W.Frag) (C : Addr) : Bool := match K.lookup C with
  | some ⟨.type t, _, .cls cd, sl⟩ => (match cd.mro, sl.toList with
    | .ref C' :: bm, [_, _, _, _, some (.builtin n), _] => eqB t "type" && (C' == C && (n == "ValueError.__new__" && (!cd.hasDel && (cd.hasDict && PySem.HandSPX.refsVE bm))))
    | _, _ => false)
  | _ => false
def fI (K : PySem.W.Frag) : Addr := He.ma K (He.ga K "TaglessError") "__init__"
def errB (K : PySem.W.Frag) (x : Str) : Bool :=
  let C := He.ga K x
  He.eqO (PySem.W.nsIn K mainGlobals x) (some (some (.ref C))) && (clsB K C &&
  (He.eqO (PySem.W.findIn K (.ref C) "__setattr__") (some (some (.builtin "object.__setattr__"))) &&
  (He.eqO (PySem.W.findIn K (.ref C) "__getattribute__") (some (some (.builtin "BaseException.__getattribute__"))) &&
  (He.eqO (PySem.W.findIn K (.ref C) "__getattr__") (some none) &&
  (He.eqO (PySem.W.findIn K (.ref C) "value") (some none) &&
  (He.eqO (PySem.W.findIn K (.ref C) "__init__") (some (some (.ref (fI K)))) &&
  (He.eqO (PySem.W.findIn K (.ref C) "__class__") (some (some (.builtin "object.__class__"))) &&
  (PySem.W.keepIn K (.ref C) &&
  (eqB (PySem.W.subIn K (.ref C) (.type "BaseException")) (some true) &&
  (eqB (PySem.W.typeIn K (.ref C)) (some (.type "type")) &&
  (PySem.W.hasDictIn K C && eqB (PySem.W.mroIn K C (.type "object")) (some true))))))))))))
def kinB (K : PySem.W.Frag) : Bool :=
  errs.all (fun x => errs.all fun y => eqB (PySem.W.kitOne K (.ref (He.ga K x)) (.ref (He.ga K y))) (some (x == y))) &&
  (errs.all (fun x => eqB (PySem.W.kitOne K (.ref (He.ga K x)) (.ref (He.ga K "TaglessError"))) (some true)) &&
   errs.all (fun x => eqB (PySem.W.kitOne K (.ref (He.ga K x)) (.type "ValueError")) (some true)))
def ckB (K : PySem.W.Frag) : Bool :=
  errs.all (errB K) && (kinB K && (He.eqO (PySem.W.nsIn K mainGlobals "TaglessError") (some (some (.ref (He.ga K "TaglessError")))) &&
  (eqB (PySem.W.typeIn K (.ref (fI K))) (some (.type "function")) &&
  (eqB (PySem.W.exmOne K (.ref (He.ga K "NoDocument")) (.ref (He.ga K "NoDocument"))) (some true) &&
  (eqB (PySem.W.specialIn K (.builtin "object.__class__") "__get__") (some (some (.builtin "getset_descriptor.__get__"))) &&
  (eqB (PySem.W.takesIn K (.builtin "object.__class__")) (some true) &&
  (match K.lookup 1 with
    | some ⟨.type t, _, _, _⟩ => eqB t "dict"
    | _ => false)))))))
def obK (K : PySem.W.Frag) : He.AlD := (ckB K && (He.obsD fa fn K).1, (He.obsD fa fn K).2)
def Says (K : PySem.W.Frag) : Prop := ckB K = true ∧ He.SaysD fa fn K
def obG (g : Addr → Option Obj) : He.AlD := obK (He.frG g (1 :: He.asD g 4))
theorem says_of {K : PySem.W.Frag} (e : obK K = He.valD fn) : Says K := by
  have e1 : (ckB K && (He.obsD fa fn K).1) = true := congrArg (fun z : He.AlD => z.1) e
  have e2 : (He.obsD fa fn K).2 = fn.map He.DefD.val := congrArg (fun z : He.AlD => z.2) e
  obtain ⟨h1, h2⟩ := He.ba e1
  exact ⟨h1, Prod.ext h2 e2⟩
abbrev R : PySem.W.OpenRow := PySem.W.OpenLaw.row PySem.Challenge.rw_tagless_k13_errors_with_any_value
def hk : PySem.W.Hook where
  α := He.AlD
  obs := fun s => obG s.heap.get?
  val := fun _ => He.valD fn
  says := fun _ h => ∃ K : PySem.W.Frag, K.In h ∧ Says K
  of := fun _ _ e => ⟨_, He.frG_in, says_of e⟩
  keeps := fun _ _ _ ⟨K, hK, c⟩ k => ⟨K, PySem.W.Frag.In.keeps hK k, c⟩
def ob (s : PySem.W.SharedT) : He.AlD := obG (HandSHeadRun.getT s)
theorem ob_eq (s : PySem.W.SharedT) : ob s = hk.obs s.abs := by
  have e : HandSHeadRun.getT s = s.abs.heap.get? := funext (HandSHeadRun.getT_eq s)
  show obG (HandSHeadRun.getT s) = obG s.abs.heap.get?
  rw [e]
end M13
set_option Elab.async false
set_option linter.all false
set_option maxRecDepth 100000
set_option maxHeartbeats 4000000
/-! M13B: the errors of the program as values: made by a call, read, asked by isinstance, raised. -/
namespace M13
open PySem PySem.W PySem.Calls PyProof.Rows PySem.HandSPX
/-! ### the text of __init__ -/
def iA (p1 p2 : Pos) : Arguments :=
  { posonlyargs := [], args := [{ arg := "self", annotation := none, pos := p1 }, { arg := "value", annotation := none, pos := p2 }], vararg := none, kwonlyargs := [], kw_defaults := [], kwarg := none, defaults := [] }
def iB (q1 q2 q3 q4 : Pos) : List Stmt := [.Assign [.Attribute (.Name "self" q1) "value" q2] (.Name "value" q3) q4]
def iS : Scope := { kind := .function, names := [(PySem.Str.ofString "self", .local), (PySem.Str.ofString "value", .local)], isGenerator := false, isCoroutine := false, more := [] }
/-- what the written part says of an error's class at C and of the __init__ that it has from above -/
structure ErrT (K : Frag) (C fI : Addr) : Prop where
  cls : ∃ nm q N bs bm sn sub ab col dd k0 k1 k2 k3 k5, K.lookup C = some (excClassObj nm q C N bs bm true sn sub ab col dd k0 k1 k2 k3 k5 "ValueError.__new__") ∧ refsVE bm = true
  sa : findIn K (.ref C) "__setattr__" = some (some (.builtin "object.__setattr__"))
  ga : findIn K (.ref C) "__getattribute__" = some (some (.builtin "BaseException.__getattribute__"))
  gg : findIn K (.ref C) "__getattr__" = some none
  noN : findIn K (.ref C) "value" = some none
  iC : findIn K (.ref C) "__init__" = some (some (.ref fI))
  cl : findIn K (.ref C) "__class__" = some (some (.builtin "object.__class__"))
  kC : keepIn K (.ref C) = true
  exC : subIn K (.ref C) (.type "BaseException") = some true
  tyC : typeIn K (.ref C) = some (.type "type")
  hdC : hasDictIn K C = true
  ob : mroIn K C (.type "object") = some true
structure InitT (K : Frag) (fI : Addr) : Prop where
  tI : typeIn K (.ref fI) = some (.type "function")
  gt : specialIn K (.builtin "object.__class__") "__get__" = some (some (.builtin "getset_descriptor.__get__"))
  tk : takesIn K (.builtin "object.__class__") = some true
  fn : ∃ (oc : Value) (od : Option Addr) (doc pm : Value) (an : Option Addr) (cdv ct : Value) (osl : Array (Option Value)) (p1 p2 q1 q2 q3 q4 : Pos) (kV : Value),
    K.lookup fI = some ⟨oc, od, .func (fnOf "__init__" "TaglessError.__init__" (iA p1 p2) (iB q1 q2 q3 q4) iS .none kV doc pm an cdv ct), osl⟩ ∧ codeIn K cdv "TaglessError.__init__" = true
theorem one_size (v : Value) : [v].length ≤ sizeLine := by
  rw [sizeLine_eq]
  exact (by decide : 1 ≤ 16777216)
theorem ldC {M : Model} {s : Shared} {name : Str} {scope : Scope} {L a : Addr} {cd : Value} {m : Str → Option Value} {x : Str} {pos : Pos} {v : Value} {Q : Value → Shared → Prop} {A : Around} {E : Value → Shared → Prop} (hn : s.heap.Ns L m) (hv : m x = some v) (h : Q v s)
    (hk : scope.kind = .function := by rfl) (hl : (envOfC name scope L a cd).kindOf x = some .local := by rfl) (hd : (x == ("__debug__" : Str)) = false := by decide) :
    wpAny M A (eval (.Name x pos) (envOfC name scope L a cd)) Q E s := wpAny_Name (wpAny_loadName_local hk hl hn hv h) hd
/-- the object of an error with its own dict -/
def errO (C t0 dx : Addr) : Obj := { cls := .ref C, dict := some dx, data := .fields #[.ref t0, .none, .none, .none, .bool false, .none] }
structure InitEnd (h h' : Heap) (x C dx t1 : Addr) (v : Value) : Prop where
  keep : ∀ b o, b ≠ x → h.get? b = some o → h'.get? b = some o
  obj : h'.get? x = some (errO C t1 dx)
  dbig : h.objs.size ≤ dx
  dne : dx ≠ x
  ns : h'.Ns1 dx (fun y => if y = "value" then some v else none)
structure OwnMade (h h' : Heap) (e C d : Addr) (v : Value) : Prop where
  keep : ∀ b o, h.get? b = some o → h'.get? b = some o
  new : h.objs.size ≤ e
  obj : ∃ t0, h'.get? e = some (errO C t0 d)
  dbig : h.objs.size ≤ d
  dne : d ≠ e
  ns : h'.Ns1 d (fun y => if y = "value" then some v else none)
section
variable {prog : Program} {w : World} {A : Around} {E : Value → Shared → Prop} {R : Result → Shared → Prop} {s : Shared} {K : Frag} {C fI : Addr}
theorem err_init (T : ErrT K C fI) (T0 : InitT K fI) {x t0 : Addr} {v : Value} (X : K.In s.heap) (hlim : s.heap.NoLimit) (hx : s.heap.get? x = some (excO C t0)) (hroom : A.depth < recursionLimit)
    (hq : ∀ h' tk dx, InitEnd s.heap h' x C dx t0 v → R (.ok (.ret .none)) { s with heap := h', toks := tk }) :
    codeAny (model prog w) A (.call (.ref fI) ⟨[.ref x, v], []⟩) R s := by
  obtain ⟨oc, od, doc, pm, an, cdv, ct, osl, p1, p2, q1, q2, q3, q4, kV, ho, hcd⟩ := T0.fn
  obtain ⟨nm, q, N, bs, bm, sn, sub, ab, col, dd, k0, k1, k2, k3, k5, hC, hbm⟩ := T.cls
  have hcl : clsIn K C = some { name := nm, bases := bs, mro := .ref C :: bm, ns := N, qualname := q, hasDict := true, slotNames := sn, subclasses := sub, abstract := ab, collection := col, hasDel := false } := by unfold clsIn; rw [hC] <;> rfl
  refine Att.call_fn (binds := [("self", .ref x), ("value", v)]) X hlim ho hcd hroom (BindsTo.of_eq (by first | rfl | with_unfolding_all rfl)) (by first | rfl | decide | with_unfolding_all rfl) (fun s₁ IC => ?_) rfl rfl rfl
  obtain ⟨h₁, tk₁, rfl⟩ := IC.toInCall.same
  have k : ∀ b o, s.heap.get? b = some o → h₁.get? b = some o := IC.toInCall.keep
  have hn := IC.toInCall.ns
  have hxL : s.heap.objs.size ≠ x := Nat.ne_of_gt (Heap.lt_size hx)
  have X₁ : K.In h₁ := X.keeps k
  have hx₁ := k _ _ hx
  show wpAny _ _ (execs _ _) _ _ _
  refine wpAny_execs_cons (plainObj_wpAny_Assign_Attribute ?_)
  refine ldC (v := v) hn (by first | rfl | with_unfolding_all rfl | kernel_rfl) (ldC (v := .ref x) hn (by first | rfl | with_unfolding_all rfl | kernel_rfl) ?_)
  refine set_plain X₁ (ox := excO C t0) (od := none) ⟨hx₁, rfl, rfl, trivial⟩ T.sa ?_
  refine exc_osa X₁ hx₁ hcl (show refsVE (.ref C :: bm) = true from hbm) rfl T.noN (fun h₃ tk₃ dx k₃ dn dne hx₃ hn₃ => ?_)
  show wpAny _ _ (execs _ _) _ _ _
  have z : s.heap.objs.size < h₁.objs.size := hn.lt
  exact wpAny_execs_nil (hq h₃ tk₃ dx ⟨fun b o hb e => k₃ b o hb (k b o e), hx₃, Nat.le_of_lt (Nat.lt_of_lt_of_le z dn), dne, hn₃⟩)
theorem err_made (T : ErrT K C fI) (T0 : InitT K fI) {v : Value} (X : K.In s.heap) (hlim : s.heap.NoLimit) (hroom : A.depth + 1 < recursionLimit)
    (hq : ∀ h' tk e d, OwnMade s.heap h' e C d v → R (.ok (.ret (.ref e))) { s with heap := h', toks := tk }) :
    codeAny (model prog w) A (.call (.ref C) ⟨[v], []⟩) R s := by
  obtain ⟨nm, q, N, bs, bm, sn, sub, ab, col, dd, k0, k1, k2, k3, k5, hC, hbm⟩ := T.cls
  obtain ⟨hp, g, dr, tk, os⟩ := s
  have k : ∀ b o, hp.get? b = some o → ((hp.push (kdv_tup [v])).push (excO C hp.objs.size)).get? b = some o := fun b o e => Heap.get?_push_of_some _ (Heap.get?_push_of_some _ e)
  have hget : ((hp.push (kdv_tup [v])).push (excO C hp.objs.size)).get? (hp.objs.size + 1) = some (excO C hp.objs.size) := by heap_get
  refine call_own F.excBase_ValueError (fun X => refsVE_contains X bm hbm) (X _ _ hC) (looks_findIn X T.iC) (fun self => bind_fn X self T0.tI) (one_size v) ?_
  refine err_init (s := ⟨(hp.push (kdv_tup [v])).push (excO C hp.objs.size), g, dr, tk, os⟩) T T0 (X.keeps k) (hlim.keeps k) hget ?_ fun h' tk' dx ⟨k', hx, dn, dne, hns⟩ => ?_
  · show A.depth + 1 < recursionLimit
    exact hroom
  · have old : ∀ b o, hp.get? b = some o → h'.get? b = some o := fun b o e => k' b o (Nat.ne_of_lt (Nat.lt_succ_of_lt (Heap.lt_size e))) (k b o e)
    have z : hp.objs.size + 1 + 1 ≤ dx := by
      first
        | (simpa only [Heap.size_push] using dn)
        | exact dn
        | (have q := dn; rw [Heap.size_push, Heap.size_push] at q; exact q)
    exact ⟨rfl, hq h' tk' (hp.objs.size + 1) dx ⟨old, Nat.le_succ _, ⟨_, hx⟩, Nat.le_trans (Nat.le_trans (Nat.le_succ _) (Nat.le_succ _)) z, dne, hns⟩⟩
end
end M13
namespace M13
open PySem PySem.Spec PyProof.Rows L2
theorem relO_val {v : V} {v' : Value} (r : RelV v v') (f : Str) : RelO (List.lookup f [(("value" : Str), v)]) (if f = "value" then some v' else none) := by
  by_cases hw : f = "value"
  · subst hw
    rw [if_pos rfl]
    have q : List.lookup ("value" : Str) [(("value" : Str), v)] = some v := by simp [List.lookup]
    rw [q]
    exact r
  · rw [if_neg hw]
    have qw : (f == ("value" : Str)) = false := by simpa using hw
    have q2 : List.lookup f [(("value" : Str), v)] = none := by simp [List.lookup, qw]
    rw [q2]
    trivial
/-- u is an error of the class at C that holds v -/
def IsErr (H : Hp) (C : Addr) (v u : V) : Prop := ∃ e d : Addr, u = .ref e ∧ H e = some (exo e C (some d)) ∧ H d = some (.xd [(("value" : Str), v)])
theorem IsErr.same {H H' : Hp} {C : Addr} {v u : V} (h : IsErr H C v u) (k : Same H H') : IsErr H' C v u := by
  obtain ⟨e, d, h1, h2, h3⟩ := h
  exact ⟨e, d, h1, k _ _ h2, k _ _ h3⟩
section
variable {X : Cx} {C fI : Addr}
/-- C(e) as a value -/
def tErr (C : Addr) (ta : TA) : TE := fun σ H Q => ta σ H fun vs H1 => ∃ v, vs = [v] ∧ ∀ (u : V) (H2 : Hp), Same H1 H2 → IsErr H2 C v u → Q u H2
theorem pe_err {x : Str} {e : Expr} {ta : TA} {p pos : Pos} {k : Nat} (T : ErrT X.K C fI) (T0 : InitT X.K fI) (gC : X.mg x = some (.ref C)) (hr : Room k X.A) (ha : PA X [e] ta) (hg : Gl X x := by rfl)
    (hdb : (x == ("__debug__" : Str)) = false := by decide)
    (hs : starEach (e :: []) X.env = (false, eval e X.env) :: starEach [] X.env := by rfl) (hpl : (backTo pos (starEach [] X.env)).any (·.1) = false := by rfl) :
    PE X (.Call (.Name x p) [e] [] pos) (tErr C ta) := by
  refine ⟨fun pins s σ H Q I h => ?_⟩
  refine wpAny_Call_Name_kw (ld_glob I hg gC ?_ hdb)
  refine PySem.W.callWith_K (h₀ := X.base) I.ok.mod.kin T.kC (thn (ha.run pos pins s σ H _ I h) fun us s1 hh => ?_) hs hpl
  obtain ⟨vs, H1, I1, r1, v, ev, q1⟩ := hh
  subst ev
  refine ⟨I1.kIn, ?_⟩
  cases r1 with
  | cons rv rn =>
    rename_i v' us'
    cases rn
    show wpAny _ _ (call (.ref C) [v']) _ _ _
    have hlim := I1.nolimit
    obtain ⟨hp, g, dr, tk, os⟩ := s1
    refine wpAny_call (err_made T T0 I1.kIn hlim (by have := hr.dp; omega) fun h' tk' e d M => ?_)
    obtain ⟨t0, hoe⟩ := M.obj
    have hns := M.ns
    obtain ⟨G', g1, g2⟩ := restrict h' fun b => decide (b ≠ e)
    have gk : ∀ b, b ≠ e → G'.get? b = h'.get? b := fun b hb => g1 b (decide_eq_true hb)
    have ge : G'.get? e = none := g2 e (by simp)
    have old : ∀ b o, hp.get? b = some o → G'.get? b = some o := fun b o q => (gk b (Nat.ne_of_lt (Nat.lt_of_lt_of_le (Heap.lt_size q) M.new))).trans (M.keep b o q)
    have ob : ObjOk X.prog X.w (upd H1 d (.xd [(("value" : Str), v)])) G' d (.xd [(("value" : Str), v)]) :=
      ⟨_, hns.at (fun o q => (gk d M.dne).trans q), fun f => relO_val rv f⟩
    have J : Inv X pins σ (upd H1 d (.xd [(("value" : Str), v)])) ⟨G', g, dr, tk', os⟩ := I1.laid (t' := tk') old M.dbig ob
    have he1 : H1 e = none := I1.hok.fresh M.new
    have hd1 : H1 d = none := I1.hok.fresh M.dbig
    have hen : (upd H1 d (.xd [(("value" : Str), v)])) e = none := by rw [upd_ne (Ne.symm M.dne)]; exact he1
    have kk : ∀ b u, G'.get? b = some u → h'.get? b = some u := fun b u q => by
      by_cases hb : b = e
      · rw [hb, ge] at q; cases q
      · exact (gk b hb).symm.trans q
    have J2 : Inv X pins σ (upd (upd H1 d (.xd [(("value" : Str), v)])) e (exo e C (some d))) ⟨h', g, dr, tk', os⟩ :=
      Inv.laidN (t' := tk') J kk ge hen (exo_ok hoe)
    refine ⟨.ref e, _, J2, rfl, q1 _ _ (fun b o q => ?_) ⟨e, d, rfl, upd_same, ?_⟩⟩
    · rw [upd_ne (ne_of_none q he1), upd_ne (ne_of_none q hd1)]
      exact q
    · rw [upd_ne M.dne]
      exact upd_same
end
end M13
set_option Elab.async false
set_option linter.all false
set_option maxRecDepth 100000
set_option maxHeartbeats 4000000
namespace M13
open PySem PySem.Spec L2
section
variable {X : Cx} {fI : Addr}
/-- e.value, e one of the errors -/
def tVal (K : PySem.W.Frag) (fI : Addr) (te : TE) : TE := fun σ H Q => te σ H fun x H1 => ∃ (C : Addr) (v : V), ErrT K C fI ∧ IsErr H1 C v x ∧ Q v H1
theorem inst_of {pins : List (Addr × Obj)} {σ : St} {H : Hp} {s : Shared} {C e d : Addr} {v : V} (I : Inv X pins σ H s) (h1 : H e = some (exo e C (some d))) (h2 : H d = some (.xd [(("value" : Str), v)])) :
    ∃ (ox od : Obj) (u : Value), PySem.W.InstAt s.heap e ox C (some od) ∧ PySem.W.lookIn "value" od = some (some u) ∧ RelV v u := by
  obtain ⟨t0, ho⟩ := exo_at I.hok h1
  have hx : ObjOk X.prog X.w H s.heap d (.xd [(("value" : Str), v)]) := I.hok d _ h2
  obtain ⟨mA, hns, hr⟩ := hx
  obtain ⟨od, hod, hl⟩ := lookIn_ns hns
  have l : List.lookup ("value" : Str) [(("value" : Str), v)] = some v := by simp [List.lookup]
  obtain ⟨u, hu, ru⟩ := RelO.some_of (v := v) (o := mA "value") (by rw [← l]; exact hr "value")
  exact ⟨_, od, u, ⟨ho, rfl, rfl, hod⟩, by rw [hl, hu], ru⟩
theorem pe_val {e : Expr} {te : TE} {pos : Pos} (he : PE X e te) (hb : attributeBase e "value" X.env (eval e X.env) = eval e X.env := by rfl) :
    PE X (.Attribute e "value" pos) (tVal X.K fI te) := by
  refine ⟨fun pins s σ H Q I h => ?_⟩
  refine attr_of hb (thn (he.run pins s σ H _ I h) fun u s1 hh => ?_)
  obtain ⟨x, H1, I1, rx, C, v, T, ⟨a, d, rfl, h1, h2⟩, q⟩ := hh
  obtain rfl : u = Value.ref a := rx
  obtain ⟨ox, od, u, J, hl, ru⟩ := inst_of I1 h1 h2
  exact HandSPX.exc_get I1.kIn J T.ga T.gg T.exC (PySem.W.findObj_own T.hdC T.noN rfl hl) (handed_of ru) ⟨v, H1, I1.tok _, ru, q⟩
/-- isinstance(e, c), e one of the errors -/
def rIsErr (K : PySem.W.Frag) (fI : Addr) : List V → Hp → VK → Prop := fun xs H Q => ∃ (x c : V) (C : Addr) (v : V) (u : Value) (b : Bool), xs = [x, c] ∧ ClsV c u ∧ ErrT K C fI ∧ IsErr H C v x ∧ PySem.W.kitOne K (.ref C) u = some b ∧ Q (.bl b) H
theorem call_isErr (T0 : InitT X.K fI) : CallR X (.builtin "isinstance") (rIsErr X.K fI) := by
  intro pins s σ H xs us Q I r h
  obtain ⟨x, c, C, v, cv, b, rfl, hcv, T, ⟨a, d, rfl, h1, h2⟩, e, q⟩ := h
  obtain ⟨u1, u2, rfl, r1, r2⟩ := vals2 r
  have e2 := hcv.eq r2
  subst e2
  cases (show u1 = Value.ref a from r1)
  obtain ⟨ox, od, _, J, _, _⟩ := inst_of I h1 h2
  have hcl : (PySem.W.clsIn X.K C).isSome = true := by
    obtain ⟨nm, q, N, bs, bm, sn, sub, ab, col, dd, k0, k1, k2, k3, k5, hC, _⟩ := T.cls
    unfold PySem.W.clsIn
    rw [hC] <;> rfl
  exact PySem.W.kia_one (PySem.W.kitx_exc (od := some od) hcl T.ga T.gg T.exC T.cl T0.gt T0.tk T.ob) I.kIn J e (fun z => nomatch z) fun tk => ⟨.bl b, H, I.tok tk, rfl, q⟩
end
/-! ### what is drawn: data -/
def kD : Key → PyData
  | .inl i => .int i
  | .inr y => .str y
mutual
inductive Dat (H : Hp) : V → PyData → List Addr → Prop
  | non : Dat H .non .none []
  | bl (b : Bool) : Dat H (.bl b) (.bool b) []
  | int (i : Int) : Dat H (.int i) (.int i) []
  | str (x : Str) : Dat H (.str x) (.str x) []
  | lst {a : Addr} {xs : List V} {ds : List PyData} {as : List Addr} (h : H a = some (.lst xs)) (r : DatL H xs ds as) : Dat H (.ref a) (.list ds) (a :: as)
  | tup {a : Addr} {xs : List V} {ds : List PyData} {as : List Addr} (h : H a = some (.tup xs)) (r : DatL H xs ds as) : Dat H (.ref a) (.tuple ds) as
  | dic {a : Addr} {k : Key} {x : V} {d : PyData} {as : List Addr} (h : H a = some (.dK [(k, x)])) (r : Dat H x d as) : Dat H (.ref a) (.dict [(kD k, d)]) (a :: ([] ++ []) ++ (as ++ []))
  | dic0 {a : Addr} (h : H a = some (.dK [])) : Dat H (.ref a) (.dict []) (a :: [] ++ [])
inductive DatL (H : Hp) : List V → List PyData → List Addr → Prop
  | nil : DatL H [] [] []
  | cons {x : V} {xs : List V} {d : PyData} {ds : List PyData} {as bs : List Addr} (h : Dat H x d as) (r : DatL H xs ds bs) : DatL H (x :: xs) (d :: ds) (as ++ bs)
end
end M13
set_option Elab.async false
set_option linter.all false
set_option maxRecDepth 100000
set_option maxHeartbeats 4000000
namespace M13
open PySem PySem.Spec L2
/-- at 1 stands a dict of the module's start -/
def Sys (K : PySem.W.Frag) : Prop := ∃ o, K.lookup sysModules = some o ∧ o.cls = .type "dict"
section
variable {X : Cx} {pins : List (Addr × Obj)} {σ : L2.St} {H : Hp} {s : Shared}
mutual
theorem Dat.reads (I : L2.Inv X pins σ H s) (S : Sys X.K) : ∀ {x : V} {d : PyData} {as : List Addr} {u : Value}, Dat H x d as → RelV x u → Reads s.heap u d as ∧ sysModules ∉ as
  | _, _, _, u, .non, r => by cases (show u = Value.none from r); exact ⟨.none, by simp⟩
  | _, _, _, u, .bl b, r => by cases (show u = Value.bool b from r); exact ⟨.bool b, by simp⟩
  | _, _, _, u, .int i, r => by obtain ⟨t, e⟩ := (show ∃ t, u = Value.int i t from r); cases e; exact ⟨.int i t, by simp⟩
  | _, _, _, u, .str y, r => by obtain ⟨t, e⟩ := (show ∃ t, u = Value.str y t from r); cases e; exact ⟨.str y t, by simp⟩
  | _, _, _, u, .lst (a := a) (xs := xs) h q, r => by
    cases (show u = Value.ref a from r)
    obtain ⟨_, its, n, rv, e⟩ := (show ObjOk X.prog X.w H s.heap a (.lst xs) from I.hok a _ h)
    obtain ⟨z, ns⟩ := DatL.reads I S q rv
    refine ⟨.list e rfl rfl (by simpa using z), fun hm => ?_⟩
    rcases List.mem_cons.mp hm with hm | hm
    · obtain ⟨o, ho, hc⟩ := S
      have e2 := I.kIn _ _ ho
      rw [hm, e] at e2
      rw [← Option.some.inj e2] at hc
      exact absurd hc (by intro z; injection z with z; exact absurd z (by decide))
    · exact ns hm
  | _, _, _, u, .tup (a := a) (xs := xs) h q, r => by
    cases (show u = Value.ref a from r)
    obtain ⟨_, its, rv, o, h1, h2, n, h3⟩ := (show ObjOk X.prog X.w H s.heap a (.tup xs) from I.hok a _ h)
    obtain ⟨z, ns⟩ := DatL.reads I S q rv
    exact ⟨.tuple h1 h2 h3 (by simpa using z), ns⟩
  | _, _, _, u, .dic (a := a) (k := k) (x := x) (d := d) h q, r => by
    cases (show u = Value.ref a from r)
    obtain ⟨_, hs, vs, kv, o, es, ep, h1, h2, h3, _, h5, _⟩ := (show ObjOk X.prog X.w H s.heap a (.dK [(k, x)]) from I.hok a _ h)
    cases kv with
    | @cons aa bb l1 l2 c t =>
      cases t
      obtain ⟨c1, c2⟩ := c
      obtain ⟨k', v'⟩ := bb
      have c1' : k = k' := c1
      subst c1'
      obtain ⟨esl⟩ := es
      cases h5 with
      | @cons en kv' es' kvs' p1 p2 p3 =>
        cases p3
        have p1' : keyIs k en.key = true := p1
        have p2' : en.val = v' := p2
        obtain ⟨z, ns⟩ := Dat.reads I S q c2
        refine ⟨.dict h1 h2.1 h3 ?_ ?_, ?_⟩
        · rcases keyIs_shape p1' with ⟨i, t, rfl, ek⟩ | ⟨y, t, rfl, ek⟩
          · show ReadsAll s.heap [en.key] [kD (.inl i)] ([] ++ [])
            rw [ek]
            exact .cons (.int i t) .nil
          · show ReadsAll s.heap [en.key] [kD (.inr y)] ([] ++ [])
            rw [ek]
            exact .cons (.str y t) .nil
        · show ReadsAll s.heap [en.val] [d] _
          rw [p2']
          exact .cons z .nil
        · intro hm
          simp only [List.append_nil, List.nil_append, List.cons_append, List.mem_cons] at hm
          rcases hm with hm | hm
          · exact absurd hm.symm (beq_eq_false_iff_ne.mp hs)
          · exact ns hm
  | _, _, _, u, .dic0 (a := a) h, r => by
    cases (show u = Value.ref a from r)
    obtain ⟨_, hs, vs, kv, o, es, ep, h1, h2, h3, _, h5, _⟩ := (show ObjOk X.prog X.w H s.heap a (.dK []) from I.hok a _ h)
    cases kv
    obtain ⟨esl⟩ := es
    cases h5
    refine ⟨.dict h1 h2.1 h3 .nil .nil, ?_⟩
    intro hm
    simp only [List.append_nil, List.mem_cons, List.not_mem_nil, or_false] at hm
    exact absurd hm.symm (beq_eq_false_iff_ne.mp hs)
theorem DatL.reads (I : L2.Inv X pins σ H s) (S : Sys X.K) : ∀ {xs : List V} {ds : List PyData} {as : List Addr} {us : List Value}, DatL H xs ds as → Vals xs us → ReadsAll s.heap us ds as ∧ sysModules ∉ as
  | _, _, _, _, .nil, r => by cases r; exact ⟨.nil, by simp⟩
  | _, _, _, _, .cons h q, r => by
    cases r with
    | cons r1 r2 =>
      obtain ⟨z1, n1⟩ := Dat.reads I S h r1
      obtain ⟨z2, n2⟩ := DatL.reads I S q r2
      exact ⟨.cons z1 z2, fun hm => by
        rcases List.mem_append.mp hm with hm | hm
        · exact n1 hm
        · exact n2 hm⟩
end
mutual
theorem Dat.same {H' : Hp} (k : Same H H') : ∀ {x : V} {d : PyData} {as : List Addr}, Dat H x d as → Dat H' x d as
  | _, _, _, .non => .non
  | _, _, _, .bl b => .bl b
  | _, _, _, .int i => .int i
  | _, _, _, .str y => .str y
  | _, _, _, .lst h q => .lst (k _ _ h) (DatL.same k q)
  | _, _, _, .tup h q => .tup (k _ _ h) (DatL.same k q)
  | _, _, _, .dic h q => .dic (k _ _ h) (Dat.same k q)
  | _, _, _, .dic0 h => .dic0 (k _ _ h)
theorem DatL.same {H' : Hp} (k : Same H H') : ∀ {xs : List V} {ds : List PyData} {as : List Addr}, DatL H xs ds as → DatL H' xs ds as
  | _, _, _, .nil => .nil
  | _, _, _, .cons h q => .cons (Dat.same k h) (DatL.same k q)
end
/-- data that repr shows within small bounds -/
def goodB (d : PyData) : Bool := d.showable && (Nat.ble d.shown.length 1000 && Nat.ble d.depth 12)
def Good (H : Hp) (x : V) (d : PyData) : Prop := (∃ as, Dat H x d as) ∧ goodB d = true
/-- repr(x) -/
def rRepr : List V → Hp → VK → Prop := fun xs H Q => ∃ (x : V) (d : PyData), xs = [x] ∧ Good H x d ∧ Q (.str d.shown) H
theorem call_repr (S : Sys X.K) (hg : X.A.guards = some []) (hu : X.A.units + 20 < cLine) : CallR X (.builtin "repr") rRepr := by
  intro pins s σ H xs us Q I r h
  obtain ⟨x, d, rfl, ⟨⟨as, hd⟩, hgd⟩, q⟩ := h
  cases r with
  | cons r1 r2 =>
    cases r2
    obtain ⟨z, ns⟩ := hd.reads I S r1
    obtain ⟨g1, g2⟩ := He.ba hgd
    obtain ⟨g2, g3⟩ := He.ba g2
    have g2' : d.shown.length ≤ 1000 := Nat.le_of_ble_eq_true g2
    have g3' : d.depth ≤ 12 := Nat.le_of_ble_eq_true g3
    have hsz : d.shown.length ≤ sizeLine := Nat.le_of_lt (small1000 g2')
    cases z with
    | none => exact PySem.P.repr_of_none ⟨.str _, H, I.tok _, ⟨_, by simp only [PyData.shown]; rfl⟩, q⟩
    | bool b => exact PySem.P.repr_of_bool ⟨.str _, H, I.tok _, ⟨_, by simp only [PyData.shown]; rfl⟩, q⟩
    | int i t => exact PySem.P.repr_of_int (by simpa [PyData.showable] using g1) ⟨.str _, H, I.tok _, ⟨_, by simp only [PyData.shown]; rfl⟩, q⟩
    | str y t => exact PySem.P.repr_of_str ⟨.str _, H, I.tok _, ⟨_, by simp only [PyData.shown]; rfl⟩, q⟩ (by simpa only [PyData.shown] using hsz)
    | list h1 h2 h3 h4 => exact repr_of_reads' (.list h1 h2 h3 h4) g1 (fun _ => ns) hg (by omega) (fun _ _ e => e) (fun h' u tk hk => ⟨.str _, H, I.kept (t' := tk) hk, ⟨_, rfl⟩, q⟩) hsz
    | tuple h1 h2 h3 h4 => exact repr_of_reads' (.tuple h1 h2 h3 h4) g1 (fun _ => ns) hg (by omega) (fun _ _ e => e) (fun h' u tk hk => ⟨.str _, H, I.kept (t' := tk) hk, ⟨_, rfl⟩, q⟩) hsz
    | dict h1 h2 h3 h4 h5 => exact repr_of_reads' (.dict h1 h2 h3 h4 h5) g1 (fun _ => ns) hg (by omega) (fun _ _ e => e) (fun h' u tk hk => ⟨.str _, H, I.kept (t' := tk) hk, ⟨_, rfl⟩, q⟩) hsz
end
end M13
set_option Elab.async false
set_option linter.all false
set_option maxRecDepth 100000
set_option maxHeartbeats 4000000
/-! M13E: promises of defs that are called where no repr is under way. -/
namespace M13
open PySem PySem.Spec L2
open PyProof.Rows (envOfC)
/-- as a def's promise, for calls outside of every repr -/
structure FnG (P : Program) (w : World) (K : PySem.W.Frag) (mg : Str → Option Value) (base : Heap) (k : Nat) (f : Addr) (fd : FuncData) (ps : List Str) (sp : Sp) : Prop where
  len : ∀ vs H Q E, sp vs H Q E → vs.length = ps.length
  run : ∀ (A : Around) (outer : List Env) (s : Shared) (H : Hp) (args : Args) (us : List Value) (vs : List V) (Q : VK) (E : XK), A.guards = some [] → Room k A →
    Env0 P w K mg base A outer s H → BindsTo s fd args (ps.zip us) → Vals vs us → sp vs H Q E → codeAny (model P w) A (.call (.ref f) args) (CR CX0 outer P w H s Q E) s
section
variable {P : Program} {w : World} {K : PySem.W.Frag} {mg : Str → Option Value} {base : Heap}
theorem fnG_of {k : Nat} {f : Addr} {x : Str} {st : Stmt} {fd : FuncData} {N ps : List Str} {sp : Sp} (F : FunD K x x (defArgs st) (defBody st) (defScope st) [] [] f fd) (S : FnScope N ps (defScope st))
    (len : ∀ vs H Q E, sp vs H Q E → vs.length = ps.length)
    (body : ∀ (cdv : Value) (A : Around) (outer : List Env) (s : Shared) (H : Hp) (vs : List V) (Q : VK) (E : XK), A.guards = some [] → Room k (A.deeper (envOfC x (defScope st) s.heap.objs.size f cdv)) → sp vs H Q E →
      ∃ t, PSs (cxOf CX0 P w K mg base N x (defScope st) f cdv A outer s H E) (defBody st) t ∧ t { nx := fun _ H' => Q .non H', rt := Q } (start N vs) H) :
    FnG P w K mg base (k + 1) f fd ps sp := by
  refine ⟨len, ?_⟩
  intro A outer s H args us vs Q E hgd hr e0 hb r hsp
  obtain ⟨oc, od, dV, kV, doc, pm, an, cdv, ct, osl, rfl, lk, hcd, _, _⟩ := F.ex
  have stands := fun b o (e : base.get? b = some o) => (e0.bs b o e).1
  have inK : K.In s.heap := e0.mod.kin.keeps stands
  have size_ := len _ _ _ _ hsp
  have params : ∀ y ∈ ps.zip us, (defScope st).names.lookup y.1 = some .local ∨
      ((defScope st).names.lookup y.1 = some .cell ∧ ((cellsFrom (s.heap.objs.size + 1) (defScope st).names []).lookup y.1).isSome = true) := by
    rintro ⟨n, v⟩ hy
    exact (S.par n (List.of_mem_zip hy).1).imp id fun q => ⟨q, PySem.W.cellsFrom_some _ _ _ (Or.inl q)⟩
  refine codeAny_call_function hr.depth (inK _ _ lk) rfl S.co S.gen rfl
    (PySem.W.codeRec_of inK hcd) (hb _ _ _ _ (wpAny_newFunctionEnv_cells S.kind params ?_))
  intro env he s1 x
  subst he
  obtain ⟨t, ht, hq⟩ := body cdv A outer s H vs Q E hgd (hr.deeper _) hsp
  have I := inv_start (CX := CX0) (E := E) (qual := _) S hr.hd e0 size_ r x
  refine ⟨(e0.mod.nolimit.keeps stands).keeps x.toInCall.keep, codeAny_func (wpAny_mono (ht.run [] s1 _ H _ I hq) ?_ fun _ _ z => z)⟩
  intro fl s' hs
  match fl, hs with
  | .ret u, ⟨v, σ', H', J, rv, q⟩ => exact ⟨v, H', J.os, J.bare, J.base, J.hok, rv, q⟩
  | .next, ⟨σ', H', J, q⟩ => exact ⟨V.non, H', J.os, J.bare, J.base, J.hok, rfl, q⟩
  | .brk, ⟨_, _, _, q⟩ => exact q.elim
  | .cont, ⟨_, _, _, q⟩ => exact q.elim
end
section
variable {X : Cx}
theorem pe_callG {k : Nat} {f : Addr} {fd : FuncData} {ps : List Str} {sp : Sp} {e : Expr} {es : List Expr} {t : TA} {x : Str} {p pos : Pos} (F : FnG X.prog X.w X.K X.mg X.base k f fd ps sp) (hgd : X.A.guards = some []) (hr : Room k X.A) (hm : X.mg x = some (.ref f))
    (hk : PySem.W.keepIn X.K (.ref f) = true) (hb : Binds X.K fd ps []) (ha : PA X (e :: es) t) (hg : Gl X x := by rfl) (hdb : (x == ("__debug__" : Str)) = false := by decide)
    (he : starEach (e :: es) X.env = (false, eval e X.env) :: starEach es X.env := by rfl) (hpl : (backTo pos (starEach es X.env)).any (·.1) = false := by rfl) :
    PE X (.Call (.Name x p) (e :: es) [] pos) (tCall sp [] E0 t) := by
  refine ⟨fun pins s σ H Q I h => wpAny_Call_Name_kw (ld_glob I hg hm ?_ hdb)⟩
  refine PySem.W.callWith_K (h₀ := X.base) I.ok.mod.kin hk (thn (ha.run pos pins s σ H _ I h) fun us s1 hu => ?_) he hpl
  obtain ⟨vs, H1, J, r, q⟩ := hu
  refine ⟨J.kIn, ?_⟩
  have rr : Vals (vs ++ []) (us ++ []) := r.append .nil
  have hl : (us ++ []).length = ps.length := rr.length.symm.trans (F.len _ _ _ _ q)
  refine wpAny_call (codeAny_mono (F.run X.A X.stack s1 H1 ⟨us, []⟩ _ _ Q E0 hgd hr J.env0 (hb s1 us J.kIn hl) rr q) ?_)
  intro res s2 h2
  match res, h2 with
  | .ok (.ret u), h2 => exact J.after h2
  | .ok .next, h2 => exact h2.elim
  | .ok .brk, h2 => exact h2.elim
  | .ok .cont, h2 => exact h2.elim
  | .error e', h2 => exact h2.elim
end
end M13
set_option Elab.async false
set_option linter.all false
set_option maxRecDepth 100000
set_option maxHeartbeats 4000000
/-! M13F: the end of a law whose def keeps a promise outside of every repr. -/
namespace M13
open PySem PySem.Spec L2
open PyProof.Rows (IntsAre AllBare)
section
variable {P : Program} {w : World} {K : PySem.W.Frag} {mg mb : Str → Option Value} {k : Nat} {fa a : Addr} {fd : FuncData} {x : Str} {sp : Sp} {s : Shared} {vs : List Value} {ns : List Int}
abbrev lobj (vs : List Value) : Obj := { cls := .type "list", data := .seq vs.toArray }
def EndOk (h : Heap) (os : OsState) (r : Result) (s' : Shared) : Prop := r = .ok (.ret (.bool true)) ∧ OldK h s'.heap ∧ s'.os = os ∧ AllBare s'.gens
/-- what stands behind the top, seen from an abstract heap that tracks the script at most -/
theorem core_call (KX : K.In s.heap) (hns : s.heap.Ns mainGlobals mg) (hb : s.heap.Ns builtinsNs mb) (hbb : ∀ y : Str, y ≠ "__name__" → mb y = bootBuiltins y) (hlim : s.heap.NoLimit) (hg : s.gens = #[])
    (ha : s.heap.get? a = some (lobj vs)) (hr : Room k callerA)
    (F : ∀ base : Heap, K.In base → base.Ns mainGlobals mg → FnG P w K mg base k fa fd [x] sp) (hbind : ∀ (s : Shared) (u : Value), BindsTo s fd ⟨[u], []⟩ [(x, u)])
    {H : Hp} (hO : Only H) (hok : HOk P w H s.heap) (hA : ∀ b, H b ≠ none → b = a) (hK : H a ≠ none → K.lookup a = none)
    (hsp : sp [.ref a] H (fun v _ => v = .bl true) fun _ _ _ => False) :
    codeAny (model P w) callerA (.call (.ref fa) ⟨[.ref a], []⟩) (EndOk s.heap s.os) s := by
  have noDict : ∀ {b : Addr} {o : Obj} {es : Array DictEntry} {ep : Nat}, s.heap.get? b = some o → o.data = .dict es ep → H b = none := by
    intro b o es ep e d
    refine Classical.byContradiction fun q => ?_
    have eb := hA b q
    rw [eb, ha] at e
    rw [← Option.some.inj e] at d
    cases d
  have names : ∀ {b : Addr} {m : Str → Option Value}, s.heap.Ns b m → (hidT s.heap H).Ns b m := by
    rintro b m ⟨o, es, ep, e, d, r⟩
    exact ⟨o, es, ep, hidT_get e (noDict e d), d, r⟩
  have kin : K.In (hidT s.heap H) := by
    intro b o e
    refine hidT_get (KX b o e) (Classical.byContradiction fun q => ?_)
    have eb := hA b q
    subst eb
    have n := hK q
    rw [e] at n
    cases n
  obtain ⟨mc, l1, l2⟩ := hlim
  have env : Env0 P w K mg (hidT s.heap H) callerA [] s H :=
    { frames := rfl, mod := ⟨kin, names hns, ⟨mb, names hb, hbb⟩, ⟨mc, names l1, l2⟩⟩, bs := fun b o e => of_hidT e, bsz := Nat.le_of_eq (hidT_size _ _), funs := trivial,
      frf := (fun b z => nomatch z), hok := hok, bare := PyProof.Rows.AllBare.of_eq hg }
  refine codeAny_mono ((F _ kin (names hns)).run callerA [] s H ⟨[.ref a], []⟩ [.ref a] [.ref a] _ _ rfl hr env (hbind s (.ref a)) (.cons rfl .nil) hsp) ?_
  intro r s' h
  match r, h with
  | .error e, h => exact h.elim
  | .ok .next, h => exact h.elim
  | .ok .brk, h => exact h.elim
  | .ok .cont, h => exact h.elim
  | .ok (.ret u), ⟨v, H', os, bare, un, hok', rv, q⟩ =>
    have q' : v = .bl true := q
    subst q'
    have eu : u = Value.bool true := rv
    subst eu
    refine ⟨rfl, OldK.of_keep ?_, os, bare⟩
    intro b o e
    rcases hO b with z | ⟨ob, xs, z⟩
    · exact un.keep b o e z (by intro q; cases q) (by intro q; cases q)
    · obtain ⟨e1, _⟩ := hok b _ z
      obtain ⟨e2, _⟩ := hok' b _ (un.frzs b ob _ z)
      exact e2.trans (e1.symm.trans e)
theorem law_callG (KX : K.In s.heap) (hns : s.heap.Ns mainGlobals mg) (hb : s.heap.Ns builtinsNs mb) (hbb : ∀ y : Str, y ≠ "__name__" → mb y = bootBuiltins y) (hlim : s.heap.NoLimit) (hg : s.gens = #[])
    (ha : s.heap.get? a = some (lobj vs)) (hi : IntsAre vs ns) (hl : ns.length ≤ sizeLine) (hr : Room k callerA)
    (F : ∀ base : Heap, K.In base → base.Ns mainGlobals mg → FnG P w K mg base k fa fd [x] sp) (hbind : ∀ (s : Shared) (u : Value), BindsTo s fd ⟨[u], []⟩ [(x, u)])
    (hsp : ∀ H : Hp, SqL K H a (ns.map V.int) → sp [.ref a] H (fun v _ => v = .bl true) fun _ _ _ => False) :
    codeAny (model P w) callerA (.call (.ref fa) ⟨[.ref a], []⟩) (EndOk s.heap s.os) s := by
  have rv := vals_ints hi
  by_cases hk : K.lookup a = none
  · let H : Hp := fun b => if b = a then some (.frz (lobj vs) (.lst (ns.map V.int))) else none
    have Ha : H a = some (.frz (lobj vs) (.lst (ns.map V.int))) := if_pos rfl
    have Hn : ∀ {b}, b ≠ a → H b = none := fun h => if_neg h
    have only : ∀ b, H b ≠ none → b = a := fun b q => Classical.byContradiction fun n => q (Hn n)
    refine core_call KX hns hb hbb hlim hg ha hr F hbind (H := H) (fun b => ?_) (fun b u z => ?_) only (fun _ => hk) (hsp H (.inl (.inr ⟨_, Ha⟩)))
    · by_cases e : b = a
      · exact .inr ⟨_, _, e ▸ Ha⟩
      · exact .inl (Hn e)
    · have e := only b (by rw [z]; exact fun q => nomatch q)
      subst e
      rw [Ha] at z
      cases z
      exact ⟨ha, by rw [List.length_map]; exact hl, vs, _, rv, ha⟩
  · obtain ⟨o, ho⟩ := Option.ne_none_iff_exists'.mp hk
    have e := KX a o ho
    rw [ha] at e
    cases e
    refine core_call KX hns hb hbb hlim hg ha hr F hbind (H := fun _ => none) (fun _ => .inl rfl) (fun b u z => nomatch z) (fun b z => absurd rfl z) (fun z => absurd rfl z)
      (hsp _ (.inr ⟨_, vs.toArray, _, ho, rfl, rfl, rfl, ?_, by simpa using rv⟩))
    rw [List.size_toArray, ← rv.length, List.length_map]
    exact hl
end
theorem walkG {l : PySem.W.OpenLaw} {n k : Nat} {q : Program} {loose : List Str} {XP : (Str → Option Value) → Heap → Prop} {YP : World → Heap → Prop} {d : DefRec} {x : Str}
    (hn : l.most = some n) (hn2 : n ≤ sizeLine) (hdf : d.params.defaults = []) (hr : Room k callerA)
    (F : ∀ (w : World) (mg : Str → Option Value) (fa : Addr) (h : Heap), YP w h → h.Ns mainGlobals mg → mg d.name = some (.ref fa) →
      ∃ (K : PySem.W.Frag) (fd : FuncData) (sp : Sp), K.In h ∧ (∀ (s : Shared) (u : Value), BindsTo s fd ⟨[u], []⟩ [(x, u)]) ∧
        (∀ (H : Hp) (a : Addr) (ns : List Int), ns.length ≤ n → SqL K H a (ns.map V.int) → sp [.ref a] H (fun v _ => v = .bl true) fun _ _ _ => False) ∧
        ∀ base : Heap, K.In base → base.Ns mainGlobals mg → FnG l.prog w K mg base k fa fd [x] sp) :
    PySem.W.WalkO q loose XP YP l.row.toRowW d [] (fun f vs => PySem.call f vs) := by
  refine Att.attach_call hn hdf ?_
  intro w s₀ s₁ mg mb fa o pm cd doc a vs ns G Y ho hd hcd hmg hobj hints hlen hg
  obtain ⟨K, fd, sp, KX, hb, hsp, hF⟩ := F w mg fa _ Y G.T.g hmg
  exact law_callG KX G.T.g G.T.b G.T.builtins G.T.nolimit hg hobj hints (Nat.le_trans hlen hn2) hr hF hb fun H hS => hsp H a ns hlen hS
end M13
set_option Elab.async false
set_option linter.all false
set_option maxRecDepth 100000
set_option maxHeartbeats 4000000
/-! M13G: the defs of the documents, called with a tuple. -/
namespace M13
open PySem PySem.Spec L2
open PyProof.Rows (envOfC)
/-- the built-in names that the program does not bind -/
structure Bl (mg : Str → Option Value) : Prop where
  len : mg "len" = none
  isi : mg "isinstance" = none
  all : mg "all" = none
  list : mg "list" = none
  max : mg "max" = none
  min : mg "min" = none
  range : mg "range" = none
  abs : mg "abs" = none
  int : mg "int" = none
  repr : mg "repr" = none
  enum : mg "enumerate" = none
  bool : mg "bool" = none
  str : mg "str" = none
  dict : mg "dict" = none
  ve : mg "ValueError" = none
/-- a def of the top's i-th statement at f -/
abbrev FnD (K : PySem.W.Frag) (x : Str) (i : Nat) (f : Addr) (fd : FuncData) : Prop := FunD K x x (defArgs (top i)) (defBody (top i)) (defScope (top i)) [] [] f fd
theorem pt_no {X : Cx} {e : Expr} : PT X e (fun _ _ _ => False) := ⟨fun _ _ _ _ _ _ h => h.elim⟩
theorem pe_no {X : Cx} {e : Expr} : PE X e (fun _ _ _ => False) := ⟨fun _ _ _ _ _ _ h => h.elim⟩
section
variable {P : Program} {w : World} {K : PySem.W.Frag} {mg : Str → Option Value} {base : Heap} {f g : Addr} {fd gd : FuncData}
/-! ### sort_of -/
def spSort : Sp := fun vs H Q _ => ∃ (t : Addr) (xs : List V), vs = [.ref t] ∧ H t = some (.tup xs) ∧ Q .non H
theorem scSort : FnScope ["value"] ["value"] (defScope (top 42)) := ⟨rfl, rfl, rfl, by decide +kernel, rfl, by decide +kernel, by decide +kernel⟩
theorem ok_sort (F : FnD K "sort_of" 42 f fd) (B : Bl mg) : FnOk P w K mg base CX0 1 f fd ["value"] spSort := by
  refine F.ok scSort (fun vs H Q E h => ?_) (fun cdv A outer s H vs Q E hr h => ?_)
  · obtain ⟨t, xs, rfl, _⟩ := h
    rfl
  obtain ⟨t, xs, rfl, ht, q⟩ := h
  refine ⟨_, PSs.nox (pss_cons (ps_if (pt_cmpR op_isN (pv 0) pe_non (nomark _)) (pss_one (ps_ret pe_str)) pss_nil)
    (pss_cons (ps_if (pt_val (pe_callB call_isi (by rfl) B.isi (by decide +kernel) (pa_cons (pv 0) (pa_cons (pe_bltn (v := .ty "bool") (by rfl) B.bool (by decide +kernel) rfl) pa_nil)))) (pss_one (ps_ret pe_str)) pss_nil)
    (pss_cons (ps_if (pt_val (pe_callB call_isi (by rfl) B.isi (by decide +kernel) (pa_cons (pv 0) (pa_cons (pe_bltn (v := .ty "int") (by rfl) B.int (by decide +kernel) rfl) pa_nil)))) (pss_one (ps_ret pe_str)) pss_nil)
    (pss_cons (ps_if (pt_val (pe_callB call_isi (by rfl) B.isi (by decide +kernel) (pa_cons (pv 0) (pa_cons (pe_bltn (v := .ty "str") (by rfl) B.str (by decide +kernel) rfl) pa_nil)))) (pss_one (ps_ret pe_str)) pss_nil)
    (pss_cons (ps_if (pt_val (pe_callB call_isi (by rfl) B.isi (by decide +kernel) (pa_cons (pv 0) (pa_cons (pe_bltn (v := .ty "list") (by rfl) B.list (by decide +kernel) rfl) pa_nil)))) (pss_one (ps_ret pe_str)) pss_nil)
    (pss_cons (ps_if (PW.pt (pw_and (pt_val (pe_callB call_isi (by rfl) B.isi (by decide +kernel) (pa_cons (pv 0) (pa_cons (pe_bltn (v := .ty "dict") (by rfl) B.dict (by decide +kernel) rfl) pa_nil)))) (pw_and1 pt_no))) (pss_one (ps_ret pe_str)) pss_nil)
    (pss_one (ps_ret pe_non)))))))), ?_⟩
  refine ⟨_, rfl, rfl, _, rfl, iteF ?_⟩
  refine ⟨_, rfl, _, _, _, _, false, rfl, .ty "bool", .base (.tup ht), kit_ty (by decide +kernel), _, rfl, iteF ?_⟩
  refine ⟨_, rfl, _, _, _, _, false, rfl, .ty "int", .base (.tup ht), kit_ty (by decide +kernel), _, rfl, iteF ?_⟩
  refine ⟨_, rfl, _, _, _, _, false, rfl, .ty "str", .base (.tup ht), kit_ty (by decide +kernel), _, rfl, iteF ?_⟩
  refine ⟨_, rfl, _, _, _, _, false, rfl, .ty "list", .base (.tup ht), kit_ty (by decide +kernel), _, rfl, iteF ?_⟩
  refine ⟨_, rfl, _, _, _, _, false, rfl, .ty "dict", .base (.tup ht), kit_ty (by decide +kernel), _, rfl, iteF (iteF ?_)⟩
  exact q
end
end M13
set_option Elab.async false
set_option linter.all false
set_option maxRecDepth 100000
set_option maxHeartbeats 4000000
namespace M13
open PySem PySem.Spec L2
open PyProof.Rows (envOfC)
theorem same_refl (H : Hp) : Same H H := fun _ _ e => e
theorem same_new {H : Hp} {p : Addr} (h : H p = none) (o : HO) : Same H (upd H p o) := fun b u q => by rw [upd_ne (ne_of_none q h)]; exact q
section
variable {P : Program} {w : World} {K : PySem.W.Frag} {mg : Str → Option Value} {base : Heap} {f g g2 : Addr} {fd gd gd2 : FuncData}
/-! ### inner_parts -/
def spInner : Sp := fun vs H Q _ => ∃ (t : Addr) (xs : List V), vs = [.ref t] ∧ H t = some (.tup xs) ∧ ∀ l, H l = none → Q (.ref l) (upd H l (.lst []))
theorem scInner : FnScope ["value"] ["value"] (defScope (top 43)) := ⟨rfl, rfl, rfl, by decide +kernel, rfl, by decide +kernel, by decide +kernel⟩
theorem ok_inner (F : FnD K "inner_parts" 43 f fd) (B : Bl mg) : FnOk P w K mg base CX0 1 f fd ["value"] spInner := by
  refine F.ok scInner (fun vs H Q E h => ?_) (fun cdv A outer s H vs Q E hr h => ?_)
  · obtain ⟨t, xs, rfl, _⟩ := h
    rfl
  obtain ⟨t, xs, rfl, ht, q⟩ := h
  refine ⟨_, PSs.nox (pss_cons (ps_if (pt_val (pe_callB call_isi (by rfl) B.isi (by decide +kernel) (pa_cons (pv 0) (pa_cons (pe_bltn (v := .ty "list") (by rfl) B.list (by decide +kernel) rfl) pa_nil)))) (pss_one (ps_ret pe_no)) pss_nil)
    (pss_cons (ps_if (pt_val (pe_callB call_isi (by rfl) B.isi (by decide +kernel) (pa_cons (pv 0) (pa_cons (pe_bltn (v := .ty "dict") (by rfl) B.dict (by decide +kernel) rfl) pa_nil)))) (pss_one (ps_ret pe_no)) pss_nil)
    (pss_one (ps_ret (pe_lst pa_nil))))), ?_⟩
  refine ⟨_, rfl, _, _, _, _, false, rfl, .ty "list", .base (.tup ht), kit_ty (by decide +kernel), _, rfl, iteF ?_⟩
  refine ⟨_, rfl, _, _, _, _, false, rfl, .ty "dict", .base (.tup ht), kit_ty (by decide +kernel), _, rfl, iteF ?_⟩
  exact ⟨(by show 0 ≤ sizeLine; decide), fun l hl => q l hl⟩
/-! ### parts_of -/
def spParts : Sp := fun vs H Q _ => ∃ (t : Addr) (xs : List V), vs = [.ref t] ∧ H t = some (.tup xs) ∧ ∀ l H', Same H H' → H' l = some (.lst [.ref t]) → Q (.ref l) H'
theorem scParts : FnScope ["value", "parts", "at"] ["value"] (defScope (top 44)) := ⟨rfl, rfl, rfl, by decide +kernel, rfl, by decide +kernel, by decide +kernel⟩
theorem ok_parts (F : FnD K "parts_of" 44 f fd) (B : Bl mg) (G : FnD K "inner_parts" 43 g gd) (gG : mg "inner_parts" = some (.ref g)) : FnOk P w K mg base CX0 2 f fd ["value"] spParts := by
  have GI : FnOk P w K mg base CX0 1 g gd ["value"] spInner := ok_inner G B
  have bI : Binds K gd ["value"] [] := G.bindsN fun _ _ _ _ _ _ us hl => match us, hl with | [_], _ => rfl
  refine F.ok scParts (fun vs H Q E h => ?_) (fun cdv A outer s H vs Q E hr h => ?_)
  · obtain ⟨t, xs, rfl, _⟩ := h
    rfl
  obtain ⟨t, xs, rfl, ht, q⟩ := h
  refine ⟨_, PSs.nox (pss_cons (ps_set (i := 1) scParts.nd rfl (Or.inl rfl) (pe_lst (pa_cons (pv 0) pa_nil)))
    (pss_cons (ps_set (i := 2) scParts.nd rfl (Or.inl rfl) pe_int)
    (pss_cons (ps_while PassesOwn.never (pt_cmpR op_lt (pv 2) (pe_callB call_len_seq (by rfl) B.len PySem.boot_len (pa_cons (pv 1) pa_nil)) (nomark _))
      (pss_cons (ps_expr (pe_bm PySem.F.plainAttrs_list PySem.F.slot_list_extend PySem.F.type_list_extend mt_extend (pv 1)
        (pa_cons (pe_call GI hr rfl gG G.kp bI .nil pass0 (pa_cons (pe_ix ix_list (pv 1) (pv 2) (fun _ _ => rfl)) pa_nil)) pa_nil)))
      (pss_one (ps_aug (i := 2) scParts.nd rfl (Or.inl rfl) pe_int ip_add))))
    (pss_one (ps_ret (pv 1)))))), ?_⟩
  refine ⟨_, rfl, (by show 1 ≤ sizeLine; decide), fun l hl => ?_⟩
  have k1 := same_new hl (.lst [.ref t])
  refine ⟨fun m σ H' => ∃ n : Nat, m + n = 1 ∧ σ = [some (.ref t), some (.ref l), some (.int n)] ∧ H' l = some (.lst [.ref t]) ∧ Same H H', ⟨1, 0, rfl, rfl, upd_same, k1⟩, ?_⟩
  rintro m σ H' ⟨n, hmn, rfl, hH, k⟩
  refine ⟨_, rfl, _, rfl, l, _, rfl, .inl (SqL.of hH), _, _, rfl, rfl, _, rfl, ?_⟩
  refine ite2 (fun c => ?_) (fun c => ?_)
  · have c' : (n : Int) < 1 := of_decide_eq_true c
    have hn : n = 0 := by omega
    have hm : m = 1 := by omega
    subst hn
    subst hm
    refine ⟨fun σ' H' => σ' = [some (.ref t), some (.ref l), some (.int ((1 : Nat) : Int))] ∧ H' l = some (.lst [.ref t]) ∧ Same H H', fun σ' H' z => ⟨0, by omega, 1, rfl, z⟩, ?_⟩
    refine ⟨_, rfl, .inl ⟨rfl, _, SqL.of hH⟩, _, rfl, _, rfl, l, _, _, _, rfl, rfl, SqL.of hH, atI_nat (j := 0) rfl, ?_⟩
    refine ⟨t, xs, rfl, k _ _ ht, fun b hb => ?_⟩
    have nlb : l ≠ b := ne_of_none hH hb
    refine ⟨l, b, [.ref t], [], rfl, rfl, ?_, upd_same, (by show 1 ≤ sizeLine; decide), ?_⟩
    · rw [upd_ne nlb]
      exact hH
    · refine ⟨_, rfl, _, _, rfl, rfl, rfl, upd_same, fun c o e => ?_⟩
      by_cases ec : c = l
      · rw [ec, hl] at e
        cases e
      · rw [upd_ne ec]
        exact (k.trans (same_new hb _)) c o e
  · exact ⟨_, rfl, q l H' k hH⟩
end
end M13
set_option Elab.async false
set_option linter.all false
set_option maxRecDepth 100000
set_option maxHeartbeats 4000000
namespace M13
open PySem PySem.Spec L2
open PyProof.Rows (envOfC)
section
variable {X : Cx} {C fI : Addr}
/-- C(e), to be raised: its own dict d, new, holds the value -/
def tMkErr (C : Addr) (ta : TA) : L2.St → Hp → XK → Prop := fun σ H Q => ta σ H fun vs H1 => ∃ v, vs = [v] ∧ ∀ d, H1 d = none → Q (.ref C) (some d) (upd H1 d (.xd [(("value" : Str), v)]))
theorem pmk_err {x : Str} {e : Expr} {ta : TA} {p pos : Pos} {k : Nat} (T : ErrT X.K C fI) (T0 : InitT X.K fI) (gC : X.mg x = some (.ref C)) (hr : Room k X.A) (ha : PA X [e] ta) (hg : Gl X x := by rfl)
    (hdb : (x == ("__debug__" : Str)) = false := by decide)
    (hs : starEach (e :: []) X.env = (false, eval e X.env) :: starEach [] X.env := by rfl) (hpl : (backTo pos (starEach [] X.env)).any (·.1) = false := by rfl) :
    PMk X (.Call (.Name x p) [e] [] pos) (tMkErr C ta) := by
  intro pins s σ H Q I h
  refine wpAny_Call_Name_kw (ld_glob I hg gC ?_ hdb)
  refine PySem.W.callWith_K (h₀ := X.base) I.ok.mod.kin T.kC (thn (ha.run pos pins s σ H _ I h) fun us s1 hh => ?_) hs hpl
  obtain ⟨vs, H1, I1, r1, v, ev, q1⟩ := hh
  subst ev
  refine ⟨I1.kIn, ?_⟩
  cases r1 with
  | cons rv rn =>
    rename_i v' us'
    cases rn
    show wpAny _ _ (call (.ref C) [v']) _ _ _
    have hlim := I1.nolimit
    obtain ⟨hp, g, dr, tk, os⟩ := s1
    refine wpAny_call (err_made T T0 I1.kIn hlim (by have := hr.dp; omega) fun h' tk' e d M => ?_)
    show MkP X pins σ Q (.ref e) ⟨h', g, dr, tk', os⟩
    obtain ⟨t0, hoe⟩ := M.obj
    have hns := M.ns
    obtain ⟨G', g1, g2⟩ := restrict h' fun b => decide (b ≠ e)
    have gk : ∀ b, b ≠ e → G'.get? b = h'.get? b := fun b hb => g1 b (decide_eq_true hb)
    have ge : G'.get? e = none := g2 e (by simp)
    have old : ∀ b o, hp.get? b = some o → G'.get? b = some o := fun b o q => (gk b (Nat.ne_of_lt (Nat.lt_of_lt_of_le (Heap.lt_size q) M.new))).trans (M.keep b o q)
    have ob : ObjOk X.prog X.w (upd H1 d (.xd [(("value" : Str), v)])) G' d (.xd [(("value" : Str), v)]) :=
      ⟨_, hns.at (fun o q => (gk d M.dne).trans q), fun f => relO_val rv f⟩
    have J : Inv X pins σ (upd H1 d (.xd [(("value" : Str), v)])) ⟨G', g, dr, tk', os⟩ := I1.laid (t' := tk') old M.dbig ob
    refine ⟨e, _, _, ⟨G', g, dr, tk', os⟩, _, .ref C, some d, rfl, J, fun b o q => ?_, ge, hoe, ⟨rfl, rfl⟩, rfl, rfl, ?_, rfl, I1.bare, raises_own T.exC T.tyC, q1 d (I1.hok.fresh M.dbig)⟩
    · by_cases hb : b = e
      · have q' : G'.get? b = some o := q
        rw [hb, ge] at q'; cases q'
      · exact (gk b hb).symm.trans q
    · rw [upd_ne (Ne.symm M.dne)]
      exact I1.hok.fresh M.new
end
section
variable {P : Program} {w : World} {K : PySem.W.Frag} {mg : Str → Option Value} {base : Heap} {f g g2 : Addr} {fd gd gd2 : FuncData}
/-! ### is_document: of a tuple False -/
def spIsDoc : Sp := fun vs H Q _ => ∃ (t : Addr) (xs : List V), vs = [.ref t] ∧ H t = some (.tup xs) ∧ ∀ H', Same H H' → Q (.bl false) H'
theorem scIsDoc : FnScope ["value", "part"] ["value"] (defScope (top 45)) := ⟨rfl, rfl, rfl, by decide +kernel, rfl, by decide +kernel, by decide +kernel⟩
theorem ok_isdoc (F : FnD K "is_document" 45 f fd) (B : Bl mg) (GP : FnOk P w K mg base CX0 2 g gd ["value"] spParts) (bP : Binds K gd ["value"] []) (kP : PySem.W.keepIn K (.ref g) = true) (gP : mg "parts_of" = some (.ref g))
    (GS : FnOk P w K mg base CX0 1 g2 gd2 ["value"] spSort) (bS : Binds K gd2 ["value"] []) (kS : PySem.W.keepIn K (.ref g2) = true) (gS : mg "sort_of" = some (.ref g2)) : FnOk P w K mg base CX0 3 f fd ["value"] spIsDoc := by
  refine F.ok scIsDoc (fun vs H Q E h => ?_) (fun cdv A outer s H vs Q E hr h => ?_)
  · obtain ⟨t, xs, rfl, _⟩ := h
    rfl
  obtain ⟨t, xs, rfl, ht, q⟩ := h
  have hr1 : Room 1 _ := hr.mono (by decide)
  refine ⟨_, PSs.nox (pss_one (ps_ret (pe_callB (cr_all rfl) (by rfl) B.all (by decide +kernel) (pa_cons
    (pe_lc (own := [("part", 1)]) (g := gName 1) (tt := tYes) rfl scIsDoc.nd (pi_list (pe_call GP hr rfl gP kP bP .nil pass0 (pa_cons (pv 0) pa_nil))) (blkOk_by (N := ["value", "part"]) (sc := defScope (top 45)) (by decide +kernel))
      (fun _ _ _ _ _ => pg_name (i := 1) scIsDoc.nd rfl (Or.inl rfl)) (fun _ _ _ _ _ => pts_nil)
      (fun _ _ _ _ _ => pe_cmpR op_notN (pe_call GS hr1 rfl gS kS bS .nil pass0 (pa_cons (pv 1) pa_nil)) pe_non (nomark _))) pa_nil)))), ?_⟩
  refine ⟨_, rfl, t, xs, rfl, ht, fun l H' k hl => ?_⟩
  refine ⟨l, rfl, ⟨_, SqL.of hl⟩, fun D hD => ?_⟩
  refine lc_list (K := K) (a := l) (xs := [.ref t]) (fun i H2 => Same H' H2 ∧ H2 D = some (.lst (List.replicate i (.bl false)))) ⟨same_new hD _, upd_same⟩ (fun i H2 _ z => SqL.of (z.1 _ _ hl)) ?_ ?_
  · rintro i x H2 hx ⟨k2, hD2⟩
    have hi : i = 0 := by
      cases i with
      | zero => rfl
      | succ i => simp at hx
    subst hi
    cases hx
    refine ⟨rfl, ?_⟩
    simp only [tYes, if_true]
    refine ⟨_, rfl, t, xs, rfl, k2 _ _ (k _ _ ht), rfl, _, hD2, (by show 0 < sizeLine; decide), fun c o e => ?_, upd_same⟩
    by_cases ec : c = D
    · rw [ec, hD] at e
      cases e
    · rw [upd_ne ec]
      exact k2 c o e
  · rintro H2 ⟨k2, hD2⟩
    refine ⟨D, [false], rfl, SqL.of hD2, ?_⟩
    exact q H2 (k.trans k2)
/-! ### size: of a tuple it raises -/
def spSize (C : Addr) : Sp := fun vs H _ E => ∃ (t : Addr) (xs : List V), vs = [.ref t] ∧ H t = some (.tup xs) ∧ ∀ d H', Same H H' → H' d = some (.xd [(("value" : Str), .ref t)]) → E (.ref C) (some d) H'
theorem scSize : FnScope ["document"] ["document"] (defScope (top 46)) := ⟨rfl, rfl, rfl, by decide +kernel, rfl, by decide +kernel, by decide +kernel⟩
theorem ok_size {C fI : Addr} (F : FnD K "size" 46 f fd) (GD : FnOk P w K mg base CX0 3 g gd ["value"] spIsDoc) (bD : Binds K gd ["value"] []) (kD : PySem.W.keepIn K (.ref g) = true) (gD : mg "is_document" = some (.ref g))
    (T : ErrT K C fI) (T0 : InitT K fI) (gC : mg "NoDocument" = some (.ref C)) : FnOk P w K mg base (L2.CX P w) 4 f fd ["document"] (spSize C) := by
  refine F.ok scSize (fun vs H Q E h => ?_) (fun cdv A outer s H vs Q E hr h => ?_)
  · obtain ⟨t, xs, rfl, _⟩ := h
    rfl
  obtain ⟨t, xs, rfl, ht, q⟩ := h
  refine ⟨_, pss_cons (ps_if (pt_not (pt_val (pe_call GD hr rfl gD kD bD .nil pass0 (pa_cons (pv 0) pa_nil)))) (pss_one (ps_raise rfl (takes_of rfl rfl rfl rfl) (pmk_err T T0 gC hr (pa_cons (pv 0) pa_nil)))) pss_nil)
    (pss_one (ps_ret pe_no)), ?_⟩
  refine ⟨_, rfl, t, xs, rfl, ht, fun H' k => ⟨_, rfl, iteT ?_⟩⟩
  refine ⟨_, rfl, _, rfl, fun d hd => ?_⟩
  exact q d _ (k.trans (same_new hd _)) upd_same
end
end M13
set_option Elab.async false
set_option linter.all false
set_option maxRecDepth 100000
set_option maxHeartbeats 4000000
/-! M13K: the pot: made, drawn from. -/
namespace M13
open PySem PySem.Spec L2
open PyProof.Rows (envOfC)
/-- all but what stands at p is as it was -/
def Ch (p : Addr) (H H' : Hp) : Prop := ∀ b o, b ≠ p → H b = some o → H' b = some o
theorem Ch.refl (p : Addr) (H : Hp) : Ch p H H := fun _ _ _ e => e
theorem Ch.trans {p : Addr} {H H1 H2 : Hp} (a : Ch p H H1) (b : Ch p H1 H2) : Ch p H H2 := fun c o n e => b c o n (a c o n e)
theorem Ch.same {p : Addr} {H H' : Hp} (k : Same H H') : Ch p H H' := fun b o _ e => k b o e
theorem ch_upd {p : Addr} {H : Hp} {o : HO} : Ch p H (upd H p o) := fun b u n e => by rw [upd_ne n]; exact e
/-- a pot at p from which at most c numbers were stirred -/
def PotAt (H : Hp) (p : Addr) (c : Nat) : Prop := ∃ (a b k : Int), H p = some (.lst [.int a, .int b, .int k]) ∧ 0 ≤ b ∧ b < 2305843009213693921 ∧ 0 ≤ k ∧ k ≤ (c : Int)
theorem PotAt.same {H H' : Hp} {p : Addr} {c : Nat} (h : PotAt H p c) (k : Same H H') : PotAt H' p c := by
  obtain ⟨a, b, n, h1, h2⟩ := h
  exact ⟨a, b, n, k _ _ h1, h2⟩
theorem PotAt.mono {H : Hp} {p : Addr} {c d : Nat} (h : PotAt H p c) (k : c ≤ d) : PotAt H p d := by
  obtain ⟨a, b, n, h1, h2, h3, h4, h5⟩ := h
  exact ⟨a, b, n, h1, h2, h3, h4, by omega⟩
theorem PotAt.lst {H : Hp} {p : Addr} {c : Nat} (h : PotAt H p c) : ∃ xs, H p = some (.lst xs) := by
  obtain ⟨a, b, n, h1, _⟩ := h
  exact ⟨_, h1⟩
theorem prime_at (k : Int) : ∃ z : Int, atI ([.int 2147483647, .int 2147483629, .int 2147483587, .int 2147483579, .int 2147483563] : List V) (k % 5) = some (.int z) ∧ 2147483563 ≤ z ∧ z ≤ 2147483647 := by
  have h1 : 0 ≤ k % 5 := Int.emod_nonneg _ (by decide)
  have h2 : k % 5 < 5 := Int.emod_lt_of_pos _ (by decide)
  generalize k % 5 = r at h1 h2
  have h : r = 0 ∨ r = 1 ∨ r = 2 ∨ r = 3 ∨ r = 4 := by omega
  rcases h with rfl | rfl | rfl | rfl | rfl
  · exact ⟨_, rfl, by decide, by decide⟩
  · exact ⟨_, rfl, by decide, by decide⟩
  · exact ⟨_, rfl, by decide, by decide⟩
  · exact ⟨_, rfl, by decide, by decide⟩
  · exact ⟨_, rfl, by decide, by decide⟩
theorem stir_ok {b k : Int} (hb : 0 ≤ b) (hb2 : b < 2305843009213693921) (hk : 0 ≤ k) (hk2 : k ≤ 2000) : (b + 80021 * k * k + 59).natAbs < 2 ^ 64 := by
  have h1 : k * k ≤ 2000 * 2000 := Int.mul_le_mul hk2 hk2 hk (by omega)
  have h0 : 0 ≤ k * k := Int.mul_nonneg hk hk
  have e : 80021 * k * k = 80021 * (k * k) := Int.mul_assoc _ _ _
  rw [e]
  omega
section
variable {P : Program} {w : World} {K : PySem.W.Frag} {mg : Str → Option Value} {base : Heap} {f g g2 : Addr} {fd gd gd2 : FuncData}
/-! ### _law_take -/
def spTake : Sp := fun vs H Q _ => ∃ (p : Addr) (u : Int) (c : Nat), vs = [.ref p, .int u] ∧ 1 ≤ u ∧ u ≤ 1000 ∧ PotAt H p c ∧ c ≤ 1000 ∧
  ∀ (n : Int) (H' : Hp), 0 ≤ n → n < u → Ch p H H' → PotAt H' p (c + 1) → Q (.int n) H'
theorem scTake : FnScope ["_law_pot", "_law_upto", "_law_digit", "_law_prime", "_law_stirred"] ["_law_pot", "_law_upto"] (defScope (top 49)) := ⟨rfl, rfl, rfl, by decide +kernel, rfl, by decide +kernel, by decide +kernel⟩
theorem ok_take (F : FnD K "_law_take" 49 f fd) (B : Bl mg) : FnOk P w K mg base CX0 1 f fd ["_law_pot", "_law_upto"] spTake := by
  refine F.ok scTake (fun vs H Q E h => ?_) (fun cdv A outer s H vs Q E hr h => ?_)
  · obtain ⟨p, u, c, rfl, _⟩ := h
    rfl
  obtain ⟨p, u, c, rfl, u1, u2, ⟨a, b, k, hp, b1, b2, k1, k2⟩, hc, q⟩ := h
  refine ⟨_, PSs.nox (pss_cons (ps_if (pt_cmpR op_gt (pe_ix ix_list (pv 0) pe_int (fun _ _ => rfl)) pe_int (nomark _))
      (pss_cons (ps_set (i := 2) scTake.nd rfl (Or.inl rfl) (pe_op op_mod (pe_callTy call_int1 (by rfl) B.int (by decide +kernel) (pa_cons (pe_ix ix_list (pv 0) pe_int (fun _ _ => rfl)) pa_nil)) (pv 1)))
      (pss_cons (ps_asg (pe_op op_fdiv (pe_ix ix_list (pv 0) pe_int (fun _ _ => rfl)) (pv 1)) (pg_sub (pv 0) pe_int set_list))
      (pss_one (ps_ret (pv 2))))) pss_nil)
    (pss_cons (ps_asg (pe_op op_add (pe_ix ix_list (pv 0) pe_int (fun _ _ => rfl)) pe_int) (pg_sub (pv 0) pe_int set_list))
    (pss_cons (ps_set (i := 3) scTake.nd rfl (Or.inl rfl) (pe_ix ix_list (pe_lst (pa_cons pe_int (pa_cons pe_int (pa_cons pe_int (pa_cons pe_int (pa_cons pe_int pa_nil))))))
        (pe_op op_mod (pe_callTy call_int1 (by rfl) B.int (by decide +kernel) (pa_cons (pe_ix ix_list (pv 0) pe_int (fun _ _ => rfl)) pa_nil)) pe_int) (fun _ _ => rfl)))
    (pss_cons (ps_set (i := 4) scTake.nd rfl (Or.inl rfl) (pe_op op_mod (pe_callTy call_int1 (by rfl) B.int (by decide +kernel) (pa_cons
        (pe_op op_pow (pe_op op_add (pe_op op_add (pe_ix ix_list (pv 0) pe_int (fun _ _ => rfl)) (pe_op op_mul (pe_op op_mul pe_int (pe_ix ix_list (pv 0) pe_int (fun _ _ => rfl))) (pe_ix ix_list (pv 0) pe_int (fun _ _ => rfl)))) pe_int) pe_int) pa_nil)) (pv 3)))
    (pss_one (ps_ret (pe_op op_mod (pe_callTy call_int1 (by rfl) B.int (by decide +kernel) (pa_cons
        (pe_op op_fdiv (pe_op op_mul (pv 4) (pe_op op_add (pe_op op_mod (pe_callTy call_int1 (by rfl) B.int (by decide +kernel) (pa_cons (pv 4) pa_nil)) pe_int)
          (pe_op op_mul pe_int (pe_ix ix_list (pv 0) pe_int (fun _ _ => rfl))))) pe_int) pa_nil)) (pv 1)))))))), ?_⟩
  refine ⟨_, rfl, p, _, 0, .int a, rfl, rfl, SqL.of hp, rfl, _, _, rfl, rfl, _, rfl, ?_⟩
  refine ite2 (fun _ => ?_) (fun _ => ?_)
  · refine ⟨_, rfl, p, _, 0, .int a, rfl, rfl, SqL.of hp, rfl, .inl ⟨_, rfl, _, rfl, _, _, rfl, rfl, (by omega), ?_⟩⟩
    refine ⟨_, rfl, p, _, 0, .int a, rfl, rfl, SqL.of hp, rfl, _, rfl, _, _, rfl, rfl, ⟨by omega, by omega⟩, ?_⟩
    refine ⟨_, rfl, p, _, _, 0, rfl, rfl, hp, rfl, ?_⟩
    refine ⟨_, rfl, ?_⟩
    exact q _ _ (Int.emod_nonneg _ (by omega)) (Int.emod_lt_of_pos _ (by omega)) ch_upd ⟨_, b, k, upd_same, b1, b2, k1, by omega⟩
  · refine ⟨_, rfl, p, _, 2, .int k, rfl, rfl, SqL.of hp, rfl, _, _, rfl, rfl, ?_⟩
    refine ⟨_, rfl, p, _, _, 2, rfl, rfl, hp, rfl, ?_⟩
    have e1 : upd H p (.lst [.int a, .int b, .int (k + 1)]) p = some (.lst [.int a, .int b, .int (k + 1)]) := upd_same
    obtain ⟨z, hz, z1, z2⟩ := prime_at (k + 1)
    refine ⟨(by show 5 ≤ sizeLine; decide), fun l hl => ?_⟩
    have e2 : upd (upd H p (.lst [.int a, .int b, .int (k + 1)])) l (.lst [.int 2147483647, .int 2147483629, .int 2147483587, .int 2147483579, .int 2147483563]) p = some (.lst [.int a, .int b, .int (k + 1)]) := by
      rw [upd_ne (ne_of_none e1 hl)]
      exact e1
    refine ⟨_, rfl, p, _, 2, .int (k + 1), rfl, rfl, SqL.of e2, rfl, .inl ⟨_, rfl, _, _, rfl, rfl, (by show (0 : Int) < 5; decide), l, _, _, .int z, rfl, rfl, SqL.of upd_same, hz, ?_⟩⟩
    refine ⟨_, rfl, p, _, 1, .int b, rfl, rfl, SqL.of e2, rfl, _, rfl, p, _, 2, .int (k + 1), rfl, rfl, SqL.of e2, rfl, _, _, rfl, rfl, .inl ⟨by decide, by decide⟩, ?_⟩
    refine ⟨_, rfl, p, _, 2, .int (k + 1), rfl, rfl, SqL.of e2, rfl, _, _, rfl, rfl, .inl ⟨by omega, by omega⟩, _, _, rfl, rfl, _, _, rfl, rfl, _, _, rfl, rfl, ⟨by decide, by decide, stir_ok b1 b2 (by omega) (by omega)⟩, ?_⟩
    refine .inl ⟨_, rfl, _, rfl, _, _, rfl, rfl, (by omega), ?_⟩
    have s1 := Int.emod_nonneg ((b + 80021 * (k + 1) * (k + 1) + 59) ^ (3 : Int).toNat) (b := z) (by omega)
    have s2 := Int.emod_lt_of_pos ((b + 80021 * (k + 1) * (k + 1) + 59) ^ (3 : Int).toNat) (b := z) (by omega)
    refine ⟨_, rfl, _, rfl, .inl ⟨_, rfl, _, _, rfl, rfl, (by show (0 : Int) < 10009; decide), ?_⟩⟩
    refine ⟨_, rfl, p, _, 2, .int (k + 1), rfl, rfl, SqL.of e2, rfl, _, _, rfl, rfl, .inl ⟨by decide, by decide⟩, _, _, rfl, rfl, _, _, rfl, rfl, .inl ⟨by omega, by omega⟩, ?_⟩
    refine ⟨_, _, rfl, rfl, ⟨by decide, by decide⟩, .inl ⟨_, rfl, _, rfl, _, _, rfl, rfl, (by omega), ?_⟩⟩
    refine q _ _ (Int.emod_nonneg _ (by omega)) (Int.emod_lt_of_pos _ (by omega)) (ch_upd.trans (Ch.same (same_new hl _))) ⟨a, b, k + 1, e2, b1, b2, by omega, by omega⟩
end
end M13
set_option Elab.async false
set_option linter.all false
set_option maxRecDepth 100000
set_option maxHeartbeats 4000000
namespace M13
open PySem PySem.Spec L2
open PyProof.Rows (envOfC)
/-- a ** b of ints that stay below 2 ^ 27 bits -/
theorem op_powB {X : Cx} : OpR X (binaryOp .Pow) (rI (fun i j => 0 ≤ j ∧ (Builtin.Int.intBits i : Int) * j ≤ 2 ^ 27) fun i j => .int (i ^ j.toNat)) := opI fun _ _ _ _ _ _ _ hc q => PyProof.Rows.pow_int hc.1 hc.2 q
theorem b01 (b : Bool) : -(2 ^ 64) < (if b = true then (1 : Int) else 0) ∧ (if b = true then (1 : Int) else 0) < 2 ^ 64 := by cases b <;> decide
section
variable {P : Program} {w : World} {K : PySem.W.Frag} {mg : Str → Option Value} {base : Heap} {f g g2 : Addr} {fd gd gd2 : FuncData}
/-! ### _law_of -/
def spOf : Sp := fun vs H Q _ => ∃ (p a : Addr) (xs : List V) (c : Nat), vs = [.ref p, .ref a] ∧ H a = some (.lst xs) ∧ a ≠ p ∧ 1 ≤ xs.length ∧ xs.length ≤ 1000 ∧ PotAt H p c ∧ c ≤ 1000 ∧
  ∀ (x : V) (H' : Hp), x ∈ xs → Ch p H H' → PotAt H' p (c + 1) → Q x H'
theorem scOf : FnScope ["_law_pot", "_law_some"] ["_law_pot", "_law_some"] (defScope (top 50)) := ⟨rfl, rfl, rfl, by decide +kernel, rfl, by decide +kernel, by decide +kernel⟩
theorem ok_of (F : FnD K "_law_of" 50 f fd) (B : Bl mg) (G : FnOk P w K mg base CX0 1 g gd ["_law_pot", "_law_upto"] spTake) (bG : Binds K gd ["_law_pot", "_law_upto"] []) (kG : PySem.W.keepIn K (.ref g) = true) (gG : mg "_law_take" = some (.ref g)) :
    FnOk P w K mg base CX0 2 f fd ["_law_pot", "_law_some"] spOf := by
  refine F.ok scOf (fun vs H Q E h => ?_) (fun cdv A outer s H vs Q E hr h => ?_)
  · obtain ⟨p, a, xs, c, rfl, _⟩ := h
    rfl
  obtain ⟨p, a, xs, c, rfl, ha, nap, l1, l2, hp, hc, q⟩ := h
  refine ⟨_, PSs.nox (pss_one (ps_ret (pe_ix ix_list (pv 1) (pe_call G hr rfl gG kG bG .nil pass0 (pa_cons (pv 0) (pa_cons (pe_callB call_len_seq (by rfl) B.len PySem.boot_len (pa_cons (pv 1) pa_nil)) pa_nil))) (fun _ _ => rfl)))), ?_⟩
  refine ⟨_, rfl, _, rfl, _, rfl, a, xs, rfl, .inl (SqL.of ha), p, _, c, rfl, by omega, by omega, hp, hc, fun n H' n0 n1 k hp' => ?_⟩
  have hn : n.toNat < xs.length := by omega
  have en : n = ((n.toNat : Nat) : Int) := by omega
  have at_ : atI xs ((n.toNat : Nat) : Int) = some xs[n.toNat] := atI_nat (List.getElem?_eq_getElem hn)
  rw [← en] at at_
  exact ⟨a, xs, n, xs[n.toNat], rfl, rfl, SqL.of (k _ _ nap ha), at_, q _ _ (List.getElem_mem hn) k hp'⟩
/-! ### _law_pot_of -/
def spPot (K : PySem.W.Frag) : Sp := fun vs H Q _ => ∃ (a : Addr) (ns : List Int) (k : Int), vs = [.ref a, .int k] ∧ SqL K H a (ns.map V.int) ∧ 0 ≤ k ∧ k ≤ 2 ∧
  ∀ (p : Addr) (H' : Hp), Same H H' → H p = none → PotAt H' p 0 → Q (.ref p) H'
theorem scPot : FnScope ["_law_script", "_law_k", "_law_cell", "_law_own"] ["_law_script", "_law_k"] (defScope (top 48)) := ⟨rfl, rfl, rfl, by decide +kernel, rfl, by decide +kernel, by decide +kernel⟩
theorem ok_pot (F : FnD K "_law_pot_of" 48 f fd) (B : Bl mg) : FnOk P w K mg base CX0 1 f fd ["_law_script", "_law_k"] (spPot K) := by
  refine F.ok scPot (fun vs H Q E h => ?_) (fun cdv A outer s H vs Q E hr h => ?_)
  · obtain ⟨a, ns, k, rfl, _⟩ := h
    rfl
  obtain ⟨a, ns, k, rfl, hS, k1, k2, q⟩ := h
  refine ⟨_, PSs.nox (pss_cons (ps_set (i := 2) scPot.nd rfl (Or.inl rfl) (pe_ifExp (pt_cmpR op_lt (pv 1) (pe_callB call_len_seq (by rfl) B.len PySem.boot_len (pa_cons (pv 0) pa_nil)) (nomark _))
        (pe_ix ix_list (pv 0) (pv 1) (fun _ _ => rfl)) (pe_op op_add (pe_op op_mul pe_int (pv 1)) pe_int)))
    (pss_cons (ps_set (i := 3) scPot.nd rfl (Or.inl rfl) (pe_op op_mul
        (pe_op op_mod (pe_callTy call_int1 (by rfl) B.int (by decide +kernel) (pa_cons (pe_callB call_abs (by rfl) B.abs (by decide +kernel) (pa_cons (pv 2) pa_nil)) pa_nil)) (pe_op op_powB (pe_op op_pow pe_int pe_int) pe_int))
        (pe_callTy call_int1 (by rfl) B.int (by decide +kernel) (pa_cons (pe_cmpR op_ge (pe_callB call_abs (by rfl) B.abs (by decide +kernel) (pa_cons (pv 2) pa_nil)) (pe_op op_pow pe_int pe_int) (nomark _)) pa_nil))))
    (pss_one (ps_ret (pe_lst (pa_cons (pv 3) (pa_cons (pe_op op_mod (pe_callTy call_int1 (by rfl) B.int (by decide +kernel) (pa_cons
        (pe_op op_add (pe_op op_add (pe_op op_mul (pe_op op_mod (pe_callTy call_int1 (by rfl) B.int (by decide +kernel) (pa_cons (pv 2) pa_nil)) pe_int) pe_int)
          (pe_op op_mul (pe_op op_mul pe_int (pv 1)) (pv 1))) pe_int) pa_nil)) pe_int) (pa_cons pe_int pa_nil)))))))), ?_⟩
  refine ⟨_, rfl, _, rfl, a, _, rfl, .inl hS, _, _, rfl, rfl, _, rfl, ?_⟩
  refine ite2 (fun c => ?b1) (fun c => ?b2)
  case b1 =>
    have c' : k < (((ns.map V.int).length : Nat) : Int) := of_decide_eq_true c
    rw [List.length_map] at c'
    have hk : k.toNat < ns.length := by omega
    have ek : k = ((k.toNat : Nat) : Int) := by omega
    have at_ : atI (ns.map V.int) ((k.toNat : Nat) : Int) = some (.int ns[k.toNat]) := atI_nat (by rw [List.getElem?_map, List.getElem?_eq_getElem hk] <;> rfl)
    rw [← ek] at at_
    refine ⟨_, rfl, _, rfl, a, _, _, _, rfl, rfl, hS, at_, ?_⟩
    generalize ns[k.toNat] = cell
    refine ⟨_, rfl, _, rfl, .inl ⟨_, rfl, _, _, rfl, rfl, ⟨by decide, by decide, by decide⟩, _, _, rfl, rfl, ⟨by decide, by decide +kernel⟩, _, _, rfl, rfl, (by show (0 : Int) < _; decide +kernel), ?_⟩⟩
    refine ⟨_, rfl, _, rfl, _, _, rfl, rfl, ⟨by decide, by decide, by decide⟩, _, _, rfl, rfl, .inr ⟨_, rfl, _, _, rfl, rfl, .inr (b01 _), ?_⟩⟩
    refine ⟨_, rfl, _, rfl, .inl ⟨_, rfl, _, _, rfl, rfl, (by show (0 : Int) < 2305843009213693951; decide), _, _, rfl, rfl, .inr ⟨by decide, by decide⟩, ?_⟩⟩
    refine ⟨_, rfl, _, _, rfl, rfl, .inl ⟨by decide, by decide⟩, _, rfl, _, _, rfl, rfl, .inl ⟨by omega, by omega⟩, _, _, rfl, rfl, _, _, rfl, rfl, .inl ⟨_, rfl, _, _, rfl, rfl, (by show (0 : Int) < 2305843009213693921; decide), ?_⟩⟩
    refine ⟨(by show 3 ≤ sizeLine; decide), fun p hp => q p _ (same_new hp _) hp ⟨_, _, 0, upd_same, Int.emod_nonneg _ (by decide), Int.emod_lt_of_pos _ (by decide), by decide, by decide⟩⟩
  case b2 =>
    refine ⟨_, rfl, _, _, rfl, rfl, .inl ⟨by decide, by decide⟩, _, _, rfl, rfl, ?_⟩
    generalize (41 * k + 23) = cell
    refine ⟨_, rfl, _, rfl, .inl ⟨_, rfl, _, _, rfl, rfl, ⟨by decide, by decide, by decide⟩, _, _, rfl, rfl, ⟨by decide, by decide +kernel⟩, _, _, rfl, rfl, (by show (0 : Int) < _; decide +kernel), ?_⟩⟩
    refine ⟨_, rfl, _, rfl, _, _, rfl, rfl, ⟨by decide, by decide, by decide⟩, _, _, rfl, rfl, .inr ⟨_, rfl, _, _, rfl, rfl, .inr (b01 _), ?_⟩⟩
    refine ⟨_, rfl, _, rfl, .inl ⟨_, rfl, _, _, rfl, rfl, (by show (0 : Int) < 2305843009213693951; decide), _, _, rfl, rfl, .inr ⟨by decide, by decide⟩, ?_⟩⟩
    refine ⟨_, rfl, _, _, rfl, rfl, .inl ⟨by decide, by decide⟩, _, rfl, _, _, rfl, rfl, .inl ⟨by omega, by omega⟩, _, _, rfl, rfl, _, _, rfl, rfl, .inl ⟨_, rfl, _, _, rfl, rfl, (by show (0 : Int) < 2305843009213693921; decide), ?_⟩⟩
    refine ⟨(by show 3 ≤ sizeLine; decide), fun p hp => q p _ (same_new hp _) hp ⟨_, _, 0, upd_same, Int.emod_nonneg _ (by decide), Int.emod_lt_of_pos _ (by decide), by decide, by decide⟩⟩
end
end M13
set_option Elab.async false
set_option linter.all false
set_option maxRecDepth 100000
set_option maxHeartbeats 4000000
/-! M13M: expressions that build data. -/
namespace M13
open PySem PySem.Spec L2
mutual
theorem Dat.ch {p : Addr} {H H' : Hp} (k : Ch p H H') (nt : ∀ xs, H p ≠ some (.tup xs)) : ∀ {x : V} {d : PyData} {as : List Addr}, Dat H x d as → p ∉ as → Dat H' x d as
  | _, _, _, .non, _ => .non
  | _, _, _, .bl b, _ => .bl b
  | _, _, _, .int i, _ => .int i
  | _, _, _, .str y, _ => .str y
  | _, _, _, .lst h q, n => .lst (k _ _ (fun e => n (e ▸ List.mem_cons_self)) h) (DatL.ch k nt q fun hm => n (List.mem_cons_of_mem _ hm))
  | _, _, _, .tup (a := a) h q, n => .tup (k _ _ (fun e => nt _ (e ▸ h)) h) (DatL.ch k nt q n)
  | _, _, _, .dic h q, n => .dic (k _ _ (fun e => n (e ▸ List.mem_cons_self)) h) (Dat.ch k nt q fun hm => n (by simp [hm]))
  | _, _, _, .dic0 h, n => .dic0 (k _ _ (fun e => n (e ▸ List.mem_cons_self)) h)
theorem DatL.ch {p : Addr} {H H' : Hp} (k : Ch p H H') (nt : ∀ xs, H p ≠ some (.tup xs)) : ∀ {xs : List V} {ds : List PyData} {as : List Addr}, DatL H xs ds as → p ∉ as → DatL H' xs ds as
  | _, _, _, .nil, _ => .nil
  | _, _, _, .cons h q, n => .cons (Dat.ch k nt h fun hm => n (List.mem_append_left _ hm)) (DatL.ch k nt q fun hm => n (List.mem_append_right _ hm))
end
theorem DatL.length {H : Hp} : ∀ {xs : List V} {ds : List PyData} {as : List Addr}, DatL H xs ds as → xs.length = ds.length
  | _, _, _, .nil => rfl
  | _, _, _, .cons _ q => congrArg (· + 1) (DatL.length q)
theorem DatL.append {H : Hp} : ∀ {xs ys : List V} {ds es : List PyData} {as bs : List Addr}, DatL H xs ds as → DatL H ys es bs → DatL H (xs ++ ys) (ds ++ es) (as ++ bs)
  | _, _, _, _, _, _, .nil, q => q
  | _, _, _, _, _, _, .cons (as := a1) h r, q => by
    rw [List.append_assoc]
    exact .cons h (DatL.append r q)
theorem DatL.mem {H : Hp} : ∀ {xs : List V} {ds : List PyData} {as : List Addr} {x : V}, DatL H xs ds as → x ∈ xs → ∃ d bs, d ∈ ds ∧ Dat H x d bs ∧ ∀ b ∈ bs, b ∈ as
  | _, _, _, _, .nil, h => nomatch h
  | _, _, _, x, .cons (x := y) h r, hm => by
    rcases List.mem_cons.mp hm with e | hm
    · subst e
      exact ⟨_, _, List.mem_cons_self, h, fun b hb => List.mem_append_left _ hb⟩
    · obtain ⟨d, bs, h1, h2, h3⟩ := DatL.mem r hm
      exact ⟨d, bs, List.mem_cons_of_mem _ h1, h2, fun b hb => List.mem_append_right _ (h3 b hb)⟩
/-- what is known of the slots and the heap while data is built, and the lists that may be taken up -/
structure Know (Γ : L2.St → Hp → Prop) (L : List Addr) : Prop where
  st : ∀ σ H H', Same H H' → Γ σ H → Γ σ H'
  old : ∀ σ H b, Γ σ H → b ∈ L → ∃ o, H b = some o
/-- new in H, or one of L -/
def Fr (H : Hp) (L as : List Addr) : Prop := ∀ b ∈ as, H b = none ∨ b ∈ L
theorem Fr.back {H H' : Hp} {L as : List Addr} (k : Same H H') (f : Fr H' L as) : Fr H L as := fun b hb => by
  rcases f b hb with e | e
  · refine .inl ?_
    cases q : H b with
    | none => rfl
    | some o =>
      rw [k b o q] at e
      cases e
  · exact .inr e
theorem Fr.app {H : Hp} {L as bs : List Addr} (f : Fr H L as) (g : Fr H L bs) : Fr H L (as ++ bs) := fun b hb => by
  rcases List.mem_append.mp hb with h | h
  · exact f b h
  · exact g b h
section
variable {X : Cx} {Γ : L2.St → Hp → Prop} {L : List Addr}
def tD (Γ : L2.St → Hp → Prop) (L : List Addr) (d : PyData) : TE := fun σ H Q => Γ σ H ∧ ∀ x H' as, Same H H' → Dat H' x d as → Fr H L as → Q x H'
def tDs (Γ : L2.St → Hp → Prop) (L : List Addr) (ds : List PyData) : TA := fun σ H Q => Γ σ H ∧ ∀ xs H' as, Same H H' → DatL H' xs ds as → Fr H L as → Q xs H'
theorem pe_mono {e : Expr} {t t' : TE} (h : PE X e t) (f : ∀ σ H Q, t' σ H Q → t σ H Q) : PE X e t' := ⟨fun pins s σ H Q I q => h.run pins s σ H Q I (f σ H Q q)⟩
theorem pa_mono {es : List Expr} {t t' : TA} (h : PA X es t) (f : ∀ σ H Q, t' σ H Q → t σ H Q) : PA X es t' := ⟨fun pos pins s σ H Q I q => h.run pos pins s σ H Q I (f σ H Q q)⟩
theorem pd_c {e : Expr} {v : V} {d : PyData} (h : PE X e (tC v)) (hd : ∀ H, Dat H v d []) : PE X e (tD Γ L d) := pe_mono h fun σ H Q q => q.2 v H [] (same_refl H) (hd H) fun b hb => nomatch hb
theorem pd_non {j pos} : PE X (.Constant .none j pos) (tD Γ L .none) := pd_c pe_non fun _ => .non
theorem pd_bl {b j pos} : PE X (.Constant (.bool b) j pos) (tD Γ L (.bool b)) := pd_c pe_bl fun _ => .bl b
theorem pd_int {i j pos} : PE X (.Constant (.int i) j pos) (tD Γ L (.int i)) := pd_c pe_int fun _ => .int i
theorem pd_str {x j pos} : PE X (.Constant (.str x) j pos) (tD Γ L (.str x)) := pd_c pe_str fun _ => .str x
theorem pd_neg {i j p1 pos} : PE X (.UnaryOp .USub (.Constant (.int i) j p1) pos) (tD Γ L (.int (-i))) :=
  pe_mono (pe_un un_neg pe_int) fun σ H Q q => ⟨i, rfl, q.2 _ H [] (same_refl H) (.int _) fun b hb => nomatch hb⟩
theorem pd_pow {p1 p2 pos j1 j2} : PE X (.BinOp (.Constant (.int 10) j1 p1) .Pow (.Constant (.int 18) j2 p2) pos) (tD Γ L (.int (10 ^ 18))) :=
  pe_mono (pe_op op_pow pe_int pe_int) fun σ H Q q => ⟨_, _, rfl, rfl, ⟨by decide, by decide, by decide⟩, q.2 _ H [] (same_refl H) (.int _) fun b hb => nomatch hb⟩
theorem pds_nil : PA X [] (tDs Γ L []) := pa_mono pa_nil fun σ H Q q => q.2 [] H [] (same_refl H) .nil fun b hb => nomatch hb
theorem pds_cons {e : Expr} {es : List Expr} {d : PyData} {ds : List PyData} (W : Know Γ L) (h : PE X e (tD Γ L d)) (r : PA X es (tDs Γ L ds))
    (he : starEach (e :: es) X.env = (false, eval e X.env) :: starEach es X.env := by rfl) : PA X (e :: es) (tDs Γ L (d :: ds)) :=
  pa_mono (pa_cons h r he) fun σ H Q q => ⟨q.1, fun x H1 as k hd f => ⟨W.st _ _ _ k q.1, fun xs H2 bs k2 hds g => q.2 (x :: xs) H2 (as ++ bs) (k.trans k2) (.cons (hd.same k2) hds) (f.app (g.back k))⟩⟩
theorem new_of {H H' : Hp} {p : Addr} (k : Same H H') (h : H' p = none) : H p = none := by
  cases q : H p with
  | none => rfl
  | some o =>
    rw [k p o q] at h
    cases h
theorem pd_tup {es : List Expr} {ds : List PyData} {x1 pos} (r : PA X es (tDs Γ L ds)) (hz : ds.length ≤ 1000 := by first | decide | exact (by decide : 1 ≤ 1000) | exact (by decide : 2 ≤ 1000) | exact (by decide : 3 ≤ 1000)) : PE X (.Tuple es x1 pos) (tD Γ L (.tuple ds)) :=
  pe_mono (pe_tup r) fun σ H Q q => ⟨q.1, fun xs H1 as k hds f => ⟨by rw [hds.length]; exact Nat.le_of_lt (small1000 hz), fun p hp => q.2 _ _ _ (k.trans (same_new hp _)) (.tup upd_same (hds.same (same_new hp _))) f⟩⟩
theorem pd_lst {es : List Expr} {ds : List PyData} {pos} (r : PA X es (tDs Γ L ds)) (hz : ds.length ≤ 1000 := by first | decide | exact (by decide : 1 ≤ 1000) | exact (by decide : 2 ≤ 1000) | exact (by decide : 3 ≤ 1000)) : PE X (.List es pos) (tD Γ L (.list ds)) :=
  pe_mono (pe_lst r) fun σ H Q q => ⟨q.1, fun xs H1 as k hds f => ⟨by rw [hds.length]; exact Nat.le_of_lt (small1000 hz), fun p hp => q.2 _ _ (p :: as) (k.trans (same_new hp _)) (.lst upd_same (hds.same (same_new hp _)))
    (fun b hb => by
      rcases List.mem_cons.mp hb with e | hb
      · exact .inl (e ▸ new_of k hp)
      · exact f b hb)⟩⟩
theorem pd_dic0 {pos} : PE X (.Dict [] [] pos) (tD Γ L (.dict [])) :=
  pe_mono pe_dnewK fun σ H Q q => fun p hp => q.2 _ _ _ (same_new hp _) (.dic0 upd_same) (fun b hb => by
    have e : b = p := by simpa using hb
    exact .inl (e ▸ hp))
theorem pd_dic {ke ve : Expr} {key : Key} {d : PyData} {pos} (W : Know Γ L) (hk : PE X ke (tC (kV key))) (hv : PE X ve (tD Γ L d)) : PE X (.Dict [some ke] [ve] pos) (tD Γ L (.dict [(kD key, d)])) :=
  pe_mono (pe_disp (pps_cons hk hv pps_nil) (by rfl) (by rfl) (fun z => by cases z) (by decide : 1 ≤ 15)) fun σ H Q q => fun p hp => by
    refine ⟨W.st _ _ _ (same_new hp _) q.1, fun x H1 as k hd f => ?_⟩
    have e1 : H1 p = some (.dK []) := k _ _ upd_same
    have npas : p ∉ as := fun hm => by
      rcases f p hm with e | e
      · rw [upd_same] at e
        cases e
      · obtain ⟨o, ho⟩ := W.old _ _ _ q.1 e
        rw [hp] at ho
        cases ho
    refine ⟨e1, [(key, x)], rfl, (by decide : 1 ≤ 15), q.2 _ _ _ (fun b o e => ?_) (.dic (k := key) (x := x) upd_same (hd.ch ch_upd (fun xs z => by rw [e1] at z; cases z) npas)) (fun b hb => ?_)⟩
    · have n : b ≠ p := ne_of_none e hp
      rw [upd_ne n]
      exact k _ _ (by rw [upd_ne n]; exact e)
    · have hb' : b = p ∨ b ∈ as := by simpa using hb
      rcases hb' with e | hb'
      · exact .inl (e ▸ hp)
      · rcases f b hb' with e | e
        · refine .inl (new_of (same_new hp _) e)
        · exact .inr e
/-- a slot that holds data -/
theorem pd_var {i : Nat} {e : Expr} {v : V} {d : PyData} {as : List Addr} (h : PE X e (tVar i)) (hv : ∀ σ H, Γ σ H → σ[i]? = some (some v) ∧ Dat H v d as) (hl : ∀ b ∈ as, b ∈ L) : PE X e (tD Γ L d) :=
  pe_mono h fun σ H Q q => ⟨v, (hv _ _ q.1).1, q.2 v H as (same_refl H) (hv _ _ q.1).2 fun b hb => .inr (hl b hb)⟩
end
end M13
set_option Elab.async false
set_option linter.all false
set_option maxRecDepth 100000
set_option maxHeartbeats 8000000
namespace M13
open PySem PySem.Spec L2
open PyProof.Rows (envOfC)
def odds1 : List PyData := [.none, .bool true, .bool false, .int 0, .int 1, .int (-7), .int (10 ^ 18), .str "", .str "a", .str "NoKind", .tuple [], .list [], .dict []]
def odds2 : List PyData := [.tuple [.none], .list [.int 1, .tuple [.int 2]], .dict [(.str "x", .list [])], .dict [(.int 1, .str "a")]]
def wraps (d : PyData) : List PyData := [.tuple [d], .list [d, d], .dict [(.str "x", d)], .tuple [.str "a", d, .tuple []]]
def things : Nat → List PyData
  | 0 => odds1 ++ odds2
  | n + 1 => (odds1 ++ odds2) ++ (things n).flatMap wraps
theorem odds_in (n : Nat) {d : PyData} (h : d ∈ odds1 ++ odds2) : d ∈ things n := by
  cases n with
  | zero => exact h
  | succ n => exact List.mem_append_left _ h
theorem wraps_in {n : Nat} {d e : PyData} (h : d ∈ things n) (he : e ∈ wraps d) : e ∈ things (n + 1) := List.mem_append_right _ (List.mem_flatMap.mpr ⟨d, h, he⟩)
mutual
theorem Dat.old {H : Hp} : ∀ {x : V} {d : PyData} {as : List Addr} {b : Addr}, Dat H x d as → b ∈ as → ∃ o, H b = some o
  | _, _, _, _, .non, h => nomatch h
  | _, _, _, _, .bl _, h => nomatch h
  | _, _, _, _, .int _, h => nomatch h
  | _, _, _, _, .str _, h => nomatch h
  | _, _, _, _, .lst h q, hm => by
    rcases List.mem_cons.mp hm with e | hm
    · exact ⟨_, e ▸ h⟩
    · exact DatL.old q hm
  | _, _, _, _, .tup h q, hm => DatL.old q hm
  | _, _, _, b, .dic (a := a) (as := as) h q, hm => by
    have hm' : b = a ∨ b ∈ as := by simpa using hm
    rcases hm' with e | hm'
    · exact ⟨_, e ▸ h⟩
    · exact Dat.old q hm'
  | _, _, _, b, .dic0 (a := a) h, hm => by
    have e : b = a := by simpa using hm
    exact ⟨_, e ▸ h⟩
theorem DatL.old {H : Hp} : ∀ {xs : List V} {ds : List PyData} {as : List Addr} {b : Addr}, DatL H xs ds as → b ∈ as → ∃ o, H b = some o
  | _, _, _, _, .nil, h => nomatch h
  | _, _, _, _, .cons h q, hm => by
    rcases List.mem_append.mp hm with hm | hm
    · exact Dat.old h hm
    · exact DatL.old q hm
end
theorem pa_ex {X : Cx} {ι : Type} {es : List Expr} {t : ι → TA} (h : ∀ i, PA X es (t i)) : PA X es (fun σ H Q => ∃ i, t i σ H Q) := ⟨fun pos pins s σ H Q I ⟨i, q⟩ => (h i).run pos pins s σ H Q I q⟩
/-- nothing is known -/
def G0 : L2.St → Hp → Prop := fun _ _ => True
theorem know0 : Know G0 [] := ⟨fun _ _ _ _ z => z, fun _ _ _ _ h => nomatch h⟩
/-- slot 3 holds data -/
abbrev I3 : Type := V × PyData × List Addr
def G3 (i : I3) : L2.St → Hp → Prop := fun σ H => σ[3]? = some (some i.1) ∧ Dat H i.1 i.2.1 i.2.2
theorem know3 (i : I3) : Know (G3 i) i.2.2 := ⟨fun _ _ _ k z => ⟨z.1, z.2.same k⟩, fun _ _ _ z h => z.2.old h⟩
section
variable {X : Cx}
theorem v3 {x : Str} {pos : Pos} (i : I3) (h : PE X (.Name x pos) (tVar 3)) : PE X (.Name x pos) (tD (G3 i) i.2.2 i.2.1) := pd_var h (fun _ _ z => z) fun _ h => h
end
section
variable {P : Program} {w : World} {K : PySem.W.Frag} {mg : Str → Option Value} {base : Heap} {f g g2 : Addr} {fd gd gd2 : FuncData}
def spThing (n : Nat) : Sp := fun vs H Q _ => ∃ (p : Addr) (c : Nat), vs = [.ref p, .int (n : Int)] ∧ PotAt H p c ∧ c + 2 * n + 1 ≤ 900 ∧
  ∀ (x : V) (d : PyData) (as : List Addr) (H' : Hp), d ∈ things n → Dat H' x d as → p ∉ as → Ch p H H' → PotAt H' p (c + 2 * n + 1) → Q x H'
theorem scThing : FnScope ["_law_pot", "_law_deep", "_law_odds", "_law_part"] ["_law_pot", "_law_deep"] (defScope (top 53)) := ⟨rfl, rfl, rfl, by decide +kernel, rfl, by decide +kernel, by decide +kernel⟩
/-- the last row: one of the odds -/
theorem last_row {p l : Addr} {n c c' : Nat} {xs : List V} {as : List Addr} {H H3 H4 : Hp} {Q : VK} {σ : L2.St} (h0 : σ[0]? = some (some (.ref p))) (h2 : σ[2]? = some (some (.ref l)))
    (q : ∀ (x : V) (d : PyData) (as : List Addr) (H' : Hp), d ∈ things n → Dat H' x d as → p ∉ as → Ch p H H' → PotAt H' p (c + 2 * n + 1) → Q x H')
    (hH : Same H H3) (hl : H3 l = some (.lst xs)) (hd : DatL H3 xs (odds1 ++ odds2) as) (np : p ∉ as) (k : Ch p H3 H4) (hp3 : ∃ ys, H3 p = some (.lst ys)) (nlp : l ≠ p) (hp : PotAt H4 p c') (hc : c' ≤ c + 2 * n) (hc2 : c + 2 * n + 1 ≤ 900) :
    (tRet (tCall spOf [] E0 (tCons (tVar 0) (tCons (tVar 2) tNil)))) { nx := fun _ H' => Q .non H', rt := Q } σ H4 := by
  have hlen : xs.length = 17 := hd.length
  have nt : ∀ ys, H3 p ≠ some (.tup ys) := fun ys z => by
    obtain ⟨y, e⟩ := hp3
    rw [e] at z
    cases z
  refine ⟨_, h0, _, h2, p, l, xs, c', rfl, k _ _ nlp hl, nlp, by omega, by omega, hp, by omega, fun x H5 hx k5 hp5 => ?_⟩
  obtain ⟨d, bs, d1, d2, d3⟩ := hd.mem hx
  have npb : p ∉ bs := fun hm => np (d3 p hm)
  have k45 : Ch p H3 H5 := k.trans k5
  exact q x d bs H5 (odds_in n d1) (d2.ch k45 nt npb) npb ((Ch.same hH).trans k45) (hp5.mono (by omega))
end
end M13
set_option Elab.async false
set_option linter.all false
set_option maxRecDepth 100000
set_option maxHeartbeats 8000000
namespace M13
open PySem PySem.Spec L2
open PyProof.Rows (envOfC)
section
variable {X : Cx}
/-- the two displays of odds -/
theorem pd_odds1 {es : List Expr} (h : PA X es (tDs G0 [] odds1)) {pos : Pos} : PE X (.List es pos) (tLst (tDs G0 [] odds1)) := pe_lst h
end
theorem ite_t {c : Bool} {A B : Prop} (hc : c = true) (h : A) : if c = true then A else B := by
  rw [hc]
  exact iteT h
section
variable {P : Program} {w : World} {K : PySem.W.Frag} {mg : Str → Option Value} {base : Heap} {f g g2 : Addr} {fd gd gd2 : FuncData}
theorem ok_thing0 (F : FnD K "_law_thing" 53 f fd) (GO : FnOk P w K mg base CX0 2 g2 gd2 ["_law_pot", "_law_some"] spOf) (bO : Binds K gd2 ["_law_pot", "_law_some"] []) (kO : PySem.W.keepIn K (.ref g2) = true) (gO : mg "_law_of" = some (.ref g2)) :
    FnOk P w K mg base CX0 3 f fd ["_law_pot", "_law_deep"] (spThing 0) := by
  refine F.ok scThing (fun vs H Q E h => ?_) (fun cdv A outer s H vs Q E hr h => ?_)
  · obtain ⟨p, c, rfl, _⟩ := h
    rfl
  obtain ⟨p, c, rfl, hp, hc, q⟩ := h
  refine ⟨_, PSs.nox (pss_cons (ps_set (i := 2) scThing.nd rfl (Or.inl rfl) (pe_lst (t := tDs G0 [] odds1) (pds_cons know0 pd_non (pds_cons know0 pd_bl (pds_cons know0 pd_bl (pds_cons know0 pd_int (pds_cons know0 pd_int (pds_cons know0 pd_neg
        (pds_cons know0 pd_pow (pds_cons know0 pd_str (pds_cons know0 pd_str (pds_cons know0 pd_str (pds_cons know0 (pd_tup pds_nil) (pds_cons know0 (pd_lst pds_nil) (pds_cons know0 pd_dic0 pds_nil)))))))))))))))
    (pss_cons (ps_set (i := 2) scThing.nd rfl (Or.inl rfl) (pe_op op_cat (pv 2) (pe_lst (t := tDs G0 [] odds2) (pds_cons know0 (pd_tup (pds_cons know0 pd_non pds_nil)) (pds_cons know0 (pd_lst (pds_cons know0 pd_int (pds_cons know0 (pd_tup (pds_cons know0 pd_int pds_nil)) pds_nil)))
        (pds_cons know0 (pd_dic (key := .inr "x") know0 pe_str (pd_lst pds_nil)) (pds_cons know0 (pd_dic (key := .inl 1) know0 pe_int pd_str) pds_nil)))))))
    (pss_cons (ps_if (PW.pt (pw_and (pt_cmpR op_gt (pv 1) pe_int (nomark _)) (pw_and1 pt_no))) (pss_cons (ps_set (i := 3) scThing.nd rfl (Or.inl rfl) pe_no) (pss_one (ps_ret pe_no))) pss_nil)
    (pss_one (ps_ret (pe_call GO hr rfl gO kO bO .nil pass0 (pa_cons (pv 0) (pa_cons (pv 2) pa_nil)))))))), ?_⟩
  obtain ⟨ys0, hp0⟩ := hp.lst
  refine ⟨trivial, fun xs H1 as k1 hd1 f1 => ⟨by rw [hd1.length]; decide, fun l hl => ?_⟩⟩
  refine ⟨_, rfl, trivial, fun ys H2 bs k2 hd2 f2 => ⟨by rw [hd2.length]; decide, fun b hb => ⟨l, b, xs, ys, rfl, rfl, ?_, upd_same, by rw [hd1.length, hd2.length]; decide, fun l2 hl2 => ?_⟩⟩⟩
  · have e1 : H2 l = some (.lst xs) := k2 _ _ upd_same
    rw [upd_ne (ne_of_none e1 hb)]
    exact e1
  have s1 : Same H (upd H1 l (.lst xs)) := k1.trans (same_new hl _)
  have s2 : Same H2 (upd (upd H2 b (.lst ys)) l2 (.lst (xs ++ ys))) := (same_new hb _).trans (same_new hl2 _)
  have s3 : Same H (upd (upd H2 b (.lst ys)) l2 (.lst (xs ++ ys))) := (s1.trans k2).trans s2
  have dd : DatL (upd (upd H2 b (.lst ys)) l2 (.lst (xs ++ ys))) (xs ++ ys) (odds1 ++ odds2) (as ++ bs) :=
    ((hd1.same ((same_new hl _).trans k2)).same s2).append (hd2.same s2)
  have np : p ∉ as ++ bs := fun hm => by
    rcases (f1.app (f2.back s1)) p hm with e | e
    · rw [hp0] at e
      cases e
    · cases e
  have nlp : l2 ≠ p := fun e => by
    have z := ((s1.trans k2).trans (same_new hb (.lst ys))) p _ hp0
    rw [← e, hl2] at z
    cases z
  refine ⟨_, rfl, _, _, rfl, rfl, _, rfl, iteF (iteF ?_)⟩
  exact last_row (n := 0) rfl rfl q s3 upd_same dd np (Ch.refl _ _) ⟨ys0, s3 _ _ hp0⟩ nlp (hp.same s3) (by omega) hc
theorem ok_thingS {n : Nat} (F : FnD K "_law_thing" 53 f fd) (GO : FnOk P w K mg base CX0 2 g2 gd2 ["_law_pot", "_law_some"] spOf) (bO : Binds K gd2 ["_law_pot", "_law_some"] []) (kO : PySem.W.keepIn K (.ref g2) = true) (gO : mg "_law_of" = some (.ref g2))
    (GT : FnOk P w K mg base CX0 1 g gd ["_law_pot", "_law_upto"] spTake) (bT : Binds K gd ["_law_pot", "_law_upto"] []) (kT : PySem.W.keepIn K (.ref g) = true) (gT : mg "_law_take" = some (.ref g))
    (GR : FnOk P w K mg base CX0 (n + 3) f fd ["_law_pot", "_law_deep"] (spThing n)) (bR : Binds K fd ["_law_pot", "_law_deep"] []) (gR : mg "_law_thing" = some (.ref f)) :
    FnOk P w K mg base CX0 (n + 4) f fd ["_law_pot", "_law_deep"] (spThing (n + 1)) := by
  refine F.ok scThing (fun vs H Q E h => ?_) (fun cdv A outer s H vs Q E hr h => ?_)
  · obtain ⟨p, c, rfl, _⟩ := h
    rfl
  obtain ⟨p, c, rfl, hp, hc, q⟩ := h
  have hr1 : Room 1 _ := hr.mono (by omega)
  have hr2 : Room 2 _ := hr.mono (by omega)
  refine ⟨_, PSs.nox (pss_cons (ps_set (i := 2) scThing.nd rfl (Or.inl rfl) (pe_lst (t := tDs G0 [] odds1) (pds_cons know0 pd_non (pds_cons know0 pd_bl (pds_cons know0 pd_bl (pds_cons know0 pd_int (pds_cons know0 pd_int (pds_cons know0 pd_neg
        (pds_cons know0 pd_pow (pds_cons know0 pd_str (pds_cons know0 pd_str (pds_cons know0 pd_str (pds_cons know0 (pd_tup pds_nil) (pds_cons know0 (pd_lst pds_nil) (pds_cons know0 pd_dic0 pds_nil)))))))))))))))
    (pss_cons (ps_set (i := 2) scThing.nd rfl (Or.inl rfl) (pe_op op_cat (pv 2) (pe_lst (t := tDs G0 [] odds2) (pds_cons know0 (pd_tup (pds_cons know0 pd_non pds_nil)) (pds_cons know0 (pd_lst (pds_cons know0 pd_int (pds_cons know0 (pd_tup (pds_cons know0 pd_int pds_nil)) pds_nil)))
        (pds_cons know0 (pd_dic (key := .inr "x") know0 pe_str (pd_lst pds_nil)) (pds_cons know0 (pd_dic (key := .inl 1) know0 pe_int pd_str) pds_nil)))))))
    (pss_cons (ps_if (PW.pt (pw_and (pt_cmpR op_gt (pv 1) pe_int (nomark _)) (pw_and1 (pt_cmpR op_eq (pe_call GT hr1 rfl gT kT bT .nil pass0 (pa_cons (pv 0) (pa_cons pe_int pa_nil))) pe_int (nomark _)))))
      (pss_cons (ps_set (i := 3) scThing.nd rfl (Or.inl rfl) (pe_call GR hr rfl gR F.kp bR .nil pass0 (pa_cons (pv 0) (pa_cons (pe_op op_sub (pv 1) pe_int) pa_nil))))
      (pss_one (ps_ret (pe_call GO hr2 rfl gO kO bO .nil pass0 (pa_cons (pv 0) (pa_cons (pe_lst (pa_ex (t := fun i : I3 => tDs (G3 i) i.2.2 (wraps i.2.1)) fun i =>
        pds_cons (know3 i) (pd_tup (pds_cons (know3 i) (v3 i (pv 3)) pds_nil)) (pds_cons (know3 i) (pd_lst (pds_cons (know3 i) (v3 i (pv 3)) (pds_cons (know3 i) (v3 i (pv 3)) pds_nil)))
        (pds_cons (know3 i) (pd_dic (key := .inr "x") (know3 i) pe_str (v3 i (pv 3))) (pds_cons (know3 i) (pd_tup (pds_cons (know3 i) pd_str (pds_cons (know3 i) (v3 i (pv 3)) (pds_cons (know3 i) (pd_tup pds_nil) pds_nil)))) pds_nil)))))
        pa_nil)))))) pss_nil)
    (pss_one (ps_ret (pe_call GO hr2 rfl gO kO bO .nil pass0 (pa_cons (pv 0) (pa_cons (pv 2) pa_nil)))))))), ?_⟩
  obtain ⟨ys0, hp0⟩ := hp.lst
  refine ⟨trivial, fun xs H1 as k1 hd1 f1 => ⟨by rw [hd1.length]; decide, fun l hl => ?_⟩⟩
  refine ⟨_, rfl, trivial, fun ys H2 bs k2 hd2 f2 => ⟨by rw [hd2.length]; decide, fun b hb => ⟨l, b, xs, ys, rfl, rfl, ?_, upd_same, by rw [hd1.length, hd2.length]; decide, fun l2 hl2 => ?_⟩⟩⟩
  · have e1 : H2 l = some (.lst xs) := k2 _ _ upd_same
    rw [upd_ne (ne_of_none e1 hb)]
    exact e1
  have s1 : Same H (upd H1 l (.lst xs)) := k1.trans (same_new hl _)
  have s2 : Same H2 (upd (upd H2 b (.lst ys)) l2 (.lst (xs ++ ys))) := (same_new hb _).trans (same_new hl2 _)
  have s3 : Same H (upd (upd H2 b (.lst ys)) l2 (.lst (xs ++ ys))) := (s1.trans k2).trans s2
  have dd : DatL (upd (upd H2 b (.lst ys)) l2 (.lst (xs ++ ys))) (xs ++ ys) (odds1 ++ odds2) (as ++ bs) :=
    ((hd1.same ((same_new hl _).trans k2)).same s2).append (hd2.same s2)
  have np : p ∉ as ++ bs := fun hm => by
    rcases (f1.app (f2.back s1)) p hm with e | e
    · rw [hp0] at e
      cases e
    · cases e
  have nlp : l2 ≠ p := fun e => by
    have z := ((s1.trans k2).trans (same_new hb (.lst ys))) p _ hp0
    rw [← e, hl2] at z
    cases z
  refine ⟨_, rfl, _, _, rfl, rfl, _, rfl, ite_t (decide_eq_true (by omega)) ?_⟩
  refine ⟨_, rfl, p, 3, c, rfl, by decide, by decide, hp.same s3, by omega, fun v H4 v0 v1 k4 hp4 => ⟨rfl, _, rfl, ?_⟩⟩
  refine ite2 (fun _ => ?_) (fun _ => ?_)
  · refine ⟨_, rfl, _, rfl, _, _, rfl, rfl, p, c + 1, ?_, hp4, by omega, fun x d es H5 hd hx npx k5 hp5 => ?_⟩
    · show ([V.ref p, V.int (((n + 1 : Nat) : Int) - 1)] : List V) = [V.ref p, V.int (n : Int)]
      rw [show ((n + 1 : Nat) : Int) - 1 = (n : Int) by omega]
    obtain ⟨ys5, e5⟩ := hp5.lst
    refine ⟨_, rfl, ⟨x, d, es⟩, ⟨rfl, hx⟩, fun zs H6 fs k6 hd6 f6 => ⟨by rw [hd6.length]; show 4 ≤ sizeLine; decide, fun l6 hl6 => ?_⟩⟩
    have e6 := k6 _ _ e5
    have nl6 : l6 ≠ p := fun e => by
      rw [← e, hl6] at e6
      cases e6
    have s6 : Same H5 (upd H6 l6 (.lst zs)) := k6.trans (same_new hl6 _)
    have npf : p ∉ fs := fun hm => by
      rcases f6 p hm with e | e
      · rw [e5] at e
        cases e
      · exact npx e
    refine ⟨p, l6, zs, c + 2 * n + 2, rfl, upd_same, nl6, by rw [hd6.length]; show 1 ≤ 4; decide, by rw [hd6.length]; show 4 ≤ 1000; decide, (hp5.same s6).mono (by omega), by omega, fun y H7 hy k7 hp7 => ?_⟩
    obtain ⟨d7, b7, m1, m2, m3⟩ := hd6.mem hy
    have np7 : p ∉ b7 := fun hm => npf (m3 p hm)
    have nt7 : ∀ ts, (upd H6 l6 (.lst zs)) p ≠ some (.tup ts) := fun ts z => by
      rw [s6 _ _ e5] at z
      cases z
    exact q y d7 b7 H7 (wraps_in hd m1) ((m2.same (same_new hl6 _)).ch k7 nt7 np7) np7 ((Ch.same s3).trans (k4.trans (k5.trans ((Ch.same s6).trans k7)))) (hp7.mono (by omega))
  · exact last_row (n := n + 1) rfl rfl q s3 upd_same dd np k4 ⟨ys0, s3 _ _ hp0⟩ nlp hp4 (by omega) hc
end
end M13
set_option Elab.async false
set_option linter.all false
set_option maxRecDepth 100000
set_option maxHeartbeats 8000000
/-! M13P: all errors made, and asked of which classes they are. -/
namespace M13
open PySem PySem.Spec L2
open PyProof.Rows (envOfC)
/-- what the module tells of each error's class -/
structure ErrA (K : PySem.W.Frag) (mg : Str → Option Value) : Prop where
  T : ∀ x ∈ errs, ErrT K (He.ga K x) (fI K)
  g : ∀ x ∈ errs, mg x = some (.ref (He.ga K x))
  I : InitT K (fI K)
  k : ∀ x ∈ errs, ∀ y ∈ errs, PySem.W.kitOne K (.ref (He.ga K x)) (.ref (He.ga K y)) = some (x == y)
  t : ∀ x ∈ errs, PySem.W.kitOne K (.ref (He.ga K x)) (.ref (He.ga K "TaglessError")) = some true
  v : ∀ x ∈ errs, PySem.W.kitOne K (.ref (He.ga K x)) (.type "ValueError") = some true
  gT : mg "TaglessError" = some (.ref (He.ga K "TaglessError"))
abbrev Es (K : PySem.W.Frag) (H : Hp) (xs : List Str) (v : V) (us : List V) : Prop := Paired (fun x u => IsErr H (He.ga K x) v u) xs us
theorem Es.same {K : PySem.W.Frag} {H H' : Hp} (k : Same H H') {v : V} : ∀ {xs : List Str} {us : List V}, Es K H xs v us → Es K H' xs v us
  | _, _, .nil => .nil
  | _, _, .cons h r => .cons (h.same k) (Es.same k r)
theorem Es.append {K : PySem.W.Frag} {H : Hp} {v : V} : ∀ {xs ys : List Str} {us ws : List V}, Es K H xs v us → Es K H ys v ws → Es K H (xs ++ ys) v (us ++ ws)
  | _, _, _, _, .nil, q => q
  | _, _, _, _, .cons h r, q => .cons h (Es.append r q)
theorem Es.length {K : PySem.W.Frag} {H : Hp} {v : V} {xs : List Str} {us : List V} (h : Es K H xs v us) : xs.length = us.length := Paired.length h
theorem Es.at {K : PySem.W.Frag} {H : Hp} {v : V} : ∀ {xs : List Str} {us : List V} {i : Nat} {u : V}, Es K H xs v us → us[i]? = some u → ∃ x, xs[i]? = some x ∧ IsErr H (He.ga K x) v u
  | _, _, _, _, .nil, e => by simp at e
  | _, _, 0, _, .cons h _, e => by simp at e; subst e; exact ⟨_, rfl, h⟩
  | _, _, i + 1, u, .cons _ r, e => by
    obtain ⟨x, h1, h2⟩ := Es.at (i := i) (u := u) r (by simpa using e)
    exact ⟨x, by simpa using h1, h2⟩
section
variable {X : Cx}
/-- the errors of these names, each of what stands in slot 0 -/
def tEs (K : PySem.W.Frag) (xs : List Str) : TA := fun σ H Q => ∃ v, σ[0]? = some (some v) ∧ ∀ us H', Same H H' → Es K H' xs v us → Q us H'
theorem pes_nil {K : PySem.W.Frag} : PA X [] (tEs K []) := pa_mono pa_nil fun σ H Q ⟨v, _, q⟩ => q [] H (same_refl H) .nil
theorem pes_cons {x : Str} {xs : List Str} {e : Expr} {es : List Expr} (h : PE X e (tErr (He.ga X.K x) (tCons (tVar 0) tNil))) (r : PA X es (tEs X.K xs))
    (he : starEach (e :: es) X.env = (false, eval e X.env) :: starEach es X.env := by rfl) : PA X (e :: es) (tEs X.K (x :: xs)) :=
  pa_mono (pa_cons h r he) fun σ H Q ⟨v, hv, q⟩ => ⟨v, hv, v, rfl, fun u H1 k hu => ⟨v, hv, fun us H2 k2 hus => q (u :: us) H2 (k.trans k2) (.cons (hu.same k2) hus)⟩⟩
theorem pes1 {x : Str} {k : Nat} {p1 p2 pos : Pos} (E : ErrA X.K X.mg ∧ Room k X.A) (hx : x ∈ errs) {y : Str} (hv : PE X (.Name y p1) (tVar 0) := by exact pv 0) (hg : Gl X x := by rfl) (hdb : (x == ("__debug__" : Str)) = false := by decide +kernel)
    (hs : starEach (.Name y p1 :: []) X.env = (false, eval (.Name y p1) X.env) :: starEach [] X.env := by rfl) (hpl : (backTo pos (starEach [] X.env)).any (·.1) = false := by rfl) :
    PE X (.Call (.Name x p2) [.Name y p1] [] pos) (tErr (He.ga X.K x) (tCons (tVar 0) tNil)) :=
  pe_err (E.1.T x hx) E.1.I (E.1.g x hx) E.2 (pa_cons hv pa_nil) hg hdb hs hpl
/-- isinstance(e, y), e what stands in slot 0 -/
def tMark (K : PySem.W.Frag) (y : Str) : TE := fun σ H Q => ∃ (x : Str) (u v : V), x ∈ errs ∧ σ[0]? = some (some u) ∧ IsErr H (He.ga K x) v u ∧ Q (.bl (x == y)) H
def tMarks (K : PySem.W.Frag) (ys : List Str) : TA := fun σ H Q => ∃ (x : Str) (u v : V), x ∈ errs ∧ σ[0]? = some (some u) ∧ IsErr H (He.ga K x) v u ∧ Q (ys.map fun y => .bl (x == y)) H
theorem pms_nil {K : PySem.W.Frag} : PA X [] (tMarks K []) := pa_mono pa_nil fun σ H Q ⟨x, u, v, _, _, _, q⟩ => q
theorem pms_cons {y : Str} {ys : List Str} {e : Expr} {es : List Expr} (h : PE X e (tMark X.K y)) (r : PA X es (tMarks X.K ys))
    (he : starEach (e :: es) X.env = (false, eval e X.env) :: starEach es X.env := by rfl) : PA X (e :: es) (tMarks X.K (y :: ys)) :=
  pa_mono (pa_cons h r he) fun σ H Q ⟨x, u, v, h1, h2, h3, q⟩ => ⟨x, u, v, h1, h2, h3, x, u, v, h1, h2, h3, q⟩
theorem pms1 {y : Str} {p0 p1 p2 pos : Pos} (E : ErrA X.K X.mg ∧ Bl X.mg) (hy : y ∈ errs) {e : Str} (hv : PE X (.Name e p1) (tVar 0) := by exact pv 0) (hg : Gl X y := by rfl) (hi : Gl X "isinstance" := by rfl) (hdb : (y == ("__debug__" : Str)) = false := by decide +kernel)
    (hs2 : starEach (.Name y p2 :: []) X.env = (false, eval (.Name y p2) X.env) :: starEach [] X.env := by rfl)
    (hs : starEach (.Name e p1 :: [.Name y p2]) X.env = (false, eval (.Name e p1) X.env) :: starEach [.Name y p2] X.env := by rfl) (hpl : (backTo pos (starEach [.Name y p2] X.env)).any (·.1) = false := by rfl) :
    PE X (.Call (.Name "isinstance" p0) [.Name e p1, .Name y p2] [] pos) (tMark X.K y) :=
  pe_mono (pe_callB (call_isErr E.1.I) hi E.2.isi (by decide +kernel) (pa_cons hv (pa_cons (pe_glob (v := .ref (He.ga X.K y)) hg (E.1.g y hy) rfl hdb) pa_nil hs2) hs) (by decide) (by decide) hs hpl)
    fun σ H Q ⟨x, u, v, h1, h2, h3, q⟩ => ⟨u, h2, u, .ref (He.ga X.K y), He.ga X.K x, v, .ref (He.ga X.K y), x == y, rfl, .own _, E.1.T x h1, h3, E.1.k x h1 y hy, q⟩
end
section
variable {P : Program} {w : World} {K : PySem.W.Frag} {mg : Str → Option Value} {base : Heap} {f g g2 : Addr} {fd gd gd2 : FuncData}
/-! ### _law_made -/
def spMade (K : PySem.W.Frag) : Sp := fun vs H Q _ => ∃ v, vs = [v] ∧ ∀ (l : Addr) (us : List V) (H' : Hp), Same H H' → H' l = some (.lst us) → Es K H' errs v us → Q (.ref l) H'
theorem scMade : FnScope ["_law_thing_here", "_law_some"] ["_law_thing_here"] (defScope (top 51)) := ⟨rfl, rfl, rfl, by decide +kernel, rfl, by decide +kernel, by decide +kernel⟩
theorem cat_made {v : V} {l : Addr} {us : List V} {xs ys : List Str} {H : Hp} {Q : VK} (hl : H l = some (.lst us)) (hu : Es K H xs v us) (hz : xs.length + ys.length ≤ 1000)
    (q : ∀ (l2 : Addr) (ws : List V) (H2 : Hp), Same H H2 → H2 l2 = some (.lst ws) → Es K H2 (xs ++ ys) v ws → Q (.ref l2) H2) :
    tOp rCat (tVar 1) (tLst (tEs K ys)) [some v, some (.ref l)] H Q := by
  refine ⟨_, rfl, v, rfl, fun ws H1 k1 hw => ⟨by rw [← hw.length]; exact Nat.le_of_lt (small1000 (by omega)), fun b hb => ⟨l, b, us, ws, rfl, rfl, ?_, upd_same, by rw [← hu.length, ← hw.length]; exact Nat.le_of_lt (small1000 hz), fun l2 hl2 => ?_⟩⟩⟩
  · have e := k1 _ _ hl
    rw [upd_ne (ne_of_none e hb)]
    exact e
  · have s1 := (same_new hb (.lst ws)).trans (same_new hl2 (.lst (us ++ ws)))
    exact q l2 _ _ (k1.trans s1) upd_same ((hu.same (k1.trans s1)).append (hw.same s1))
theorem ok_made (F : FnD K "_law_made" 51 f fd) (EA : ErrA K mg) : FnOk P w K mg base CX0 3 f fd ["_law_thing_here"] (spMade K) := by
  refine F.ok scMade (fun vs H Q E h => ?_) (fun cdv A outer s H vs Q E0 hr h => ?_)
  · obtain ⟨v, rfl, _⟩ := h
    rfl
  obtain ⟨v, rfl, q⟩ := h
  have E := And.intro EA hr
  refine ⟨_, PSs.nox (pss_cons (ps_set (i := 1) scMade.nd rfl (Or.inl rfl) (pe_lst (t := tEs K ["NoKind", "NoDocument", "BadBook", "Unnamed", "Ring", "BadForms"]) (pes_cons (pes1 (x := "NoKind") E (by decide +kernel)) (pes_cons (pes1 (x := "NoDocument") E (by decide +kernel)) (pes_cons (pes1 (x := "BadBook") E (by decide +kernel)) (pes_cons (pes1 (x := "Unnamed") E (by decide +kernel)) (pes_cons (pes1 (x := "Ring") E (by decide +kernel)) (pes_cons (pes1 (x := "BadForms") E (by decide +kernel)) pes_nil))))))))
    (pss_cons (ps_set (i := 1) scMade.nd rfl (Or.inl rfl) (pe_op op_cat (pv 1) (pe_lst (t := tEs K ["Clash", "NoReading", "BadReading", "BadSide", "TooLarge"]) (pes_cons (pes1 (x := "Clash") E (by decide +kernel)) (pes_cons (pes1 (x := "NoReading") E (by decide +kernel)) (pes_cons (pes1 (x := "BadReading") E (by decide +kernel)) (pes_cons (pes1 (x := "BadSide") E (by decide +kernel)) (pes_cons (pes1 (x := "TooLarge") E (by decide +kernel)) pes_nil))))))))
    (pss_cons (ps_set (i := 1) scMade.nd rfl (Or.inl rfl) (pe_op op_cat (pv 1) (pe_lst (t := tEs K ["NotEither", "BadOrder", "NoOrder", "TooMany", "BadMember"]) (pes_cons (pes1 (x := "NotEither") E (by decide +kernel)) (pes_cons (pes1 (x := "BadOrder") E (by decide +kernel)) (pes_cons (pes1 (x := "NoOrder") E (by decide +kernel)) (pes_cons (pes1 (x := "TooMany") E (by decide +kernel)) (pes_cons (pes1 (x := "BadMember") E (by decide +kernel)) pes_nil))))))))
    (pss_cons (ps_set (i := 1) scMade.nd rfl (Or.inl rfl) (pe_op op_cat (pv 1) (pe_lst (t := tEs K ["BadPlace", "BadField", "NoField", "BadDraft", "BadRoad"]) (pes_cons (pes1 (x := "BadPlace") E (by decide +kernel)) (pes_cons (pes1 (x := "BadField") E (by decide +kernel)) (pes_cons (pes1 (x := "NoField") E (by decide +kernel)) (pes_cons (pes1 (x := "BadDraft") E (by decide +kernel)) (pes_cons (pes1 (x := "BadRoad") E (by decide +kernel)) pes_nil))))))))
    (pss_cons (ps_set (i := 1) scMade.nd rfl (Or.inl rfl) (pe_op op_cat (pv 1) (pe_lst (t := tEs K ["BadChanges", "BadOffers", "BadWish", "BadEdition", "BadTruth"]) (pes_cons (pes1 (x := "BadChanges") E (by decide +kernel)) (pes_cons (pes1 (x := "BadOffers") E (by decide +kernel)) (pes_cons (pes1 (x := "BadWish") E (by decide +kernel)) (pes_cons (pes1 (x := "BadEdition") E (by decide +kernel)) (pes_cons (pes1 (x := "BadTruth") E (by decide +kernel)) pes_nil))))))))
    (pss_cons (ps_set (i := 1) scMade.nd rfl (Or.inl rfl) (pe_op op_cat (pv 1) (pe_lst (t := tEs K ["Broken", "NotKept", "NoNumber", "Turned", "NothingToUndo"]) (pes_cons (pes1 (x := "Broken") E (by decide +kernel)) (pes_cons (pes1 (x := "NotKept") E (by decide +kernel)) (pes_cons (pes1 (x := "NoNumber") E (by decide +kernel)) (pes_cons (pes1 (x := "Turned") E (by decide +kernel)) (pes_cons (pes1 (x := "NothingToUndo") E (by decide +kernel)) pes_nil))))))))
    (pss_cons (ps_set (i := 1) scMade.nd rfl (Or.inl rfl) (pe_op op_cat (pv 1) (pe_lst (t := tEs K ["NothingToRedo", "NoTrial", "BadText", "BadJournal", "BadLine"]) (pes_cons (pes1 (x := "NothingToRedo") E (by decide +kernel)) (pes_cons (pes1 (x := "NoTrial") E (by decide +kernel)) (pes_cons (pes1 (x := "BadText") E (by decide +kernel)) (pes_cons (pes1 (x := "BadJournal") E (by decide +kernel)) (pes_cons (pes1 (x := "BadLine") E (by decide +kernel)) pes_nil))))))))
    (pss_one (ps_ret (pv 1)))))))))), ?_⟩
  refine ⟨v, rfl, fun us H1 k1 h1 => ⟨by rw [← h1.length]; decide, fun l1 n1 => ?_⟩⟩
  have e1 := h1.same (same_new n1 (.lst us))
  refine cat_made (us := us) upd_same e1 (by decide) fun l2 us2 H2 k2 e2 h2 => ?_
  refine cat_made e2 h2 (by decide) fun l3 us3 H3 k3 e3 h3 => ?_
  refine cat_made e3 h3 (by decide) fun l4 us4 H4 k4 e4 h4 => ?_
  refine cat_made e4 h4 (by decide) fun l5 us5 H5 k5 e5 h5 => ?_
  refine cat_made e5 h5 (by decide) fun l6 us6 H6 k6 e6 h6 => ?_
  refine cat_made e6 h6 (by decide) fun l7 us7 H7 k7 e7 h7 => ?_
  exact ⟨_, rfl, q l7 us7 H7 (k1.trans ((same_new n1 _).trans (k2.trans (k3.trans (k4.trans (k5.trans (k6.trans k7))))))) e7 h7⟩
/-! ### _law_marks -/
def spMarks (K : PySem.W.Frag) : Sp := fun vs H Q _ => ∃ (x : Str) (u v : V), vs = [u] ∧ x ∈ errs ∧ IsErr H (He.ga K x) v u ∧ ∀ (l : Addr) (H' : Hp), Same H H' → H' l = some (.lst (errs.map fun y => .bl (x == y))) → Q (.ref l) H'
theorem scMarks : FnScope ["_law_error", "_law_marks_here"] ["_law_error"] (defScope (top 52)) := ⟨rfl, rfl, rfl, by decide +kernel, rfl, by decide +kernel, by decide +kernel⟩
theorem cat_marks {x : Str} {u v : V} {l : Addr} {xs ys : List Str} {H : Hp} {Q : VK} (hx : x ∈ errs) (hu : IsErr H (He.ga K x) v u) (hl : H l = some (.lst (xs.map fun y => .bl (x == y)))) (hz : xs.length + ys.length ≤ 1000)
    (q : ∀ (l2 : Addr) (H2 : Hp), Same H H2 → H2 l2 = some (.lst ((xs ++ ys).map fun y => .bl (x == y))) → Q (.ref l2) H2) :
    tOp rCat (tVar 1) (tLst (tMarks K ys)) [some u, some (.ref l)] H Q := by
  refine ⟨_, rfl, x, u, v, hx, rfl, hu, by rw [List.length_map]; exact Nat.le_of_lt (small1000 (by omega)), fun b hb => ⟨l, b, xs.map fun y => .bl (x == y), ys.map fun y => .bl (x == y), rfl, rfl, ?_, upd_same, by rw [List.length_map, List.length_map]; exact Nat.le_of_lt (small1000 hz), fun l2 hl2 => ?_⟩⟩
  · rw [upd_ne (ne_of_none hl hb)]
    exact hl
  · refine q l2 _ ((same_new hb _).trans (same_new hl2 _)) ?_
    rw [upd_same, List.map_append]
theorem ok_marks (F : FnD K "_law_marks" 52 f fd) (EA : ErrA K mg) (B : Bl mg) : FnOk P w K mg base CX0 2 f fd ["_law_error"] (spMarks K) := by
  refine F.ok scMarks (fun vs H Q E h => ?_) (fun cdv A outer s H vs Q E0 hr h => ?_)
  · obtain ⟨x, u, v, rfl, _⟩ := h
    rfl
  obtain ⟨x, u, v, rfl, hx, hu, q⟩ := h
  have E := And.intro EA B
  refine ⟨_, PSs.nox (pss_cons (ps_set (i := 1) scMarks.nd rfl (Or.inl rfl) (pe_lst (t := tMarks K ["NoKind", "NoDocument", "BadBook"]) (pms_cons (pms1 (y := "NoKind") E (by decide +kernel)) (pms_cons (pms1 (y := "NoDocument") E (by decide +kernel)) (pms_cons (pms1 (y := "BadBook") E (by decide +kernel)) pms_nil)))))
    (pss_cons (ps_set (i := 1) scMarks.nd rfl (Or.inl rfl) (pe_op op_cat (pv 1) (pe_lst (t := tMarks K ["Unnamed", "Ring", "BadForms"]) (pms_cons (pms1 (y := "Unnamed") E (by decide +kernel)) (pms_cons (pms1 (y := "Ring") E (by decide +kernel)) (pms_cons (pms1 (y := "BadForms") E (by decide +kernel)) pms_nil))))))
    (pss_cons (ps_set (i := 1) scMarks.nd rfl (Or.inl rfl) (pe_op op_cat (pv 1) (pe_lst (t := tMarks K ["Clash", "NoReading", "BadReading"]) (pms_cons (pms1 (y := "Clash") E (by decide +kernel)) (pms_cons (pms1 (y := "NoReading") E (by decide +kernel)) (pms_cons (pms1 (y := "BadReading") E (by decide +kernel)) pms_nil))))))
    (pss_cons (ps_set (i := 1) scMarks.nd rfl (Or.inl rfl) (pe_op op_cat (pv 1) (pe_lst (t := tMarks K ["BadSide", "TooLarge", "NotEither"]) (pms_cons (pms1 (y := "BadSide") E (by decide +kernel)) (pms_cons (pms1 (y := "TooLarge") E (by decide +kernel)) (pms_cons (pms1 (y := "NotEither") E (by decide +kernel)) pms_nil))))))
    (pss_cons (ps_set (i := 1) scMarks.nd rfl (Or.inl rfl) (pe_op op_cat (pv 1) (pe_lst (t := tMarks K ["BadOrder", "NoOrder", "TooMany"]) (pms_cons (pms1 (y := "BadOrder") E (by decide +kernel)) (pms_cons (pms1 (y := "NoOrder") E (by decide +kernel)) (pms_cons (pms1 (y := "TooMany") E (by decide +kernel)) pms_nil))))))
    (pss_cons (ps_set (i := 1) scMarks.nd rfl (Or.inl rfl) (pe_op op_cat (pv 1) (pe_lst (t := tMarks K ["BadMember", "BadPlace", "BadField"]) (pms_cons (pms1 (y := "BadMember") E (by decide +kernel)) (pms_cons (pms1 (y := "BadPlace") E (by decide +kernel)) (pms_cons (pms1 (y := "BadField") E (by decide +kernel)) pms_nil))))))
    (pss_cons (ps_set (i := 1) scMarks.nd rfl (Or.inl rfl) (pe_op op_cat (pv 1) (pe_lst (t := tMarks K ["NoField", "BadDraft", "BadRoad"]) (pms_cons (pms1 (y := "NoField") E (by decide +kernel)) (pms_cons (pms1 (y := "BadDraft") E (by decide +kernel)) (pms_cons (pms1 (y := "BadRoad") E (by decide +kernel)) pms_nil))))))
    (pss_cons (ps_set (i := 1) scMarks.nd rfl (Or.inl rfl) (pe_op op_cat (pv 1) (pe_lst (t := tMarks K ["BadChanges", "BadOffers", "BadWish"]) (pms_cons (pms1 (y := "BadChanges") E (by decide +kernel)) (pms_cons (pms1 (y := "BadOffers") E (by decide +kernel)) (pms_cons (pms1 (y := "BadWish") E (by decide +kernel)) pms_nil))))))
    (pss_cons (ps_set (i := 1) scMarks.nd rfl (Or.inl rfl) (pe_op op_cat (pv 1) (pe_lst (t := tMarks K ["BadEdition", "BadTruth", "Broken"]) (pms_cons (pms1 (y := "BadEdition") E (by decide +kernel)) (pms_cons (pms1 (y := "BadTruth") E (by decide +kernel)) (pms_cons (pms1 (y := "Broken") E (by decide +kernel)) pms_nil))))))
    (pss_cons (ps_set (i := 1) scMarks.nd rfl (Or.inl rfl) (pe_op op_cat (pv 1) (pe_lst (t := tMarks K ["NotKept", "NoNumber", "Turned"]) (pms_cons (pms1 (y := "NotKept") E (by decide +kernel)) (pms_cons (pms1 (y := "NoNumber") E (by decide +kernel)) (pms_cons (pms1 (y := "Turned") E (by decide +kernel)) pms_nil))))))
    (pss_cons (ps_set (i := 1) scMarks.nd rfl (Or.inl rfl) (pe_op op_cat (pv 1) (pe_lst (t := tMarks K ["NothingToUndo", "NothingToRedo", "NoTrial"]) (pms_cons (pms1 (y := "NothingToUndo") E (by decide +kernel)) (pms_cons (pms1 (y := "NothingToRedo") E (by decide +kernel)) (pms_cons (pms1 (y := "NoTrial") E (by decide +kernel)) pms_nil))))))
    (pss_cons (ps_set (i := 1) scMarks.nd rfl (Or.inl rfl) (pe_op op_cat (pv 1) (pe_lst (t := tMarks K ["BadText", "BadJournal", "BadLine"]) (pms_cons (pms1 (y := "BadText") E (by decide +kernel)) (pms_cons (pms1 (y := "BadJournal") E (by decide +kernel)) (pms_cons (pms1 (y := "BadLine") E (by decide +kernel)) pms_nil))))))
    (pss_one (ps_ret (pv 1))))))))))))))), ?_⟩
  refine ⟨x, u, v, hx, rfl, hu, by rw [List.length_map]; decide, fun l1 n1 => ?_⟩
  have k1 := same_new (H := H) n1 (.lst ((["NoKind", "NoDocument", "BadBook"] : List Str).map fun y => V.bl (x == y)))
  have e1 : _ = some (HO.lst ((["NoKind", "NoDocument", "BadBook"] : List Str).map fun y => V.bl (x == y))) := upd_same (H := H) (a := l1)
  refine cat_marks hx (hu.same k1) e1 (by decide) fun l2 H2 j2 e2 => ?_
  have k2 := k1.trans j2
  refine cat_marks hx (hu.same k2) e2 (by decide) fun l3 H3 j3 e3 => ?_
  have k3 := k2.trans j3
  refine cat_marks hx (hu.same k3) e3 (by decide) fun l4 H4 j4 e4 => ?_
  have k4 := k3.trans j4
  refine cat_marks hx (hu.same k4) e4 (by decide) fun l5 H5 j5 e5 => ?_
  have k5 := k4.trans j5
  refine cat_marks hx (hu.same k5) e5 (by decide) fun l6 H6 j6 e6 => ?_
  have k6 := k5.trans j6
  refine cat_marks hx (hu.same k6) e6 (by decide) fun l7 H7 j7 e7 => ?_
  have k7 := k6.trans j7
  refine cat_marks hx (hu.same k7) e7 (by decide) fun l8 H8 j8 e8 => ?_
  have k8 := k7.trans j8
  refine cat_marks hx (hu.same k8) e8 (by decide) fun l9 H9 j9 e9 => ?_
  have k9 := k8.trans j9
  refine cat_marks hx (hu.same k9) e9 (by decide) fun l10 H10 j10 e10 => ?_
  have k10 := k9.trans j10
  refine cat_marks hx (hu.same k10) e10 (by decide) fun l11 H11 j11 e11 => ?_
  have k11 := k10.trans j11
  refine cat_marks hx (hu.same k11) e11 (by decide) fun l12 H12 j12 e12 => ?_
  have k12 := k11.trans j12
  exact ⟨_, rfl, q l12 H12 k12 e12⟩
end
end M13
set_option Elab.async false
set_option linter.all false
set_option maxRecDepth 100000
set_option maxHeartbeats 8000000
/-! M13Q: _law_right. -/
namespace M13
open PySem PySem.Spec L2
open PyProof.Rows (envOfC)
section
variable {X : Cx} {C fI : Addr}
/-- e.value, e the exception that the suite holds (at a; its class cls, its dict d) -/
def tByVal (C : Addr) (a : Addr) (cls : Value) (d : Option Addr) (te : TE) : TE := fun σ H Q => te σ H fun x H1 => x = .ref a ∧ cls = .ref C ∧ ∃ (dd : Addr) (v : V), d = some dd ∧ H1 dd = some (.xd [(("value" : Str), v)]) ∧ Q v H1
theorem pe_byVal {a : Addr} {oe : Obj} {cls : Value} {d : Option Addr} {pn : List (Addr × Obj)} {e : Expr} {te : TE} {pos : Pos} (T : ErrT X.K C fI) (hz : Zc cls d oe) (hf : ∃ vs, oe.data = .fields vs) (he : PE (X.suite a ((a, oe) :: pn)) e te)
    (hb : attributeBase e "value" X.env (eval e X.env) = eval e X.env := by rfl) :
    PE (X.suite a ((a, oe) :: pn)) (.Attribute e "value" pos) (tByVal C a cls d te) := by
  refine ⟨fun pins s σ H Q I h => ?_⟩
  refine attr_of hb (thn (he.run pins s σ H _ I h) fun u s1 hh => ?_)
  obtain ⟨x, H1, I1, rx, ex, ec, dd, v, ed, ea, q⟩ := hh
  subst ex
  obtain rfl : u = Value.ref a := rx
  subst ec
  subst ed
  obtain ⟨ha, _⟩ := I1.pin (a, oe) (List.mem_append_left _ List.mem_cons_self)
  obtain ⟨vs, hd⟩ := hf
  have hx : ObjOk X.prog X.w H1 s1.heap dd (.xd [(("value" : Str), v)]) := I1.hok dd _ ea
  obtain ⟨mA, hns, hr⟩ := hx
  obtain ⟨od, ho, hl⟩ := lookIn_ns hns
  have l : List.lookup ("value" : Str) [(("value" : Str), v)] = some v := by simp [List.lookup]
  obtain ⟨u, hu, ru⟩ := RelO.some_of (v := v) (o := mA "value") (by rw [← l]; exact hr "value")
  have J : PySem.W.InstAt s1.heap a oe C (some od) := ⟨ha, hz.1, by unfold PySem.W.notCls; rw [hd] <;> rfl, by rw [hz.2]; exact ho⟩
  exact HandSPX.exc_get I1.kIn J T.ga T.gg T.exC (PySem.W.findObj_own T.hdC T.noN rfl (by rw [hl, hu])) (handed_of ru) ⟨v, H1, I1.tok _, ru, q⟩
end
theorem dp_bls {K : PySem.W.Frag} {H : Hp} : ∀ bs : List Bool, DpAll K H (bs.map V.bl) (bs.map PyData.bool)
  | [] => .nil
  | b :: r => .cons (.bl b) (dp_bls r)
theorem can_bls : ∀ bs : List Bool, PyData.canLay0 (.list (bs.map PyData.bool)) = true := by
  intro bs
  simp only [PyData.canLay0]
  induction bs with
  | nil => simp [PyData.canLayAll0]
  | cons b r ih => simp [PyData.canLayAll0, PyData.canLay0, ih]
theorem deep_bls : ∀ bs : List Bool, PyData.depth (.list (bs.map PyData.bool)) ≤ 64 := by
  intro bs
  simp only [PyData.depth]
  have h : PyData.depthAll (bs.map PyData.bool) = 0 := by
    induction bs with
    | nil => simp [PyData.depthAll]
    | cons b r ih => simp [PyData.depthAll, PyData.depth, ih]
  omega
theorem shaped_bls (bs : List Bool) : SeqAt.shaped (.list (bs.map PyData.bool)) = true := by
  unfold SeqAt.shaped
  rw [can_bls, decide_eq_true (deep_bls bs)]
  rfl
/-- the marks of the i-th error's class -/
theorem marks_at : ∀ i, i < 36 → (errs.map fun y => (errs.getD i (Str.ofString "") == y)) = (List.range 36).map fun j => decide (V.int (0 + ((j : Nat) : Int)) = V.int ((i : Nat) : Int)) := by decide +kernel
theorem errs_len : errs.length = 36 := by decide +kernel
def Fit (L k : Nat) (d : PyData) : Prop := d.showable = true ∧ d.shown.length ≤ L ∧ d.depth ≤ k
theorem fit_odds {d : PyData} (h : d ∈ odds1 ++ odds2) : Fit 25 2 d := by
  have a : (odds1 ++ odds2).all (fun d => d.showable && (Nat.ble d.shown.length 25 && Nat.ble d.depth 2)) = true := by decide +kernel
  obtain ⟨h1, h2⟩ := Bool.and_eq_true_iff.mp (List.all_eq_true.mp a d h)
  obtain ⟨h2, h3⟩ := Bool.and_eq_true_iff.mp h2
  exact ⟨h1, Nat.le_of_ble_eq_true h2, Nat.le_of_ble_eq_true h3⟩
theorem fit_tup {d : PyData} {L k : Nat} (h : Fit L k d) : Fit (L + 3) (k + 1) (.tuple [d]) := by
  obtain ⟨h1, h2, h3⟩ := h
  refine ⟨by simp [PyData.showable, PyData.showableAll, h1], ?_, by simp only [PyData.depth, PyData.depthAll]; omega⟩
  have e : (PyData.shown (.tuple [d])).length = 1 + d.shown.length + 2 := by
    simp only [PyData.shown, PyData.shownAll, tupleText, Str.join, strLen_append]
    rfl
  omega
theorem fit_wraps {d e : PyData} {L k : Nat} (h : Fit L k d) (he : e ∈ wraps d) : Fit (2 * L + 12) (k + 2) e := by
  have ht := fit_tup h
  obtain ⟨h1, h2, h3⟩ := h
  unfold wraps at he
  rcases List.mem_cons.mp he with rfl | he
  · obtain ⟨t1, t2, t3⟩ := ht
    exact ⟨t1, by omega, by omega⟩
  rcases List.mem_cons.mp he with rfl | he
  · refine ⟨by simp [PyData.showable, PyData.showableAll, h1], ?_, by simp only [PyData.depth, PyData.depthAll]; omega⟩
    have e : (PyData.shown (.list [d, d])).length = 1 + d.shown.length + 2 + d.shown.length + 1 := by
      simp only [PyData.shown, PyData.shownAll, listText, textFrom, strLen_append]
      rfl
    omega
  rcases List.mem_cons.mp he with rfl | he
  · refine ⟨by simp [PyData.showable, PyData.showableKv, h1], ?_, by simp only [PyData.depth, PyData.depthKv]; omega⟩
    have e : (PyData.shown (.dict [(.str "x", d)])).length = 1 + (3 + 2 + d.shown.length) + 1 := by
      have rx : (reprText (Str.ofString "x")).length = 3 := by decide +kernel
      simp only [PyData.shown, PyData.shownKv, dictText, Str.join, strLen_append]
      rw [rx]
      rfl
    omega
  rcases List.mem_cons.mp he with rfl | he
  · refine ⟨by simp [PyData.showable, PyData.showableAll, h1], ?_, by simp only [PyData.depth, PyData.depthAll]; omega⟩
    have e : (PyData.shown (.tuple [.str "a", d, .tuple []])).length = 1 + (3 + 2 + (d.shown.length + 2 + 2)) + 1 := by
      have ra : (reprText (Str.ofString "a")).length = 3 := by decide +kernel
      simp only [PyData.shown, PyData.shownAll, tupleText, Str.join, strLen_append]
      rw [ra]
      rfl
    omega
  · cases he
theorem Fit.mono {L L' k k' : Nat} {d : PyData} (h : Fit L k d) (a : L ≤ L') (b : k ≤ k') : Fit L' k' d := ⟨h.1, Nat.le_trans h.2.1 a, Nat.le_trans h.2.2 b⟩
theorem fit_step {n L k : Nat} (hL : 25 ≤ 2 * L + 12) (h : ∀ d ∈ things n, Fit L k d) : ∀ d ∈ things (n + 1), Fit (2 * L + 12) (k + 2) d := by
  intro d hd
  rcases List.mem_append.mp hd with hd | hd
  · exact (fit_odds hd).mono hL (by omega)
  · obtain ⟨e, he, hde⟩ := List.mem_flatMap.mp hd
    exact fit_wraps (h e he) hde
/-- what was drawn is shown within small bounds, in a tuple too -/
theorem good3 {d : PyData} (h : d ∈ things 3) : goodB d = true ∧ goodB (.tuple [d]) = true := by
  have f0 : ∀ d ∈ things 0, Fit 25 2 d := fun d hd => fit_odds hd
  have f := fit_step (by decide) (fit_step (by decide) (fit_step (by decide) f0)) d h
  have g := fit_tup f
  obtain ⟨a1, a2, a3⟩ := f
  obtain ⟨b1, b2, b3⟩ := g
  unfold goodB
  rw [a1, b1, Nat.ble_eq_true_of_le (show d.shown.length ≤ 1000 by omega), Nat.ble_eq_true_of_le (show d.depth ≤ 12 by omega), Nat.ble_eq_true_of_le (show (PyData.tuple [d]).shown.length ≤ 1000 by omega), Nat.ble_eq_true_of_le (show (PyData.tuple [d]).depth ≤ 12 by omega)]
  exact ⟨rfl, rfl⟩
end M13
set_option Elab.async false
set_option linter.all false
set_option maxRecDepth 100000
set_option maxHeartbeats 8000000
namespace M13
open PySem PySem.Spec L2
open PyProof.Rows (envOfC)
theorem ite_nf {c : Bool} {A B : Prop} (hc : c = true) (h : B) : if (!c) = true then A else B := by
  rw [hc]
  exact iteF h
section
variable {P : Program} {w : World} {K : PySem.W.Frag} {mg : Str → Option Value} {base : Heap} {f fTh fMa fMk fS : Addr} {fd dTh dMa dMk dS : FuncData}
def spRight : Sp := fun vs H Q _ => ∃ (p : Addr) (c : Nat), vs = [.ref p] ∧ PotAt H p c ∧ c + 7 ≤ 900 ∧ ∀ H', Ch p H H' → PotAt H' p (c + 7) → Q (.bl true) H'
theorem scRight : FnScope ["_law_pot", "_law_thing_here", "_law_number", "_law_one", "_law_marks_here", "_law_error", "_law_at"] ["_law_pot"] (defScope (top 54)) := ⟨rfl, rfl, rfl, by decide +kernel, rfl, by decide +kernel, by decide +kernel⟩
/-- try: size((thing,)); return False -/
def t_try (K : PySem.W.Frag) : WX → TS := fun W => tSeq (tDrop (tCallS (spSize (He.ga K "NoDocument")) (WE W) (tCons (tTup (tCons (tVar 1) tNil)) tNil))) (tRet (tC (.bl false)))
/-- if repr(error.value) != repr((thing,)): return False -/
def t_suite (K : PySem.W.Frag) : Addr → Value → Option Addr → TS := fun a cls d =>
  tIfS (tTest (tOp rNe (tCB rRepr (tCons (tByVal (He.ga K "NoDocument") a cls d (tVar 5)) tNil)) (tCB rRepr (tCons (tTup (tCons (tVar 1) tNil)) tNil)))) (tRet (tC (.bl false))) tNext
theorem ok_right (F : FnD K "_law_right" 54 f fd) (B : Bl mg) (EA : ErrA K mg) (S : Sys K)
    (te : PySem.W.exmOne K (.ref (He.ga K "NoDocument")) (.ref (He.ga K "NoDocument")) = some true)
    (GTh : FnOk P w K mg base CX0 6 fTh dTh ["_law_pot", "_law_deep"] (spThing 3)) (bTh : Binds K dTh ["_law_pot", "_law_deep"] []) (kTh : PySem.W.keepIn K (.ref fTh) = true) (gTh : mg "_law_thing" = some (.ref fTh))
    (GMa : FnOk P w K mg base CX0 3 fMa dMa ["_law_thing_here"] (spMade K)) (bMa : Binds K dMa ["_law_thing_here"] []) (kMa : PySem.W.keepIn K (.ref fMa) = true) (gMa : mg "_law_made" = some (.ref fMa))
    (GMk : FnOk P w K mg base CX0 2 fMk dMk ["_law_error"] (spMarks K)) (bMk : Binds K dMk ["_law_error"] []) (kMk : PySem.W.keepIn K (.ref fMk) = true) (gMk : mg "_law_marks" = some (.ref fMk))
    (GS : FnOk P w K mg base (L2.CX P w) 4 fS dS ["document"] (spSize (He.ga K "NoDocument"))) (bS : Binds K dS ["document"] []) (kS : PySem.W.keepIn K (.ref fS) = true) (gS : mg "size" = some (.ref fS)) :
    FnG P w K mg base 7 f fd ["_law_pot"] spRight := by
  refine fnG_of F scRight (fun vs H Q E h => ?_) (fun cdv A outer s H vs Q E hgd hr h => ?_)
  · obtain ⟨p, c, rfl, _⟩ := h
    rfl
  obtain ⟨p, c, rfl, hp, hc, q⟩ := h
  have hr4 : Room 4 _ := hr.mono (by decide)
  have hr3 : Room 3 _ := hr.mono (by decide)
  have hr2 : Room 2 _ := hr.mono (by decide)
  have hu : A.units + 3 + 20 < cLine := by
    have z : A.units + 3 + 16 * 6 + 200 < cLine := hr.un
    omega
  have hnd : ("NoDocument" : Str) ∈ errs := by decide +kernel
  have TD := EA.T "NoDocument" hnd
  refine ⟨_, PSs.nox (pss_cons (ps_set (i := 1) scRight.nd rfl (Or.inl rfl) (pe_call GTh hr rfl gTh kTh bTh .nil pass0 (pa_cons (pv 0) (pa_cons pe_int pa_nil))))
    (pss_cons (ps_for PassesOwn.never rfl (pi_enum (by rfl) B.enum (pa_cons (pe_call GMa hr3 rfl gMa kMa bMa .nil pass0 (pa_cons (pv 1) pa_nil)) pa_nil))
        (pg_tup (by rfl) (pgs_cons (pg_name (i := 2) scRight.nd rfl (Or.inr rfl)) (pgs_cons (pg_name (i := 3) scRight.nd rfl (Or.inl rfl)) pgs_nil)))
      (pss_cons (ps_set (i := 4) scRight.nd rfl (Or.inl rfl) (pe_call GMk hr2 rfl gMk kMk bMk .nil pass0 (pa_cons (pv 3) pa_nil)))
      (pss_cons (ps_if (PW.pt (pw_or (pt_cmpR op_ne (pe_callB (call_repr S hgd hu) (by rfl) B.repr (by decide +kernel) (pa_cons (pe_val (fI := fI K) (pv 3)) pa_nil)) (pe_callB (call_repr S hgd hu) (by rfl) B.repr (by decide +kernel) (pa_cons (pv 1) pa_nil)) (nomark _))
          (pw_or1 (pt_cmpR (op_neD hr.units) (pv 4) (pe_lc (own := [("_law_at", 6)]) (g := gName 6) (tt := tYes) rfl scRight.nd (pi_range1 (by rfl) B.range (pa_cons (pe_callB call_len_seq (by rfl) B.len PySem.boot_len (pa_cons (pv 4) pa_nil)) pa_nil))
            (blkOk_by (N := ["_law_pot", "_law_thing_here", "_law_number", "_law_one", "_law_marks_here", "_law_error", "_law_at"]) (sc := defScope (top 54)) (by decide +kernel))
            (fun _ _ _ _ _ => pg_name (i := 6) scRight.nd rfl (Or.inl rfl)) (fun _ _ _ _ _ => pts_nil) (fun _ _ _ _ _ => pe_cmpR op_eq (pv 6) (pv 2) (nomark _))) (nomark _)))))
          (pss_one (ps_ret pe_bl)) pss_nil)
      (pss_one (ps_if (PW.pt (pw_or (pt_not (pt_val (pe_callB (call_isErr EA.I) (by rfl) B.isi (by decide +kernel) (pa_cons (pv 3) (pa_cons (pe_glob (v := .ref (He.ga K "TaglessError")) rfl EA.gT rfl) pa_nil)))))
          (pw_or1 (pt_not (pt_val (pe_callB (call_isErr EA.I) (by rfl) B.isi (by decide +kernel) (pa_cons (pv 3) (pa_cons (pe_bltn (v := .ty "ValueError") (by rfl) B.ve (by decide +kernel) rfl) pa_nil))))))))
          (pss_one (ps_ret pe_bl)) pss_nil)))))
    (pss_cons (ps_try_as (i := 5) (tb := t_try K) (ts := t_suite K) (Wout := fun _ _ _ _ => False) rfl rfl scRight.nd rfl rfl ⟨rfl, by decide, Or.inl (EA.g "NoDocument" hnd)⟩ takes0
        (fun W pn xe tk _ => pss_cons (ps_expr (by exact (pe_callS GS hr4 rfl gS kS bS (fun σ => passAt tk σ) (by exact (pa_cons (pe_tup (pa_cons (pv 1) pa_nil)) pa_nil))))) (pss_one (ps_ret pe_bl)))
        (fun a oe cls d pn hz hf => pss_one (ps_if (pt_cmpR op_ne (pe_callB (call_repr S hgd hu) (by rfl) B.repr (by decide +kernel) (pa_cons (pe_byVal TD hz hf (pv 5)) pa_nil))
            (pe_callB (call_repr S hgd hu) (by rfl) B.repr (by decide +kernel) (pa_cons (pe_tup (pa_cons (pv 1) pa_nil)) pa_nil)) (nomark _)) (pss_one (ps_ret pe_bl)) pss_nil)))
    (pss_one (ps_ret pe_bl))))), ?_⟩
  refine ⟨_, rfl, p, c, rfl, hp, by omega, fun x d as H1 hd hx npx k1 hp1 => ?_⟩
  obtain ⟨g1, g2⟩ := good3 hd
  refine ⟨_, rfl, x, rfl, fun l us H2 k2 hl hus => ⟨l, us, rfl, SqL.of hl, for_it (walk_enum (K := K) (a := l) (xs := us)) (fun _ σ H3 => (∃ nv ov mv av : Option V, σ = [some (.ref p), some x, nv, ov, mv, none, av]) ∧ Same H2 H3)
    ⟨⟨_, _, _, _, rfl⟩, same_refl _⟩ (fun i σ H3 _ z => SqL.of (z.2 _ _ hl)) ?turn ?after⟩⟩
  case turn =>
    rintro i u σ H3 H3' hi ⟨⟨nv, ov, mv, av, rfl⟩, k3⟩ ⟨T, a, b, rfl, hT, rfl, ha, hb⟩
    cases ha
    obtain ⟨n, hn, hE⟩ := hus.at hb
    have hnin : n ∈ errs := List.mem_of_getElem? hn
    have kT : Same H2 (upd H3 T (.tup [.int (i : Nat), b])) := k3.trans (same_new hT _)
    have hi36 : i < 36 := by
      have z := (List.getElem?_eq_some_iff.mp hn).1
      rw [errs_len] at z
      exact z
    have hnn : errs.getD i (Str.ofString "") = n := by
      rw [List.getD_eq_getElem?_getD, hn]
      rfl
    have hmk := marks_at i hi36
    rw [hnn] at hmk
    refine ⟨T, _, rfl, SqT.of upd_same, rfl, _, _, rfl, _, _, rfl, rfl, ?_⟩
    refine ⟨_, rfl, n, b, x, rfl, hnin, hE.same kT, fun m H4 k4 hm => ?_⟩
    have k24 : Same H2 H4 := kT.trans k4
    have hE4 := hE.same k24
    have hx4 : Dat H4 x d as := hx.same (k2.trans k24)
    have hm' : H4 m = some (.lst ((errs.map fun y => (n == y)).map V.bl)) := by
      rw [hm, List.map_map]
      rfl
    refine ⟨_, rfl, He.ga K n, x, EA.T n hnin, hE4, x, d, rfl, ⟨⟨as, hx4⟩, g1⟩, _, rfl, x, d, rfl, ⟨⟨as, hx4⟩, g1⟩, rfl, _, rfl, iteNS rfl ?_⟩
    refine ⟨_, rfl, _, rfl, m, _, rfl, .inl (SqL.of hm'), 36, (by rw [List.length_map, List.length_map, errs_len]; rfl), by decide, by decide, fun D hD => ?_⟩
    refine lc_range (lo := 0) (n := 36) (fun j H5 => Same H4 H5 ∧ H5 D = some (.lst (((List.range j).map fun t => decide (V.int (0 + ((t : Nat) : Int)) = V.int ((i : Nat) : Int))).map V.bl))) ⟨same_new hD _, upd_same⟩ ?_ ?_
    · rintro j H5 hj ⟨k5, hD5⟩
      refine ⟨rfl, ?_⟩
      simp only [tYes, if_true]
      refine ⟨_, rfl, _, rfl, rfl, _, hD5, ?_, fun b' o e => ?_, ?_⟩
      · rw [List.length_map, List.length_map, List.length_range]
        exact small1000 (by omega)
      · have nb : b' ≠ D := ne_of_none e hD
        rw [upd_ne nb]
        exact k5 _ _ e
      · rw [upd_same, List.range_succ, List.map_append, List.map_append]
        rfl
    · rintro H5 ⟨k5, hD5⟩
      rw [← hmk] at hD5
      refine ⟨_, _, .lst (SqL.of (k5 _ _ hm')) (dp_bls _), .lst (SqL.of hD5) (dp_bls _), shaped_bls _, shaped_bls _, _, rfl, ite_nf (SeqAt.eqv_refl _ (can_bls _)) ?_⟩
      have k25 : Same H2 H5 := k24.trans k5
      refine ⟨_, rfl, _, _, _, _, _, true, rfl, .own _, EA.T n hnin, hE.same k25, EA.t n hnin, _, rfl, iteF ?_⟩
      refine ⟨_, rfl, _, _, _, _, _, true, rfl, .ty "ValueError", EA.T n hnin, hE.same k25, EA.v n hnin, _, rfl, iteF ?_⟩
      exact ⟨⟨_, _, _, _, rfl⟩, k25⟩
  case after =>
    rintro σ H3 ⟨⟨nv, ov, mv, av, rfl⟩, k3⟩
    refine ⟨_, rfl, (by show 1 ≤ sizeLine; decide), fun t ht => ?_⟩
    refine ⟨t, [x], rfl, upd_same, fun dd H4 k4 hdd => ?_⟩
    refine ⟨true, te, fun _ a0 ha0 => ?_, fun z => nomatch z⟩
    have hx4 : Dat H4 x d as := hx.same (((k2.trans k3).trans (same_new ht _)).trans k4)
    have ht4 : H4 t = some (.tup [x]) := k4 _ _ upd_same
    refine ⟨_, rfl, rfl, rfl, dd, _, rfl, hdd, .ref t, .tuple [d], rfl, ⟨⟨_, .tup ht4 (.cons hx4 .nil)⟩, g2⟩, ?_⟩
    refine ⟨_, rfl, (by show 1 ≤ sizeLine; decide), fun t2 ht2 => ?_⟩
    have hx5 : Dat (upd H4 t2 (.tup [x])) x d as := hx4.same (same_new ht2 _)
    refine ⟨.ref t2, .tuple [d], rfl, ⟨⟨_, .tup upd_same (.cons hx5 .nil)⟩, g2⟩, rfl, _, rfl, iteNS rfl ?_⟩
    have kk : Same H1 (upd H4 t2 (.tup [x])) := (((k2.trans k3).trans (same_new ht _)).trans k4).trans (same_new ht2 _)
    exact q _ (k1.trans (Ch.same kk)) (hp1.same kk)
end
end M13
set_option Elab.async false
set_option linter.all false
set_option maxRecDepth 100000
set_option maxHeartbeats 8000000
/-! M13S: the law's own def. -/
namespace M13
open PySem PySem.Spec L2
open PyProof.Rows (envOfC)
theorem turns_ok (l : Int) : 1 ≤ (if (if l < 3 then l else 3) > 1 then (if l < 3 then l else 3) else 1) ∧ (if (if l < 3 then l else 3) > 1 then (if l < 3 then l else 3) else 1) ≤ 3 := by
  by_cases h : l < 3
  · rw [if_pos h]
    by_cases h2 : l > 1
    · rw [if_pos h2]; omega
    · rw [if_neg h2]; omega
  · rw [if_neg h]
    decide
section
variable {P : Program} {w : World} {K : PySem.W.Frag} {mg : Str → Option Value} {base : Heap} {f fR fP : Addr} {fd dR dP : FuncData}
def spLaw (K : PySem.W.Frag) : Sp := fun vs H Q _ => ∃ (a : Addr) (ns : List Int), vs = [.ref a] ∧ SqL K H a (ns.map V.int) ∧ ns.length ≤ 63 ∧ ∀ H', Q (.bl true) H'
theorem scLaw : FnScope ["_law_script", "_law_k", "_law_pot", "_law_turn"] ["_law_script"] (defScope (top 55)) := ⟨rfl, rfl, rfl, by decide +kernel, rfl, by decide +kernel, by decide +kernel⟩
theorem ok_law (F : FnD K "law" 55 f fd) (B : Bl mg)
    (GR : FnG P w K mg base 7 fR dR ["_law_pot"] spRight) (bR : Binds K dR ["_law_pot"] []) (kR : PySem.W.keepIn K (.ref fR) = true) (gR : mg "_law_right" = some (.ref fR))
    (GP : FnOk P w K mg base CX0 1 fP dP ["_law_script", "_law_k"] (spPot K)) (bP : Binds K dP ["_law_script", "_law_k"] []) (kP : PySem.W.keepIn K (.ref fP) = true) (gP : mg "_law_pot_of" = some (.ref fP)) :
    FnG P w K mg base 8 f fd ["_law_script"] (spLaw K) := by
  refine fnG_of F scLaw (fun vs H Q E h => ?_) (fun cdv A outer s H vs Q E hgd hr h => ?_)
  · obtain ⟨a, ns, rfl, _⟩ := h
    rfl
  obtain ⟨a, ns, rfl, hS, hn, q⟩ := h
  have hr1 : Room 1 _ := hr.mono (by decide)
  refine ⟨_, PSs.nox (pss_cons (ps_for PassesOwn.never rfl (pi_range1 (by rfl) B.range (pa_cons (pe_callB (call_max2 rfl) (by rfl) B.max (by decide +kernel) (pa_cons pe_int (pa_cons (pe_callB (call_min2 rfl) (by rfl) B.min (by decide +kernel)
          (pa_cons pe_int (pa_cons (pe_callB call_len_seq (by rfl) B.len PySem.boot_len (pa_cons (pv 0) pa_nil)) pa_nil))) pa_nil))) pa_nil))
        (pg_name (i := 1) scLaw.nd rfl (Or.inl rfl))
      (pss_cons (ps_set (i := 2) scLaw.nd rfl (Or.inr rfl) (pe_call GP hr1 rfl gP kP bP .nil pass0 (pa_cons (pv 0) (pa_cons (pv 1) pa_nil))))
      (pss_one (ps_if (pt_not (pt_val (pe_callB (cr_all rfl) (by rfl) B.all (by decide +kernel) (pa_cons
          (pe_lc (own := [("_law_turn", 3)]) (g := gName 3) (tt := tYes) rfl scLaw.nd (pi_range1 (by rfl) B.range (pa_cons pe_int pa_nil)) (blkOk_by (N := ["_law_script", "_law_k", "_law_pot", "_law_turn"]) (sc := defScope (top 55)) (by decide +kernel))
            (fun _ _ _ _ _ => pg_name (i := 3) scLaw.nd rfl (Or.inl rfl)) (fun _ _ _ _ _ => pts_nil) (fun _ _ _ _ _ => pe_callG GR hgd hr gR kR bR (pa_cons (pv 2) pa_nil))) pa_nil))))
        (pss_one (ps_ret pe_bl)) pss_nil))))
    (pss_one (ps_ret pe_bl))), ?_⟩
  have jb := turns_ok (((ns.map V.int).length : Nat) : Int)
  refine ⟨_, rfl, a, _, rfl, .inl hS, 3, _, rfl, 1, _, rfl, _, rfl, by omega, by omega, ?_⟩
  generalize (if (if (((ns.map V.int).length : Nat) : Int) < 3 then (((ns.map V.int).length : Nat) : Int) else 3) > 1 then (if (((ns.map V.int).length : Nat) : Int) < 3 then (((ns.map V.int).length : Nat) : Int) else 3) else 1) = j at jb
  refine for_range (lo := 0) (n := j.toNat) (fun _ σ H1 => (∃ kv pv' : Option V, σ = [some (.ref a), kv, pv', none]) ∧ Same H H1) ⟨⟨_, _, rfl⟩, same_refl _⟩ ?turn ?after
  case turn =>
    rintro i σ H1 hi ⟨⟨kv, pv', rfl⟩, k1⟩
    refine ⟨_, rfl, _, rfl, a, ns, 0 + (i : Int), rfl, k1.seq hS, by omega, by omega, fun p H2 k2 hpn hp => ?_⟩
    obtain ⟨ys, hys⟩ := hp.lst
    refine ⟨8, rfl, by decide, by decide, fun D hD => ?_⟩
    have nDp : D ≠ p := fun e => by
      rw [e, hys] at hD
      cases hD
    refine lc_range (lo := 0) (n := 8) (fun t H3 => Ch p H2 H3 ∧ PotAt H3 p (7 * t) ∧ H3 D = some (.lst (List.replicate t (.bl true)))) ⟨Ch.same (same_new hD _), hp.same (same_new hD _), upd_same⟩ ?_ ?_
    · rintro t H3 ht ⟨k3, hp3, hD3⟩
      refine ⟨rfl, ?_⟩
      simp only [tYes, if_true]
      refine ⟨_, rfl, p, 7 * t, rfl, hp3, by omega, fun H4 k4 hp4 => ⟨_, k4 _ _ nDp hD3, ?_, fun b o nb e => ?_, ?_, ?_⟩⟩
      · rw [List.length_replicate]
        exact small1000 (by omega)
      · have nbD : b ≠ D := ne_of_none e hD
        rw [upd_ne nbD]
        exact k4 _ _ nb (k3 _ _ nb e)
      · obtain ⟨x1, x2, x3, e1, e2⟩ := hp4
        exact ⟨x1, x2, x3, by rw [upd_ne (Ne.symm nDp)]; exact e1, e2⟩
      · rw [upd_same, List.replicate_succ']
    · rintro H3 ⟨k3, hp3, hD3⟩
      refine ⟨D, List.replicate 8 true, rfl, SqL.of hD3, _, rfl, iteF ?_⟩
      refine ⟨⟨_, _, rfl⟩, fun b o e => ?_⟩
      have e1 := k1 _ _ e
      have nb : b ≠ p := ne_of_none e1 hpn
      exact k3 _ _ nb (k2 _ _ e1)
  case after =>
    rintro σ H1 ⟨⟨kv, pv', rfl⟩, k1⟩
    exact q H1
end
end M13
set_option Elab.async false
set_option linter.all false
set_option maxRecDepth 100000
set_option maxHeartbeats 8000000
/-! M13T: what the head's look tells. -/
namespace M13
open PySem PySem.Spec L2
theorem eqB_ok {α : Type} [DecidableEq α] {a b : α} (h : eqB a b = true) : a = b := of_decide_eq_true h
theorem cls_of {K : PySem.W.Frag} {C : Addr} (h : clsB K C = true) :
    ∃ nm q N bs bm sn sub ab col dd k0 k1 k2 k3 k5, K.lookup C = some (excClassObj nm q C N bs bm true sn sub ab col dd k0 k1 k2 k3 k5 "ValueError.__new__") ∧ PySem.HandSPX.refsVE bm = true := by
  unfold clsB at h
  split at h
  · rename_i t dd cd sl ho
    split at h
    · rename_i C' bm k0 k1 k2 k3 n k5 hm hs
      obtain ⟨h1, h⟩ := He.ba h
      obtain ⟨h2, h⟩ := He.ba h
      obtain ⟨h3, h⟩ := He.ba h
      obtain ⟨h4, h⟩ := He.ba h
      obtain ⟨h5, h6⟩ := He.ba h
      have e1 := eqB_ok h1
      have e2 : C' = C := beq_iff_eq.mp h2
      have e3 : n = "ValueError.__new__" := beq_iff_eq.mp h3
      subst e1 e2 e3
      obtain ⟨nm, bs, mro, ns, qn, hd, sn, sub, ab, col, del⟩ := cd
      simp only at hm
      simp only [Bool.not_eq_true'] at h4
      have h5' : hd = true := h5
      subst hm h5'
      have h4' : del = false := h4
      subst h4'
      obtain ⟨l⟩ := sl
      simp only at hs
      subst hs
      exact ⟨nm, qn, ns, bs, bm, sn, sub, ab, col, dd, k0, k1, k2, k3, k5, ho, h6⟩
    · cases h
  · cases h
theorem errT_of {K : PySem.W.Frag} {x : Str} (h : errB K x = true) : ErrT K (He.ga K x) (fI K) ∧ PySem.W.nsIn K mainGlobals x = some (some (.ref (He.ga K x))) := by
  unfold errB at h
  obtain ⟨a1, h⟩ := He.ba h
  obtain ⟨a2, h⟩ := He.ba h
  obtain ⟨a3, h⟩ := He.ba h
  obtain ⟨a4, h⟩ := He.ba h
  obtain ⟨a5, h⟩ := He.ba h
  obtain ⟨a6, h⟩ := He.ba h
  obtain ⟨a7, h⟩ := He.ba h
  obtain ⟨a8, h⟩ := He.ba h
  obtain ⟨a9, h⟩ := He.ba h
  obtain ⟨a10, h⟩ := He.ba h
  obtain ⟨a11, h⟩ := He.ba h
  obtain ⟨a12, a13⟩ := He.ba h
  exact ⟨{ cls := cls_of a2, sa := He.eqO_ok a3, ga := He.eqO_ok a4, gg := He.eqO_ok a5, noN := He.eqO_ok a6, iC := He.eqO_ok a7, cl := He.eqO_ok a8, kC := a9, exC := eqB_ok a10, tyC := eqB_ok a11, hdC := a12, ob := eqB_ok a13 }, He.eqO_ok a1⟩
section
variable {P : Program} {w : World} {K : PySem.W.Frag} {h : Heap} {mg : Str → Option Value} {f : Addr}
theorem facts (X : K.In h) (G : h.Ns mainGlobals mg) (hfa : mg ("law" : Str) = some (.ref f)) (c : Says K) :
    ∃ fd : FuncData, (∀ (s : Shared) (v : Value), BindsTo s fd ⟨[v], []⟩ [("_law_script", v)]) ∧ ∀ base : Heap, K.In base → base.Ns mainGlobals mg → FnG P w K mg base 8 f fd ["_law_script"] (spLaw K) := by
  obtain ⟨ck, cs⟩ := c
  unfold ckB at ck
  obtain ⟨b1, ck⟩ := He.ba ck
  obtain ⟨b2, ck⟩ := He.ba ck
  obtain ⟨b3, ck⟩ := He.ba ck
  obtain ⟨b4, ck⟩ := He.ba ck
  obtain ⟨b5, ck⟩ := He.ba ck
  obtain ⟨b6, ck⟩ := He.ba ck
  obtain ⟨b7, b8⟩ := He.ba ck
  unfold kinB at b2
  obtain ⟨c1, b2⟩ := He.ba b2
  obtain ⟨c2, c3⟩ := He.ba b2
  have EE : ∀ x ∈ errs, ErrT K (He.ga K x) (fI K) ∧ PySem.W.nsIn K mainGlobals x = some (some (.ref (He.ga K x))) := fun x hx => errT_of (List.all_eq_true.mp b1 x hx)
  obtain ⟨fdI, FI⟩ := cs.def_ 13 rfl
  have II : InitT K (fI K) := by
    refine ⟨eqB_ok b4, eqB_ok b6, eqB_ok b7, ?_⟩
    obtain ⟨oc, od, dV, kV, doc, pm, an, cdv, ct, osl, rfl, lk, hcd, hd, _⟩ := FI.ex
    rcases hd with ⟨_, rfl⟩ | ⟨n, _⟩
    · exact ⟨oc, od, doc, pm, an, cdv, ct, osl, ⟨4, 17, 4, 21⟩, ⟨4, 23, 4, 28⟩, ⟨5, 8, 5, 12⟩, ⟨5, 8, 5, 18⟩, ⟨5, 21, 5, 26⟩, ⟨5, 8, 5, 26⟩, kV, lk, hcd⟩
    · exact absurd rfl n
  have EA : ErrA K mg :=
    { T := fun x hx => (EE x hx).1, g := fun x hx => PySem.W.mg_of X G (EE x hx).2, I := II,
      k := fun x hx y hy => eqB_ok (List.all_eq_true.mp (List.all_eq_true.mp c1 x hx) y hy), t := fun x hx => eqB_ok (List.all_eq_true.mp c2 x hx),
      v := fun x hx => eqB_ok (List.all_eq_true.mp c3 x hx), gT := PySem.W.mg_of X G (He.eqO_ok b3) }
  have SY : Sys K := by
    split at b8
    · rename_i t dd od sl ho
      exact ⟨_, ho, congrArg Value.type (eqB_ok b8)⟩
    · cases b8
  have fr : ∀ (i : Nat) (x : Str), fa[i]? = some (.free x) → mg x = none := fun i x e => He.free_ok X G (cs.fact i e)
  have gl : ∀ (i : Nat) (x : Str), fa[i]? = some (.glo x) → mg x = some (.ref (He.ga K x)) := fun i x e => He.glo_ok X G (cs.fact i e)
  have B : Bl mg := ⟨fr 13 _ rfl, fr 14 _ rfl, fr 15 _ rfl, fr 16 _ rfl, fr 17 _ rfl, fr 18 _ rfl, fr 19 _ rfl, fr 20 _ rfl, fr 21 _ rfl, fr 22 _ rfl, fr 23 _ rfl, fr 24 _ rfl, fr 25 _ rfl, fr 26 _ rfl, fr 27 _ rfl⟩
  obtain ⟨d0, F0⟩ : ∃ fd, FnD K "sort_of" 42 (He.ga K "sort_of") fd := cs.def_ 0 rfl
  obtain ⟨d1, F1⟩ : ∃ fd, FnD K "inner_parts" 43 (He.ga K "inner_parts") fd := cs.def_ 1 rfl
  obtain ⟨d2, F2⟩ : ∃ fd, FnD K "parts_of" 44 (He.ga K "parts_of") fd := cs.def_ 2 rfl
  obtain ⟨d3, F3⟩ : ∃ fd, FnD K "is_document" 45 (He.ga K "is_document") fd := cs.def_ 3 rfl
  obtain ⟨d4, F4⟩ : ∃ fd, FnD K "size" 46 (He.ga K "size") fd := cs.def_ 4 rfl
  obtain ⟨d5, F5⟩ : ∃ fd, FnD K "_law_pot_of" 48 (He.ga K "_law_pot_of") fd := cs.def_ 5 rfl
  obtain ⟨d6, F6⟩ : ∃ fd, FnD K "_law_take" 49 (He.ga K "_law_take") fd := cs.def_ 6 rfl
  obtain ⟨d7, F7⟩ : ∃ fd, FnD K "_law_of" 50 (He.ga K "_law_of") fd := cs.def_ 7 rfl
  obtain ⟨d8, F8⟩ : ∃ fd, FnD K "_law_made" 51 (He.ga K "_law_made") fd := cs.def_ 8 rfl
  obtain ⟨d9, F9⟩ : ∃ fd, FnD K "_law_marks" 52 (He.ga K "_law_marks") fd := cs.def_ 9 rfl
  obtain ⟨d10, F10⟩ : ∃ fd, FnD K "_law_thing" 53 (He.ga K "_law_thing") fd := cs.def_ 10 rfl
  obtain ⟨d11, F11⟩ : ∃ fd, FnD K "_law_right" 54 (He.ga K "_law_right") fd := cs.def_ 11 rfl
  obtain ⟨d12, F12⟩ : ∃ fd, FnD K "law" 55 (He.ga K "law") fd := cs.def_ 12 rfl
  have e := hfa.symm.trans (gl 12 "law" rfl)
  cases e
  have k0 : Binds K d0 ["value"] [] := F0.bindsN fun _ _ _ _ _ _ us hl => match us, hl with | [_], _ => rfl
  have k2 : Binds K d2 ["value"] [] := F2.bindsN fun _ _ _ _ _ _ us hl => match us, hl with | [_], _ => rfl
  have k3 : Binds K d3 ["value"] [] := F3.bindsN fun _ _ _ _ _ _ us hl => match us, hl with | [_], _ => rfl
  have k4 : Binds K d4 ["document"] [] := F4.bindsN fun _ _ _ _ _ _ us hl => match us, hl with | [_], _ => rfl
  have k5 : Binds K d5 ["_law_script", "_law_k"] [] := F5.bindsN fun _ _ _ _ _ _ us hl => match us, hl with | [_, _], _ => rfl
  have k6 : Binds K d6 ["_law_pot", "_law_upto"] [] := F6.bindsN fun _ _ _ _ _ _ us hl => match us, hl with | [_, _], _ => rfl
  have k7 : Binds K d7 ["_law_pot", "_law_some"] [] := F7.bindsN fun _ _ _ _ _ _ us hl => match us, hl with | [_, _], _ => rfl
  have k8 : Binds K d8 ["_law_thing_here"] [] := F8.bindsN fun _ _ _ _ _ _ us hl => match us, hl with | [_], _ => rfl
  have k9 : Binds K d9 ["_law_error"] [] := F9.bindsN fun _ _ _ _ _ _ us hl => match us, hl with | [_], _ => rfl
  have k10 : Binds K d10 ["_law_pot", "_law_deep"] [] := F10.bindsN fun _ _ _ _ _ _ us hl => match us, hl with | [_, _], _ => rfl
  have k11 : Binds K d11 ["_law_pot"] [] := F11.bindsN fun _ _ _ _ _ _ us hl => match us, hl with | [_], _ => rfl
  have k12 := FunD.bindsA (ps := ["_law_script"]) F12 fun _ _ _ _ _ _ us hl => match us, hl with | [_], _ => rfl
  refine ⟨d12, fun s v => k12 s [v] rfl, fun base _ _ => ?_⟩
  have G0 : FnOk P w K mg base CX0 1 _ d0 ["value"] spSort := ok_sort F0 B
  have G2 : FnOk P w K mg base CX0 2 _ d2 ["value"] spParts := ok_parts F2 B F1 (gl 1 "inner_parts" rfl)
  have G3 : FnOk P w K mg base CX0 3 _ d3 ["value"] spIsDoc := ok_isdoc F3 B G2 k2 F2.kp (gl 2 "parts_of" rfl) G0 k0 F0.kp (gl 0 "sort_of" rfl)
  have hnd : ("NoDocument" : Str) ∈ errs := by decide +kernel
  have G4 : FnOk P w K mg base (L2.CX P w) 4 _ d4 ["document"] (spSize (He.ga K "NoDocument")) := ok_size F4 G3 k3 F3.kp (gl 3 "is_document" rfl) (EA.T _ hnd) II (EA.g _ hnd)
  have G5 : FnOk P w K mg base CX0 1 _ d5 ["_law_script", "_law_k"] (spPot K) := ok_pot F5 B
  have G6 : FnOk P w K mg base CX0 1 _ d6 ["_law_pot", "_law_upto"] spTake := ok_take F6 B
  have G7 : FnOk P w K mg base CX0 2 _ d7 ["_law_pot", "_law_some"] spOf := ok_of F7 B G6 k6 F6.kp (gl 6 "_law_take" rfl)
  have G8 : FnOk P w K mg base CX0 3 _ d8 ["_law_thing_here"] (spMade K) := ok_made F8 EA
  have G9 : FnOk P w K mg base CX0 2 _ d9 ["_law_error"] (spMarks K) := ok_marks F9 EA B
  have T0 : FnOk P w K mg base CX0 3 _ d10 ["_law_pot", "_law_deep"] (spThing 0) := ok_thing0 F10 G7 k7 F7.kp (gl 7 "_law_of" rfl)
  have step : ∀ n, FnOk P w K mg base CX0 (n + 3) (He.ga K "_law_thing") d10 ["_law_pot", "_law_deep"] (spThing n) → FnOk P w K mg base CX0 (n + 4) (He.ga K "_law_thing") d10 ["_law_pot", "_law_deep"] (spThing (n + 1)) :=
    fun n h => ok_thingS F10 G7 k7 F7.kp (gl 7 "_law_of" rfl) G6 k6 F6.kp (gl 6 "_law_take" rfl) h k10 (gl 10 "_law_thing" rfl)
  have T3 : FnOk P w K mg base CX0 6 (He.ga K "_law_thing") d10 ["_law_pot", "_law_deep"] (spThing 3) := step 2 (step 1 (step 0 T0))
  have G11 : FnG P w K mg base 7 _ d11 ["_law_pot"] spRight := ok_right F11 B EA SY (eqB_ok b5) T3 k10 F10.kp (gl 10 "_law_thing" rfl) G8 k8 F8.kp (gl 8 "_law_made" rfl) G9 k9 F9.kp (gl 9 "_law_marks" rfl) G4 k4 F4.kp (gl 4 "size" rfl)
  exact ok_law F12 B G11 k11 F11.kp (gl 11 "_law_right" rfl) G5 k5 F5.kp (gl 5 "_law_pot_of" rfl)
end
end M13
set_option Elab.async false
set_option linter.all false
set_option maxRecDepth 100000
set_option maxHeartbeats 0
namespace M13
open PySem PySem.Spec PyProof.Rows L2
theorem run (w : World) : HandSHeadRun.RunEq R (PySem.W.view R.prog [55]) hk ob 9000 looseN w := by
  intro os
  kernel_rfl
end M13
set_option Elab.async false
set_option linter.all false
set_option maxRecDepth 100000
set_option maxHeartbeats 0
open PySem PySem.W PySem.Calls PyProof.Rows
theorem PySem.Challenge.cw_tagless_k13_errors_with_any_value_holds : PySem.Challenge.rw_tagless_k13_errors_with_any_value.Holds := by
  w_on; o_law
  refine HandSHeadRun.head_any (r := M13.R) (q := view (M13.R).prog [55]) (H := M13.hk) (ob := M13.ob) (M := 9000) (loose := M13.looseN) (d := HandSHeadRun.topDef (M13.R).prog 55) (kwd := []) M13.ob_eq
    (by kernel_rfl) (fun s => by kernel_rfl) M13.run (by kernel_rfl) (by kernel_rfl) (by kernel_rfl) (by rfl) (by first | assumption | decide +kernel) (by decide +kernel) ⟨rfl, rfl, rfl, rfl, rfl, by decide +kernel⟩ ?hw ?hc
  case hw => w_witness2
  case hc =>
    refine M13.walkG (l := PySem.Challenge.rw_tagless_k13_errors_with_any_value) (n := 63) (k := 8) (x := "_law_script") rfl (by decide) (by kernel_rfl) ⟨rfl, by decide, by decide⟩ ?F
    intro w mg fa h Y G hmg0
    obtain ⟨K, KX, c⟩ := Y
    have hmg : mg ("law" : PySem.Str) = some (.ref fa) := by
      have e : (HandSHeadRun.topDef (M13.R).prog 55).name = ("law" : PySem.Str) := by kernel_rfl
      rw [← e]
      exact hmg0
    obtain ⟨fd, hb, hF⟩ := M13.facts (P := (PySem.Challenge.rw_tagless_k13_errors_with_any_value).prog) (w := w) KX G hmg c
    exact ⟨K, fd, M13.spLaw K, KX, hb, fun H a ns hl hS => ⟨a, ns, rfl, hS, hl, fun _ => rfl⟩, hF⟩
