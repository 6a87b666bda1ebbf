import PyProof.Rows.All
import Wide.All
import OpenK.AllK
import Wide.FinOn
import HandS.ForMost
import HandS.IsInst
import HandS.Sort
import HandS.Conv
import PySem.Challenge.RW_downpass_k00_spans
set_option Elab.async false
set_option linter.all false
set_option maxRecDepth 100000
set_option maxHeartbeats 4000000
namespace DP
open PySem PySem.Spec PyProof.Rows L2
def isPl (p : Addr) (h : Heap) : Prop := ∃ (n : Int) (t : Tok) (k : Nat), h.get? p = some { cls := .type "list", data := .seq #[.int n t] k }
def plO (p : Addr) : HO := .ext (isPl p)
section
variable {P : Program} {w : World} {K : PySem.W.Frag} {mg : Str → Option Value} {base : Heap} {k : Nat} {f : Addr} {fd : FuncData} {ps : List Str} {sp sp' : Sp}
/-- the same objects by another heap that differs at p alone, where neither says own or tuple -/
theorem stay_at {H H' : Hp} {h : Heap} {p a : Addr} {o : HO} (x : ObjOk P w H h a o) (e : ∀ b, b ≠ p → H b = H' b) (n1 : ∀ y, H p ≠ some (.own y)) (n2 : ∀ xs, H p ≠ some (.tup xs)) : ObjOk P w H' h a o :=
  x.stay (fun _ _ _ q => q) (fun b q => by
    have hb : b ≠ p := fun z => n1 _ (z ▸ q)
    rw [← e b hb]; exact q) (fun b xs q => by
    have hb : b ≠ p := fun z => n2 _ (z ▸ q)
    rw [← e b hb]; exact q)
theorem pl_open {H : Hp} {h : Heap} {p : Addr} (ok : HOk P w H h) (e : H p = some (plO p)) : ∃ n : Int, HOk P w (upd H p (.lst [.int n])) h := by
  obtain ⟨⟨n, t, k, g⟩, _⟩ := (show ObjOk P w H h p (.ext (isPl p)) from ok p _ e)
  refine ⟨n, fun a o q => ?_⟩
  by_cases ha : a = p
  · subst ha
    rw [upd_same] at q
    cases q
    exact ⟨(by show 1 ≤ sizeLine; decide), [.int n t], k, .cons ⟨t, rfl⟩ .nil, g⟩
  · rw [upd_ne ha] at q
    exact stay_at (p := p) (ok a o q) (fun b hb => (upd_ne hb).symm) (fun y z => by rw [e] at z; cases z) (fun y z => by rw [e] at z; cases z)
theorem pl_close {H : Hp} {h : Heap} {p : Addr} {m : Int} (ok : HOk P w H h) (e : H p = some (.lst [.int m])) : HOk P w (upd H p (plO p)) h := by
  obtain ⟨_, its, k, r, g⟩ := (show ObjOk P w H h p (.lst [.int m]) from ok p _ e)
  refine fun a o q => ?_
  by_cases ha : a = p
  · subst ha
    rw [upd_same] at q
    cases q
    cases r with
    | cons r1 r2 =>
      cases r2
      obtain ⟨t, rfl⟩ := r1
      refine ⟨⟨m, t, k, g⟩, ⟨_, g⟩, fun h1 h2 z y => ?_⟩
      obtain ⟨n', t', k', g'⟩ := z
      exact ⟨n', t', k', y _ g'⟩
  · rw [upd_ne ha] at q
    exact stay_at (p := p) (ok a o q) (fun b hb => (upd_ne hb).symm) (fun y z => by rw [e] at z; cases z) (fun y z => by rw [e] at z; cases z)
/-- a def that turns the counter, told as one that changes nothing -/
theorem hide_in (F : FnOk P w K mg base CX0 k f fd ps sp) (hl : ∀ vs H Q E, sp' vs H Q E → vs.length = ps.length)
    (hs : ∀ vs H Q E, sp' vs H Q E → ∃ p, H p = some (plO p) ∧ ∀ n : Int, sp vs (upd H p (.lst [.int n])) (fun v H' => (∃ m : Int, H' = upd H p (.lst [.int m])) ∧ Q v H) E) : FnOk P w K mg base CX0 k f fd ps sp' := by
  refine ⟨hl, fun A outer s H args us vs Q E hr he hb hv h => ?_⟩
  obtain ⟨p, ep, h1⟩ := hs vs H Q E h
  obtain ⟨n, ok⟩ := pl_open he.hok ep
  have h2 := h1 n
  have hne : ∀ b, H b = none → b ≠ p := fun b z y => by rw [y, ep] at z; cases z
  refine codeAny_mono (F.run A outer s _ args us vs _ E hr ⟨he.frames, he.mod, fun b o z => ⟨(he.bs b o z).1, by rw [upd_ne (hne b (he.bs b o z).2)]; exact (he.bs b o z).2⟩, he.bsz, he.funs, fun b z => by rw [upd_ne (hne b (he.frf b z))]; exact he.frf b z, ok, he.bare⟩ hb hv h2) fun r s' hq => ?_
  cases r with
  | error e => exact hq.elim
  | ok fl =>
    cases fl with
    | next => exact False.elim hq
    | brk => exact False.elim hq
    | cont => exact False.elim hq
    | ret u =>
      obtain ⟨v, H', os, bare, un, hok, rv, ⟨m, rfl⟩, q⟩ := hq
      refine ⟨v, H, os, bare, ⟨fun b o z n hb hx => un.keep b o z (by rw [upd_ne (hne b n)]; exact n) hb hx, fun b o z n hb hx => un.slot b o z (by rw [upd_ne (hne b n)]; exact n) hb hx, fun _ _ _ n _ => n, un.there, fun _ _ z => z, fun _ _ _ z => z, fun _ ps z => ⟨#[], by rw [z]; simp⟩⟩, ?_, rv, q⟩
      have c := pl_close hok upd_same
      rw [upd_upd] at c
      intro a o z
      have c1 := c a
      have eq : upd H p (plO p) = H := by
        funext b
        by_cases hb : b = p
        · subst hb; rw [upd_same, ep]
        · rw [upd_ne hb]
      rw [eq] at c
      exact c a o z
/-- a def that hands back a heap with such a list: from then on it is a counter -/
theorem hide_out (F : FnOk P w K mg base CX0 k f fd ps sp) (hl : ∀ vs H Q E, sp' vs H Q E → vs.length = ps.length)
    (hs : ∀ vs H Q E, sp' vs H Q E → sp vs H (fun v H' => ∃ (p : Addr) (m : Int), H p = none ∧ H' p = some (.lst [.int m]) ∧ Q v (upd H' p (plO p))) E) : FnOk P w K mg base CX0 k f fd ps sp' := by
  refine ⟨hl, fun A outer s H args us vs Q E hr he hb hv h => ?_⟩
  refine codeAny_mono (F.run A outer s _ args us vs _ E hr he hb hv (hs vs H Q E h)) fun r s' hq => ?_
  cases r with
  | error e => exact hq.elim
  | ok fl =>
    cases fl with
    | next => exact False.elim hq
    | brk => exact False.elim hq
    | cont => exact False.elim hq
    | ret u =>
      obtain ⟨v, H', os, bare, un, hok, rv, p, m, n0, ep, q⟩ := hq
      refine ⟨v, _, os, bare, ⟨un.keep, un.slot, fun b o z n hx => ?_, un.there, fun b xs z => ?_, fun b o u z => ?_, fun b ps z => ?_⟩, pl_close hok ep, rv, q⟩
      · have e1 := un.free b o z n hx
        rw [upd_ne (fun y => by rw [y, ep] at e1; cases e1)]
        exact e1
      · rw [upd_ne (ne_of_none z n0)]; exact un.tups b xs z
      · rw [upd_ne (ne_of_none z n0)]; exact un.frzs b o u z
      · rw [upd_ne (ne_of_none z n0)]; exact un.tbls b ps z
end
end DP
/-! what a def of the text promises, with its place; the built-in names -/
namespace DP
open PySem PySem.Spec PyProof.Rows L2
/-- the built-in names that the text leaves alone -/
structure Bt (mg : Str → Option Value) : Prop where
  len : mg "len" = none
  range : mg "range" = none
  int : mg "int" = none
  abs : mg "abs" = none
  isinstance : mg "isinstance" = none
  bool : mg "bool" = none
  str : mg "str" = none
  tuple : mg "tuple" = none
  list : mg "list" = none
  sum : mg "sum" = none
  max : mg "max" = none
  min : mg "min" = none
  all : mg "all" = none
  enumerate : mg "enumerate" = none
  zip : mg "zip" = none
structure DefOk (P : Program) (w : World) (K : PySem.W.Frag) (mg : Str → Option Value) (base : Heap) (CX : CXT) (k : Nat) (x : Str) (ps : List Str) (sp : Sp) : Prop where
  ex : ∃ f fd, FnOk P w K mg base CX k f fd ps sp ∧ mg x = some (.ref f) ∧ PySem.W.keepIn K (.ref f) = true ∧ Binds K fd ps [] ∧ ∃ oc od osl, K.lookup f = some ⟨oc, od, .func fd, osl⟩
/-- where a def stands -/
structure At (K : PySem.W.Frag) (mg : Str → Option Value) (x : Str) (st : Stmt) (ps : List Str) : Prop where
  ex : ∃ f fd, Fun K x x st f fd ∧ mg x = some (.ref f) ∧ Binds K fd ps []
theorem pe_f {X : Cx} {CX : CXT} {k : Nat} {x : Str} {ps : List Str} {sp : Sp} {E : XK} {e : Expr} {es : List Expr} {t : TA} {p pos : Pos} (D : DefOk X.prog X.w X.K X.mg X.base CX k x ps sp) (hr : Room k X.A) (hx : Passes CX X E) (ha : PA X (e :: es) t)
    (hg : Gl X x := by rfl) (hdb : (x == ("__debug__" : Str)) = false := by decide) (he : starEach (e :: es) X.env = (false, eval e X.env) :: starEach es X.env := by rfl) (hpl : (backTo pos (starEach es X.env)).any (·.1) = false := by rfl) :
    PE X (.Call (.Name x p) (e :: es) [] pos) (tCall sp [] E t) := by
  obtain ⟨f, fd, G, m, kp, b, _⟩ := D.ex
  exact pe_call G hr hg m kp b .nil hx ha hdb he hpl
section
variable {P : Program} {w : World} {K : PySem.W.Frag} {mg : Str → Option Value} {base : Heap} {x : Str} {st : Stmt} {ps N : List Str} {k : Nat} {sp sp' : Sp}
theorem At.ok (F : At K mg x st ps) (S : FnScope N ps (defScope st)) (len : ∀ vs H Q E, sp vs H Q E → vs.length = ps.length)
    (hbody : ∀ (f : Addr) (cdv : Value) (A : Around) (outer : List Env) (s : Shared) (H : Hp) (vs : List V) (Q : VK) (E : XK), Room k (A.deeper (envOfC x (defScope st) s.heap.objs.size f cdv)) → sp vs H Q E →
      ∃ t, PSs (cxOf CX0 P w K mg base N x (defScope st) f cdv A outer s H E).nox (defBody st) t ∧ t { nx := fun _ H' => Q .non H', rt := Q } (start N vs) H) : DefOk P w K mg base CX0 (k + 1) x ps sp := by
  obtain ⟨f, fd, G, m, b⟩ := F.ex
  obtain ⟨oc, od, _, _, _, _, _, _, osl, _, lk, _⟩ := G.ex
  exact ⟨f, fd, G.ok S len (fun cdv A outer s H vs Q E hr h => hbody f cdv A outer s H vs Q E hr h), m, G.kp, b, oc, od, osl, lk⟩
/-- the law's def, for the end -/
theorem At.end_ {l : PySem.W.OpenLaw} {fa : Addr} (F : At K mg x st ["script"]) (hfa : mg x = some (.ref fa)) (h : ∀ base : Heap, DefOk l.prog w K mg base CX0 k x ["script"] sp)
    (hb : ∀ (kV doc pm : Value) (an : Option Addr) (cdv ct v : Value), bindArgs (PySem.W.fnOf x x (defArgs st) (defBody st) (defScope st) .none kV doc pm an cdv ct) ⟨[v], []⟩ = pure [(("script" : Str), v)]) :
    ∃ fd : FuncData, (∀ (s : Shared) (v : Value), BindsTo s fd ⟨[v], []⟩ [("script", v)]) ∧ ∀ base : Heap, K.In base → base.Ns mainGlobals mg → FnOk l.prog w K mg base CX0 k fa fd ["script"] sp := by
  obtain ⟨f, fd, G, m, b⟩ := F.ex
  rw [hfa] at m
  cases m
  refine ⟨fd, fun s v => ?_, fun base _ _ => ?_⟩
  · obtain ⟨oc, od, kV, doc, pm, an, cdv, ct, osl, rfl, lk, _⟩ := G.ex
    exact .of_eq (hb kV doc pm an cdv ct v)
  obtain ⟨f', fd', G', m', _, _, oc', od', osl', lk'⟩ := (h base).ex
  rw [hfa] at m'
  cases m'
  obtain ⟨oc, od, _, _, _, _, _, _, osl, _, lk, _⟩ := G.ex
  rw [lk] at lk'
  cases lk'
  exact G'
theorem DefOk.hide_in (D : DefOk P w K mg base CX0 k x ps sp) (hl : ∀ vs H Q E, sp' vs H Q E → vs.length = ps.length)
    (hs : ∀ vs H Q E, sp' vs H Q E → ∃ p, H p = some (plO p) ∧ ∀ n : Int, sp vs (upd H p (.lst [.int n])) (fun v H' => (∃ m : Int, H' = upd H p (.lst [.int m])) ∧ Q v H) E) : DefOk P w K mg base CX0 k x ps sp' := by
  obtain ⟨f, fd, G, m, kp, b, lk⟩ := D.ex
  exact ⟨f, fd, DP.hide_in G hl hs, m, kp, b, lk⟩
theorem DefOk.hide_out (D : DefOk P w K mg base CX0 k x ps sp) (hl : ∀ vs H Q E, sp' vs H Q E → vs.length = ps.length)
    (hs : ∀ vs H Q E, sp' vs H Q E → sp vs H (fun v H' => ∃ (p : Addr) (m : Int), H p = none ∧ H' p = some (.lst [.int m]) ∧ Q v (upd H' p (plO p))) E) : DefOk P w K mg base CX0 k x ps sp' := by
  obtain ⟨f, fd, G, m, kp, b, lk⟩ := D.ex
  exact ⟨f, fd, DP.hide_out G hl hs, m, kp, b, lk⟩
theorem DefOk.imp (D : DefOk P w K mg base CX0 k x ps sp) (h : ∀ vs H Q E, sp' vs H Q E → sp vs H Q E) : DefOk P w K mg base CX0 k x ps sp' := by
  obtain ⟨f, fd, G, m, kp, b, lk⟩ := D.ex
  exact ⟨f, fd, G.imp h, m, kp, b, lk⟩
end
theorem at_mk {h : Heap} {K : PySem.W.Frag} {mg : Str → Option Value} (X : K.In h) (G : h.Ns mainGlobals mg) {x : Str} {st : Stmt} {ps : List Str} {f : Addr} {oc : Value} {od an : Option Addr} {osl : Array (Option Value)} {kV doc pm cdv ct : Value}
    (a : PySem.W.nsIn K mainGlobals x = some (some (.ref f))) (l : K.lookup f = some ⟨oc, od, .func (PySem.W.fnOf x x (defArgs st) (defBody st) (defScope st) .none kV doc pm an cdv ct), osl⟩)
    (c : PySem.W.codeIn K cdv x = true) (k : PySem.W.keepIn K (.ref f) = true)
    (hb : ∀ (kV doc pm : Value) (an : Option Addr) (cdv ct : Value) (us : List Value), us.length = ps.length → bindArgs (PySem.W.fnOf x x (defArgs st) (defBody st) (defScope st) .none kV doc pm an cdv ct) ⟨us, []⟩ = pure (ps.zip us)) : At K mg x st ps := by
  have F := fun_mk (st := st) l c k
  exact ⟨f, _, F, PySem.W.mg_of X G a, F.binds hb⟩
theorem same_new {H : Hp} {p : Addr} (h : H p = none) (o : HO) : Same H (upd H p o) := fun b u q => by rw [upd_ne (ne_of_none q h)]; exact q
theorem same_at {H H' : Hp} {p : Addr} (h : H p = none) (s : Same H H') (o : HO) : Same H (upd H' p o) := fun b u q => by rw [upd_ne (ne_of_none q h)]; exact s _ _ q
theorem Same.tup {K : PySem.W.Frag} {H H' : Hp} {a : Addr} {xs : List V} (e : Same H H') (h : SqT K H a xs) : SqT K H' a xs := by
  rcases h with (h | ⟨o, h⟩) | h
  · exact .inl (.inl (e _ _ h))
  · exact .inl (.inr ⟨o, e _ _ h⟩)
  · exact .inr h
theorem iteT' {c : Bool} {A B : Prop} (e : c = true) (h : A) : if c = true then A else B := by
  rw [if_pos e]
  exact h
theorem iteF' {c : Bool} {A B : Prop} (e : c = false) (h : B) : if c = true then A else B := by
  rw [e]
  exact iteF h
theorem small {n : Nat} (h : n ≤ 1000) : n ≤ sizeLine := Nat.le_of_lt (small1000 h)
/-! within a comprehension's block: the same rules with the written part named -/
section
variable {X : Cx} {K : PySem.W.Frag}
theorem ix_listK (h : X.K = K) : IxR X (rIxL K) := by subst h; exact ix_list
theorem ix_tupK (h : X.K = K) : IxR X (rIxT K) := by subst h; exact ix_tup
theorem ix_seqK (h : X.K = K) : IxR X (rIx K) := by subst h; exact ix_seq
theorem sl_tupK (h : X.K = K) : SlR X (rSlT K) := by subst h; exact sl_tup
theorem sl_listK (h : X.K = K) : SlR X (rSlL K) := by subst h; exact sl_list
theorem op_in_seqK (h : X.K = K) : OpR X (compareOp .In) (rIn K false) := by subst h; exact op_in_seq
theorem op_notIn_seqK (h : X.K = K) : OpR X (compareOp .NotIn) (rIn K true) := by subst h; exact op_notIn_seq
theorem call_isiK (h : X.K = K) : CallR X (.builtin "isinstance") (rIsi K) := by subst h; exact call_isi
theorem call_len_seqK (h : X.K = K) : CallR X (.builtin "len") (fun xs H Q => ∃ p ys, xs = [.ref p] ∧ (SqL K H p ys ∨ SqT K H p ys) ∧ Q (.int ys.length) H) := by subst h; exact call_len_seq
end
end DP
/-! the law's small helpers: its cells, its draws, its stream, the comparison -/
namespace DP
open PySem PySem.Spec PyProof.Rows L2
def topS (i : Nat) : Stmt := PySem.Challenge.pw_downpass_k00_spans.main.body.getD i (.Pass ⟨0, 0, 0, 0⟩)
abbrev s__law_cell : Stmt := topS 6
theorem sc__law_cell : FnScope ["script", "k"] ["script", "k"] (defScope s__law_cell) := ⟨rfl, rfl, rfl, by decide +kernel, rfl, by decide +kernel, by decide +kernel⟩
abbrev s__law_draws : Stmt := topS 7
theorem sc__law_draws : FnScope ["cell", "count", "number", "great", "found", "k", "mixed"] ["cell", "count"] (defScope s__law_draws) := ⟨rfl, rfl, rfl, by decide +kernel, rfl, by decide +kernel, by decide +kernel⟩
abbrev s__law_stream : Stmt := topS 8
theorem sc__law_stream : FnScope ["script", "first", "count", "found", "k"] ["script", "first", "count"] (defScope s__law_stream) := ⟨rfl, rfl, rfl, by decide +kernel, rfl, by decide +kernel, by decide +kernel⟩
abbrev s__law_next : Stmt := topS 9
theorem sc__law_next : FnScope ["stream", "many", "digits", "place", "value"] ["stream", "many"] (defScope s__law_next) := ⟨rfl, rfl, rfl, by decide +kernel, rfl, by decide +kernel, by decide +kernel⟩
section
variable {P : Program} {w : World} {K : PySem.W.Frag} {mg : Str → Option Value} {base : Heap}
/-- some int -/
def spCell (K : PySem.W.Frag) : Sp := fun vs H Q _ => ∃ (a : Addr) (ns : List Int) (k : Int), vs = [.ref a, .int k] ∧ SqL K H a (ns.map V.int) ∧ 0 ≤ k ∧ ∀ v : Int, Q (.int v) H
theorem d_cell (B : Bt mg) (A : At K mg "_law_cell" s__law_cell ["script", "k"]) : DefOk P w K mg base CX0 1 "_law_cell" ["script", "k"] (DP.spCell K) := by
  refine A.ok sc__law_cell (fun vs H Q E h => ?_) (fun f cdv A outer s H vs Q E hr h => ?_)
  · obtain ⟨a, ns, k, rfl, _⟩ := h
    rfl
  obtain ⟨a, ns, k, rfl, hS, h0, q⟩ := h
  refine ⟨_, pss_cons (ps_if (pt_cmpR op_lt (pv 1) (pe_callB (call_len_seq) (by rfl) B.len (by decide +kernel) (pa_cons (pv 0) pa_nil)) (nomark _))
      (pss_one (ps_ret (pe_callTy (call_int1) (by rfl) B.int (by decide +kernel) (pa_cons (pe_ix ix_list (pv 0) (pv 1) (fun _ _ => rfl)) pa_nil))))
      (pss_nil))
  (pss_one (ps_ret pe_int))
    , ?_⟩
  refine ⟨_, rfl, _, rfl, a, _, rfl, .inl hS, _, _, rfl, rfl, _, rfl, ?_⟩
  refine ite2 (fun c => ?_) (fun c => ?_)
  · have c' : k < (((ns.map V.int).length : Nat) : Int) := of_decide_eq_true c
    rw [List.length_map] at c'
    have hk : k.toNat < ns.length := by omega
    have ek : k = ((k.toNat : Nat) : Int) := by omega
    have g : (ns.map V.int)[k.toNat]? = some (.int ns[k.toNat]) := by rw [List.getElem?_map, List.getElem?_eq_getElem hk] <;> rfl
    have g2 : atI (ns.map V.int) k = some (.int ns[k.toNat]) := by
      have := atI_nat g
      rw [← ek] at this
      exact this
    exact ⟨_, rfl, _, rfl, a, _, _, _, rfl, rfl, hS, g2, .inl ⟨_, rfl, q _⟩⟩
  · exact q 0
/-- a new list of twelve ints -/
def spDraws : Sp := fun vs H Q _ => ∃ c : Int, vs = [.int c, .int 12] ∧ ∀ (p : Addr) (ds : List Int) (H' : Hp), Same H H' → H p = none → ds.length = 12 → H' p = some (.lst (ds.map V.int)) → Q (.ref p) H'
theorem d_draws (B : Bt mg) (A : At K mg "_law_draws" s__law_draws ["cell", "count"]) : DefOk P w K mg base CX0 1 "_law_draws" ["cell", "count"] spDraws := by
  refine A.ok sc__law_draws (fun vs H Q E h => ?_) (fun f cdv A outer s H vs Q E hr h => ?_)
  · obtain ⟨c, rfl, _⟩ := h
    rfl
  obtain ⟨c, rfl, q⟩ := h
  refine ⟨_, pss_cons (ps_set (i := 2) sc__law_draws.nd rfl (Or.inl rfl) (pe_callB (call_abs) (by rfl) B.abs (by decide +kernel) (pa_cons (pe_callTy (call_int1) (by rfl) B.int (by decide +kernel) (pa_cons (pv 0) pa_nil)) pa_nil)))
  (pss_cons (ps_set (i := 3) sc__law_draws.nd rfl (Or.inl rfl) (pe_cmpR op_ge (pv 2) (pe_op op_pow pe_int pe_int) (nomark _)))
  (pss_cons (ps_set (i := 4) sc__law_draws.nd rfl (Or.inl rfl) (pe_lst pa_nil))
  (pss_cons (ps_for PassesOwn.never rfl (pi_range1 (by rfl) B.range (pa_cons pe_int pa_nil)) (pg_name (i := 5) sc__law_draws.nd rfl (Or.inl rfl))
      (pss_one (ps_if (PW.pt (pw_and (pt_cmpR op_lt (pv 5) (pv 1) (nomark _)) (pw_and1 (pt_val (pv 3)))))
          (pss_cons (ps_expr (pe_bm PySem.F.plainAttrs_list PySem.F.slot_list_append PySem.F.type_list_append mt_append (pv 4) (pa_cons (pe_op op_mod (pv 2) pe_int) pa_nil)))
          (pss_one (ps_set (i := 2) sc__law_draws.nd rfl (Or.inl rfl) (pe_op op_fdiv (pv 2) pe_int))))
          (pss_one (ps_if (pt_cmpR op_lt (pv 5) (pv 1) (nomark _))
              (pss_cons (ps_set (i := 6) sc__law_draws.nd rfl (Or.inl rfl) (pe_op op_mod (pe_op op_add (pe_op op_add (pe_op op_mul (pe_callTy (call_int1) (by rfl) B.int (by decide +kernel) (pa_cons (pv 2) pa_nil)) pe_int) (pe_op op_mul (pv 5) pe_int)) pe_int) pe_int))
              (pss_cons (ps_set (i := 6) sc__law_draws.nd rfl (Or.inl rfl) (pe_op op_mod (pe_op op_add (pe_op op_add (pe_op op_mul (pe_callTy (call_int1) (by rfl) B.int (by decide +kernel) (pa_cons (pv 6) pa_nil)) (pe_callTy (call_int1) (by rfl) B.int (by decide +kernel) (pa_cons (pv 6) pa_nil))) (pe_op op_mul (pv 5) pe_int)) pe_int) pe_int))
              (pss_one (ps_expr (pe_bm PySem.F.plainAttrs_list PySem.F.slot_list_append PySem.F.type_list_append mt_append (pv 4) (pa_cons (pe_op op_mod (pe_callTy (call_int1) (by rfl) B.int (by decide +kernel) (pa_cons (pv 6) pa_nil)) pe_int) pa_nil))))))
              (pss_nil))))))
  (pss_one (ps_ret (pv 4))))))
    , ?_⟩
  refine ⟨_, rfl, .inl ⟨_, rfl, c, rfl, ?_⟩⟩
  generalize hn0 : (if c < 0 then -c else c) = n0
  have p0 : 0 ≤ n0 := by
    rw [← hn0]
    split <;> omega
  refine ⟨_, rfl, _, _, rfl, rfl, ⟨by decide, by decide, by decide⟩, _, _, rfl, rfl, Nat.zero_le _, fun p hp => ?_⟩
  obtain ⟨g, hg⟩ : ∃ g, decide ((10 : Int) ^ (18 : Int).toNat ≤ n0) = g := ⟨_, rfl⟩
  have hsmall : g = false → n0 < 10 ^ 18 := fun e => by
    rw [e] at hg
    have := of_decide_eq_false hg
    have e2 : (10 : Int) ^ (18 : Int).toNat = 10 ^ 18 := rfl
    rw [e2] at this
    omega
  refine ⟨60, rfl, by decide, by decide, for_range (n := 60) (fun i σ H' => ∃ (num : Int) (ds : List Int) (y5 y6 : Option V), σ = [some (.int c), some (.int 12), some (.int num), some (.bl g), some (.ref p), y5, y6] ∧ 0 ≤ num ∧ (g = false → num < 10 ^ 18) ∧
    ds.length = min i 12 ∧ H' p = some (.lst (ds.map V.int)) ∧ Same H H') ⟨n0, [], none, none, by rw [← hg]; rfl, p0, hsmall, rfl, upd_same, same_new hp _⟩ (fun i σ H1 hi hI => ?_) (fun σ H1 hI => ?_)⟩
  · obtain ⟨num, ds, y5, y6, rfl, pn, sn, hl, hpp, hs⟩ := hI
    have room : (ds.map V.int).length < sizeLine := by
      rw [List.length_map, hl]
      exact small1000 (by omega)
    have grow : ∀ v : Int, i < 12 → (ds ++ [v]).length = min (i + 1) 12 := fun v h => by
      rw [List.length_append, hl, List.length_singleton]
      omega
    have put : ∀ v : Int, (upd H1 p (.lst (ds.map V.int ++ [.int v]))) p = some (.lst ((ds ++ [v]).map V.int)) := fun v => by
      rw [upd_same, List.map_append] <;> rfl
    refine ⟨_, rfl, _, rfl, _, _, rfl, rfl, _, rfl, ?_⟩
    refine ite2 (fun c1 => ?_) (fun c1 => ?_)
    · have c1' : (0 : Int) + (i : Nat) < 12 := of_decide_eq_true c1
      refine ⟨_, rfl, g, rfl, ?_⟩
      cases g with
      | true =>
        refine iteT ?_
        refine ⟨_, rfl, .inl ⟨rfl, _, SqL.of hpp⟩, _, rfl, _, _, rfl, rfl, (by show (0 : Int) < 60; decide), _, _, _, rfl, rfl, hpp, room, ?_⟩
        refine ⟨_, rfl, _, _, rfl, rfl, ⟨by decide, by decide⟩, ?_⟩
        exact ⟨num / 60, ds ++ [num % 60], _, _, rfl, Int.ediv_nonneg pn (by decide), fun z => Bool.noConfusion z, grow _ (by omega), put _, same_at hp hs _⟩
      | false =>
        have sn' := sn rfl
        refine iteF ?_
        refine ⟨_, rfl, _, rfl, _, _, rfl, rfl, _, rfl, iteT' (decide_eq_true c1') ?_⟩
        refine ⟨_, rfl, .inl ⟨_, rfl, _, _, rfl, rfl, .inr ⟨by decide, by decide⟩, _, rfl, _, _, rfl, rfl, .inr ⟨by decide, by decide⟩, _, _, rfl, rfl, _, _, rfl, rfl, _, _, rfl, rfl, (by show (0 : Int) < 2147483647; decide), ?_⟩⟩
        generalize hm : ((num * 48271 + (0 + (i : Nat)) * 69621 + 11) % 2147483647 : Int) = m1
        have b1 : 0 ≤ m1 := by rw [← hm]; exact Int.emod_nonneg _ (by decide)
        have b2 : m1 < 2147483647 := by rw [← hm]; exact Int.emod_lt_of_pos _ (by decide)
        refine ⟨_, rfl, .inl ⟨_, rfl, _, rfl, .inl ⟨_, rfl, _, _, rfl, rfl, .inl ⟨by omega, by omega⟩, _, rfl, _, _, rfl, rfl, .inr ⟨by decide, by decide⟩, _, _, rfl, rfl, _, _, rfl, rfl, _, _, rfl, rfl, (by show (0 : Int) < 998244353; decide), ?_⟩⟩⟩
        refine ⟨_, rfl, .inl ⟨rfl, _, SqL.of hpp⟩, _, rfl, .inl ⟨_, rfl, _, _, rfl, rfl, (by show (0 : Int) < 60; decide), _, _, _, rfl, rfl, hpp, room, ?_⟩⟩
        exact ⟨num, _, _, _, rfl, pn, sn, grow _ (by omega), put _, same_at hp hs _⟩
    · have c1' : ¬ (0 : Int) + (i : Nat) < 12 := fun z => c1 (decide_eq_true z)
      refine ⟨_, rfl, _, rfl, _, _, rfl, rfl, _, rfl, iteF' (decide_eq_false c1') ?_⟩
      exact ⟨num, ds, _, _, rfl, pn, sn, by rw [hl]; omega, hpp, hs⟩
  · obtain ⟨num, ds, y5, y6, rfl, pn, sn, hl, hpp, hs⟩ := hI
    exact ⟨_, rfl, q p ds H1 hs hp hl hpp⟩
theorem mod_place' {i : Int} {n : Nat} (h : 0 < n) : (i % (n : Int)).toNat < n ∧ (((i % (n : Int)).toNat : Nat) : Int) = i % (n : Int) := by
  have h1 : 0 ≤ i % (n : Int) := Int.emod_nonneg i (by omega)
  have h2 : i % (n : Int) < (n : Int) := Int.emod_lt_of_pos i (by omega)
  have h3 : (((i % (n : Int)).toNat : Nat) : Int) = i % (n : Int) := Int.toNat_of_nonneg h1
  refine ⟨?_, h3⟩
  omega
/-- a stream: its digits, its place -/
def Strm (H : Hp) (st : Addr) : Prop := ∃ (d p : Addr) (ds : List Int), H st = some (.lst [.ref d, .ref p]) ∧ H d = some (.lst (ds.map V.int)) ∧ 0 < ds.length ∧ H p = some (plO p)
theorem Strm.same {H H' : Hp} {st : Addr} (h : Strm H st) (s : Same H H') : Strm H' st := by
  obtain ⟨d, p, ds, h1, h2, h3, h4⟩ := h
  exact ⟨d, p, ds, s _ _ h1, s _ _ h2, h3, s _ _ h4⟩
def spStream0 (K : PySem.W.Frag) : Sp := fun vs H Q _ => ∃ (a : Addr) (ns : List Int) (first count : Int), vs = [.ref a, .int first, .int count] ∧ SqL K H a (ns.map V.int) ∧ 0 ≤ first ∧ 0 < count ∧ count ≤ 60 ∧
  ∀ (st d p : Addr) (ds : List Int) (H' : Hp), Same H H' → H st = none → H d = none → H p = none → st ≠ p → d ≠ p → H' st = some (.lst [.ref d, .ref p]) → H' d = some (.lst (ds.map V.int)) → 0 < ds.length → H' p = some (.lst [.int 0]) → Q (.ref st) H'
theorem d_stream0 (B : Bt mg) (D_law_cell : DefOk P w K mg base CX0 1 "_law_cell" ["script", "k"] (DP.spCell K)) (D_law_draws : DefOk P w K mg base CX0 1 "_law_draws" ["cell", "count"] spDraws)
    (A : At K mg "_law_stream" s__law_stream ["script", "first", "count"]) : DefOk P w K mg base CX0 2 "_law_stream" ["script", "first", "count"] (spStream0 K) := by
  refine A.ok sc__law_stream (fun vs H Q E h => ?_) (fun f cdv A outer s H vs Q E hr h => ?_)
  · obtain ⟨a, ns, first, count, rfl, _⟩ := h
    rfl
  obtain ⟨a, ns, first, count, rfl, hS, h0, h1, h2, q⟩ := h
  refine ⟨_, pss_cons (ps_set (i := 3) sc__law_stream.nd rfl (Or.inl rfl) (pe_lst pa_nil))
  (pss_cons (ps_for PassesOwn.never rfl (pi_range1 (by rfl) B.range (pa_cons (pv 2) pa_nil)) (pg_name (i := 4) sc__law_stream.nd rfl (Or.inl rfl))
      (pss_one (ps_expr (pe_bm PySem.F.plainAttrs_list PySem.F.slot_list_extend PySem.F.type_list_extend mt_extend (pv 3) (pa_cons (pe_f D_law_draws (hr.mono (by omega)) pass0 (pa_cons (pe_f D_law_cell (hr.mono (by omega)) pass0 (pa_cons (pv 0) (pa_cons (pe_op op_add (pv 1) (pv 4)) pa_nil))) (pa_cons pe_int pa_nil))) pa_nil)))))
  (pss_one (ps_ret (pe_lst (pa_cons (pv 3) (pa_cons (pe_lst (pa_cons pe_int pa_nil)) pa_nil))))))
    , ?_⟩
  refine ⟨Nat.zero_le _, fun p hp => ?_⟩
  refine ⟨_, rfl, count, rfl, by omega, by omega, for_range (n := count.toNat) (fun i σ H' => ∃ (ds : List Int) (y4 : Option V), σ = [some (.ref a), some (.int first), some (.int count), some (.ref p), y4] ∧ ds.length = 12 * i ∧ H' p = some (.lst (ds.map V.int)) ∧ Same H H')
    ⟨[], none, rfl, rfl, upd_same, same_new hp _⟩ (fun i σ H1 hi hI => ?_) (fun σ H1 hI => ?_)⟩
  · obtain ⟨ds, y4, rfl, hl, hpp, hs⟩ := hI
    refine ⟨_, rfl, .inl ⟨rfl, _, SqL.of hpp⟩, _, rfl, _, rfl, _, rfl, _, _, rfl, rfl, a, ns, first + (0 + (i : Int)), rfl, hs.seq hS, by omega, fun v => ?_⟩
    refine ⟨v, rfl, fun b es H2 s2 nb hl2 hb => ?_⟩
    refine ⟨p, b, _, _, rfl, rfl, s2 _ _ hpp, hb, ?_, ?_⟩
    · rw [List.length_map, List.length_map, hl, hl2]
      exact small (by omega)
    · refine ⟨ds ++ es, _, rfl, by rw [List.length_append, hl, hl2]; omega, by rw [upd_same, List.map_append], same_at hp (hs.trans s2) _⟩
  · obtain ⟨ds, y4, rfl, hl, hpp, hs⟩ := hI
    refine ⟨_, rfl, Nat.le_trans (by decide : 1 ≤ 1000) (Nat.le_of_lt (small1000 (Nat.le_refl _))), fun pl npl => ?_⟩
    have e1 : p ≠ pl := ne_of_none hpp npl
    refine ⟨Nat.le_trans (by decide : 2 ≤ 1000) (Nat.le_of_lt (small1000 (Nat.le_refl _))), fun st nst => ?_⟩
    have nst0 := nst
    have e2 : pl ≠ st := fun z => by
      rw [← z, upd_same] at nst
      cases nst
    rw [upd_ne e2.symm] at nst
    have e3 : p ≠ st := ne_of_none hpp nst
    refine q st p pl ds _ (same_at (hs.free nst) (same_at (hs.free npl) hs _) _) (hs.free nst) hp (hs.free npl) e2.symm e1 upd_same ?_ (by rw [hl]; omega) ?_
    · rw [upd_ne e3, upd_ne e1]
      exact hpp
    · rw [upd_ne e2, upd_same]
def spStream (K : PySem.W.Frag) : Sp := fun vs H Q _ => ∃ (a : Addr) (ns : List Int) (first count : Int), vs = [.ref a, .int first, .int count] ∧ SqL K H a (ns.map V.int) ∧ 0 ≤ first ∧ 0 < count ∧ count ≤ 60 ∧
  ∀ (st : Addr) (H' : Hp), Same H H' → H st = none → Strm H' st → Q (.ref st) H'
theorem d_stream (D : DefOk P w K mg base CX0 2 "_law_stream" ["script", "first", "count"] (spStream0 K)) : DefOk P w K mg base CX0 2 "_law_stream" ["script", "first", "count"] (spStream K) := by
  refine D.hide_out (fun vs H Q E h => ?_) (fun vs H Q E h => ?_)
  · obtain ⟨a, ns, first, count, rfl, _⟩ := h
    rfl
  obtain ⟨a, ns, first, count, rfl, hS, h0, h1, h2, q⟩ := h
  refine ⟨a, ns, first, count, rfl, hS, h0, h1, h2, fun st d p ds H' s nst nd np e1 e2 g1 g2 g3 g4 => ⟨p, 0, np, g4, q st _ (same_at np s _) nst ⟨d, p, ds, ?_, ?_, g3, upd_same⟩⟩⟩
  · rw [upd_ne e1]; exact g1
  · rw [upd_ne e2]; exact g2
def spNext0 : Sp := fun vs H Q _ => ∃ (st d p : Addr) (ds : List Int) (n many : Int), vs = [.ref st, .int many] ∧ 0 < many ∧ H st = some (.lst [.ref d, .ref p]) ∧ H d = some (.lst (ds.map V.int)) ∧ 0 < ds.length ∧ H p = some (.lst [.int n]) ∧
  ∀ v m : Int, 0 ≤ v → v < many → Q (.int v) (upd H p (.lst [.int m]))
theorem d_next0 (B : Bt mg) (A : At K mg "_law_next" s__law_next ["stream", "many"]) : DefOk P w K mg base CX0 1 "_law_next" ["stream", "many"] spNext0 := by
  refine A.ok sc__law_next (fun vs H Q E h => ?_) (fun f cdv A outer s H vs Q E hr h => ?_)
  · obtain ⟨a, d, p, ds, n, many, rfl, _⟩ := h
    rfl
  obtain ⟨st, d, p, ds, n, many, rfl, hm, h1, h2, h3, h4, q⟩ := h
  refine ⟨_, pss_cons (ps_set (i := 2) sc__law_next.nd rfl (Or.inl rfl) (pe_ix ix_list (pv 0) pe_int (fun _ _ => rfl)))
  (pss_cons (ps_set (i := 3) sc__law_next.nd rfl (Or.inl rfl) (pe_ix ix_list (pv 0) pe_int (fun _ _ => rfl)))
  (pss_cons (ps_set (i := 4) sc__law_next.nd rfl (Or.inl rfl) (pe_op op_mod (pe_callTy (call_int1) (by rfl) B.int (by decide +kernel) (pa_cons (pe_ix ix_list (pv 2) (pe_op op_mod (pe_callTy (call_int1) (by rfl) B.int (by decide +kernel) (pa_cons (pe_ix ix_list (pv 3) pe_int (fun _ _ => rfl)) pa_nil)) (pe_callB (call_len_seq) (by rfl) B.len (by decide +kernel) (pa_cons (pv 2) pa_nil))) (fun _ _ => rfl)) pa_nil)) (pv 1)))
  (pss_cons (ps_asg (pe_op op_add (pe_ix ix_list (pv 3) pe_int (fun _ _ => rfl)) pe_int) (pg_sub (pv 3) pe_int set_list))
  (pss_one (ps_ret (pv 4))))))
    , ?_⟩
  refine ⟨_, rfl, st, _, 0, .ref d, rfl, rfl, SqL.of h1, rfl, ?_⟩
  refine ⟨_, rfl, st, _, 1, .ref p, rfl, rfl, SqL.of h1, rfl, ?_⟩
  have hp := (mod_place' (i := n) h3)
  have g2 : atI (ds.map V.int) (n % (((ds.map V.int).length : Nat) : Int)) = some (.int ds[(n % (ds.length : Int)).toNat]) := by
    have g : (ds.map V.int)[(n % (ds.length : Int)).toNat]? = some (.int ds[(n % (ds.length : Int)).toNat]) := by rw [List.getElem?_map, List.getElem?_eq_getElem hp.1] <;> rfl
    have g3 := atI_nat g
    rw [hp.2] at g3
    rw [List.length_map]
    exact g3
  refine ⟨_, rfl, _, rfl, p, _, 0, .int n, rfl, rfl, SqL.of h4, rfl, .inl ⟨_, rfl, _, rfl, d, _, rfl, .inl (SqL.of h2), _, _, rfl, rfl, (by rw [List.length_map]; omega), ?_⟩⟩
  refine ⟨d, _, _, _, rfl, rfl, SqL.of h2, g2, .inl ⟨_, rfl, _, rfl, _, _, rfl, rfl, hm, ?_⟩⟩
  refine ⟨_, rfl, p, _, 0, .int n, rfl, rfl, SqL.of h4, rfl, _, _, rfl, rfl, _, rfl, p, _, 0, 0, rfl, rfl, h4, rfl, ?_⟩
  exact ⟨_, rfl, q _ _ (Int.emod_nonneg _ (by omega)) (Int.emod_lt_of_pos _ hm)⟩
/-- some int below many; nothing is seen to change -/
def spNext : Sp := fun vs H Q _ => ∃ (st : Addr) (many : Int), vs = [.ref st, .int many] ∧ 0 < many ∧ Strm H st ∧ ∀ v : Int, 0 ≤ v → v < many → Q (.int v) H
theorem d_next (D : DefOk P w K mg base CX0 1 "_law_next" ["stream", "many"] spNext0) : DefOk P w K mg base CX0 1 "_law_next" ["stream", "many"] spNext := by
  refine D.hide_in (fun vs H Q E h => ?_) (fun vs H Q E h => ?_)
  · obtain ⟨st, many, rfl, _⟩ := h
    rfl
  obtain ⟨st, many, rfl, hm, ⟨d, p, ds, h1, h2, h3, h4⟩, q⟩ := h
  have e1 : st ≠ p := ne_of h1 h4 (fun z => nomatch z)
  have e2 : d ≠ p := ne_of h2 h4 (fun z => nomatch z)
  exact ⟨p, h4, fun n => ⟨st, d, p, ds, n, many, rfl, hm, by rw [upd_ne e1]; exact h1, by rw [upd_ne e2]; exact h2, h3, upd_same, fun v m v0 v1 => ⟨⟨m, upd_upd⟩, q v v0 v1⟩⟩⟩
end
end DP
/-! the comparison of the law: what reads as the same data is the same -/
namespace DP
open PySem PySem.Spec PyProof.Rows L2
abbrev s__law_is_integer : Stmt := topS 10
theorem sc__law_is_integer : FnScope ["actual"] ["actual"] (defScope s__law_is_integer) := ⟨rfl, rfl, rfl, by decide +kernel, rfl, by decide +kernel, by decide +kernel⟩
abbrev s__law_same : Stmt := topS 11
theorem sc__law_same : FnScope ["actual", "expected", "k"] ["actual", "expected"] (defScope s__law_same) := ⟨rfl, rfl, rfl, by decide +kernel, rfl, by decide +kernel, by decide +kernel⟩
/-- data of at most n layers, each of at most a thousand items -/
def Fit : Nat → PyData → Prop
  | 0, _ => False
  | _ + 1, .none => True
  | _ + 1, .bool _ => True
  | _ + 1, .int _ => True
  | _ + 1, .str _ => True
  | n + 1, .list ds => ds.length ≤ 1000 ∧ ∀ d ∈ ds, Fit n d
  | n + 1, .tuple ds => ds.length ≤ 1000 ∧ ∀ d ∈ ds, Fit n d
  | _ + 1, .dict _ => False
theorem dpAll_len {K : PySem.W.Frag} {H : Hp} : ∀ {xs : List V} {ds : List PyData}, DpAll K H xs ds → xs.length = ds.length
  | _, _, .nil => rfl
  | _, _, .cons _ t => by rw [List.length_cons, List.length_cons, dpAll_len t]
theorem dpAll_at {K : PySem.W.Frag} {H : Hp} : ∀ {xs : List V} {ds : List PyData} (i : Nat), DpAll K H xs ds → i < ds.length → ∃ x d, xs[i]? = some x ∧ ds[i]? = some d ∧ Dp K H x d
  | _, _, _, .nil, h => absurd h (Nat.not_lt_zero _)
  | _, _, 0, .cons (v := v) (d := d) a _, _ => ⟨v, d, rfl, rfl, a⟩
  | _, _, i + 1, .cons _ t, h => by
    obtain ⟨x, d, h1, h2, h3⟩ := dpAll_at i t (by rw [List.length_cons] at h; omega)
    exact ⟨x, d, by rw [List.getElem?_cons_succ]; exact h1, by rw [List.getElem?_cons_succ]; exact h2, h3⟩
theorem tyx_list {K : PySem.W.Frag} {H : Hp} {a : Addr} {xs : List V} (h : SqL K H a xs) : TyX K H (.ref a) (.type "list") := by
  rcases h with (h | ⟨o, h⟩) | ⟨o, _, _, h, c, _⟩
  · exact .base (.lst h)
  · exact .base (.frz h)
  · exact .kList h c
theorem tyx_tup {K : PySem.W.Frag} {H : Hp} {a : Addr} {xs : List V} (h : SqT K H a xs) : TyX K H (.ref a) (.type "tuple") := by
  rcases h with (h | ⟨o, h⟩) | ⟨o, _, _, h, c, _⟩
  · exact .base (.tup h)
  · exact .fTuple h
  · exact .kTuple h c
/-- the built-in class of data -/
def tyD : PyData → String
  | .none => "NoneType"
  | .bool _ => "bool"
  | .int _ => "int"
  | .str _ => "str"
  | .list _ => "list"
  | .tuple _ => "tuple"
  | .dict _ => "dict"
theorem tyx_d {K : PySem.W.Frag} {H : Hp} {x : V} {d : PyData} (h : Dp K H x d) : TyX K H x (.type (tyD d)) := by
  cases h with
  | non => exact .base .non
  | bl b => exact .base (.bl b)
  | int i => exact .base (.int i)
  | str x => exact .base (.str x)
  | lst h _ => exact tyx_list h
  | tup h _ => exact tyx_tup h
section
variable {P : Program} {w : World} {K : PySem.W.Frag} {mg : Str → Option Value} {base : Heap}
def spIsInt : Sp := fun vs H Q _ => ∃ i : Int, vs = [.int i] ∧ Q (.bl true) H
theorem d_is_integer (B : Bt mg) (A : At K mg "_law_is_integer" s__law_is_integer ["actual"]) : DefOk P w K mg base CX0 1 "_law_is_integer" ["actual"] spIsInt := by
  refine A.ok sc__law_is_integer (fun vs H Q E h => ?_) (fun f cdv A outer s H vs Q E hr h => ?_)
  · obtain ⟨i, rfl, _⟩ := h
    rfl
  obtain ⟨i, rfl, q⟩ := h
  refine ⟨_, pss_one (ps_ret (pe_and (pe_callB (call_isi) (by rfl) B.isinstance (by decide +kernel) (pa_cons (pv 0) (pa_cons (pe_bltn (v := .ty "int") (u := .type "int") (by rfl) B.int (by decide +kernel) rfl) pa_nil))) (pe_one (pe_not (pe_callB (call_isi) (by rfl) B.isinstance (by decide +kernel) (pa_cons (pv 0) (pa_cons (pe_bltn (v := .ty "bool") (u := .type "bool") (by rfl) B.bool (by decide +kernel) rfl) pa_nil)))))))
    , ?_⟩
  refine ⟨_, rfl, _, .ty "int", _, _, true, rfl, .ty "int", .base (.int i), kit_ty (by decide +kernel), true, rfl, iteT ?_⟩
  exact ⟨_, rfl, _, .ty "bool", _, _, false, rfl, .ty "bool", .base (.int i), kit_ty (by decide +kernel), false, rfl, q⟩
/-- two values that read as the same data of at most n layers -/
def spSame (K : PySem.W.Frag) (n : Nat) : Sp := fun vs H Q _ => ∃ (x y : V) (d : PyData), vs = [x, y] ∧ Fit n d ∧ Dp K H x d ∧ Dp K H y d ∧ Q (.bl true) H
theorem d_same1 {n : Nat} (B : Bt mg) (D_law_is_integer : DefOk P w K mg base CX0 1 "_law_is_integer" ["actual"] spIsInt) (D_law_same : DefOk P w K mg base CX0 (n + 1) "_law_same" ["actual", "expected"] (spSame K n))
    (A : At K mg "_law_same" s__law_same ["actual", "expected"]) : DefOk P w K mg base CX0 (n + 2) "_law_same" ["actual", "expected"] (spSame K (n + 1)) := by
  refine A.ok sc__law_same (fun vs H Q E h => ?_) (fun f cdv A outer s H vs Q E hr h => ?_)
  · obtain ⟨x, y, d, rfl, _⟩ := h
    rfl
  obtain ⟨x, y, d, rfl, fit, dx, dy, q⟩ := h
  refine ⟨_, pss_cons (ps_if (pt_cmpR op_isN (pv 1) pe_non (nomark _))
      (pss_one (ps_ret (pe_cmpR op_isN (pv 0) pe_non (nomark _))))
      (pss_nil))
  (pss_cons (ps_if (pt_val (pe_callB (call_isi) (by rfl) B.isinstance (by decide +kernel) (pa_cons (pv 1) (pa_cons (pe_bltn (v := .ty "bool") (u := .type "bool") (by rfl) B.bool (by decide +kernel) rfl) pa_nil))))
      (pss_one (ps_ret (pe_and (pe_callB (call_isi) (by rfl) B.isinstance (by decide +kernel) (pa_cons (pv 0) (pa_cons (pe_bltn (v := .ty "bool") (u := .type "bool") (by rfl) B.bool (by decide +kernel) rfl) pa_nil))) (pe_one (pe_cmpR op_eq (pv 0) (pv 1) (nomark _))))))
      (pss_nil))
  (pss_cons (ps_if (pt_val (pe_callB (call_isi) (by rfl) B.isinstance (by decide +kernel) (pa_cons (pv 1) (pa_cons (pe_bltn (v := .ty "int") (u := .type "int") (by rfl) B.int (by decide +kernel) rfl) pa_nil))))
      (pss_one (ps_ret (pe_and (pe_f D_law_is_integer (hr.mono (by omega)) pass0 (pa_cons (pv 0) pa_nil)) (pe_one (pe_cmpR op_eq (pv 0) (pv 1) (nomark _))))))
      (pss_nil))
  (pss_cons (ps_if (pt_val (pe_callB (call_isi) (by rfl) B.isinstance (by decide +kernel) (pa_cons (pv 1) (pa_cons (pe_bltn (v := .ty "str") (u := .type "str") (by rfl) B.str (by decide +kernel) rfl) pa_nil))))
      (pss_one (ps_ret (pe_and (pe_callB (call_isi) (by rfl) B.isinstance (by decide +kernel) (pa_cons (pv 0) (pa_cons (pe_bltn (v := .ty "str") (u := .type "str") (by rfl) B.str (by decide +kernel) rfl) pa_nil))) (pe_one (pe_cmpR op_eq (pv 0) (pv 1) (nomark _))))))
      (pss_nil))
  (pss_cons (ps_if (PW.pt (pw_and (pt_val (pe_callB (call_isi) (by rfl) B.isinstance (by decide +kernel) (pa_cons (pv 1) (pa_cons (pe_bltn (v := .ty "tuple") (u := .type "tuple") (by rfl) B.tuple (by decide +kernel) rfl) pa_nil)))) (pw_and1 (pt_not (pt_val (pe_callB (call_isi) (by rfl) B.isinstance (by decide +kernel) (pa_cons (pv 0) (pa_cons (pe_bltn (v := .ty "tuple") (u := .type "tuple") (by rfl) B.tuple (by decide +kernel) rfl) pa_nil))))))))
      (pss_one (ps_ret pe_bl))
      (pss_nil))
  (pss_cons (ps_if (PW.pt (pw_and (pt_val (pe_callB (call_isi) (by rfl) B.isinstance (by decide +kernel) (pa_cons (pv 1) (pa_cons (pe_bltn (v := .ty "list") (u := .type "list") (by rfl) B.list (by decide +kernel) rfl) pa_nil)))) (pw_and1 (pt_not (pt_val (pe_callB (call_isi) (by rfl) B.isinstance (by decide +kernel) (pa_cons (pv 0) (pa_cons (pe_bltn (v := .ty "list") (u := .type "list") (by rfl) B.list (by decide +kernel) rfl) pa_nil))))))))
      (pss_one (ps_ret pe_bl))
      (pss_nil))
  (pss_cons (ps_if (pt_cmpR op_ne (pe_callB (call_len_seq) (by rfl) B.len (by decide +kernel) (pa_cons (pv 0) pa_nil)) (pe_callB (call_len_seq) (by rfl) B.len (by decide +kernel) (pa_cons (pv 1) pa_nil)) (nomark _))
      (pss_one (ps_ret pe_bl))
      (pss_nil))
  (pss_cons (ps_for PassesOwn.never rfl (pi_range1 (by rfl) B.range (pa_cons (pe_callB (call_len_seq) (by rfl) B.len (by decide +kernel) (pa_cons (pv 1) pa_nil)) pa_nil)) (pg_name (i := 2) sc__law_same.nd rfl (Or.inl rfl))
      (pss_one (ps_if (pt_not (pt_val (pe_f D_law_same (hr.mono (by omega)) pass0 (pa_cons (pe_ix ix_seq (pv 0) (pv 2) (fun _ _ => rfl)) (pa_cons (pe_ix ix_seq (pv 1) (pv 2) (fun _ _ => rfl)) pa_nil)))))
          (pss_one (ps_ret pe_bl))
          (pss_nil))))
  (pss_one (ps_ret pe_bl)))))))))
    , ?_⟩
  cases d with
  | none =>
    cases dx
    cases dy
    exact ⟨_, rfl, rfl, _, rfl, iteT' (by decide) ⟨_, rfl, rfl, q⟩⟩
  | bool b =>
    cases dx
    cases dy
    refine ⟨_, rfl, rfl, _, rfl, iteF' (decide_eq_false (fun z => nomatch z)) ⟨_, rfl, ⟨_, _, _, _, true, rfl, .ty _, tyx_d (.bl b), kit_ty (by simp only [tyD]; decide +kernel), ⟨_, rfl, iteT ?_⟩⟩⟩⟩
    refine ⟨_, rfl, ⟨_, _, _, _, true, rfl, .ty _, tyx_d (.bl b), kit_ty (by simp only [tyD]; decide +kernel), ⟨_, rfl, iteT ⟨_, rfl, _, rfl, rfl, ?_⟩⟩⟩⟩
    rw [decide_eq_true (rfl : V.bl b = V.bl b)]
    exact q
  | int i =>
    cases dx
    cases dy
    refine ⟨_, rfl, rfl, _, rfl, iteF' (decide_eq_false (fun z => nomatch z)) ⟨_, rfl, ⟨_, _, _, _, false, rfl, .ty _, tyx_d (.int i), kit_ty (by simp only [tyD]; decide +kernel), ⟨_, rfl, iteF ?_⟩⟩⟩⟩
    refine ⟨_, rfl, ⟨_, _, _, _, true, rfl, .ty _, tyx_d (.int i), kit_ty (by simp only [tyD]; decide +kernel), ⟨_, rfl, iteT ?_⟩⟩⟩
    refine ⟨_, rfl, i, rfl, _, rfl, iteT ⟨_, rfl, _, rfl, rfl, ?_⟩⟩
    rw [decide_eq_true (rfl : V.int i = V.int i)]
    exact q
  | str z =>
    cases dx
    cases dy
    refine ⟨_, rfl, rfl, _, rfl, iteF' (decide_eq_false (fun z => nomatch z)) ⟨_, rfl, ⟨_, _, _, _, false, rfl, .ty _, tyx_d (.str z), kit_ty (by simp only [tyD]; decide +kernel), ⟨_, rfl, iteF ?_⟩⟩⟩⟩
    refine ⟨_, rfl, ⟨_, _, _, _, false, rfl, .ty _, tyx_d (.str z), kit_ty (by simp only [tyD]; decide +kernel), ⟨_, rfl, iteF ?_⟩⟩⟩
    refine ⟨_, rfl, ⟨_, _, _, _, true, rfl, .ty _, tyx_d (.str z), kit_ty (by simp only [tyD]; decide +kernel), ⟨_, rfl, iteT ?_⟩⟩⟩
    refine ⟨_, rfl, ⟨_, _, _, _, true, rfl, .ty _, tyx_d (.str z), kit_ty (by simp only [tyD]; decide +kernel), ⟨_, rfl, iteT ⟨_, rfl, _, rfl, rfl, ?_⟩⟩⟩⟩
    rw [decide_eq_true (rfl : V.str z = V.str z)]
    exact q
  | dict kvs => cases fit
  | list ds =>
    have dx' := dx
    have dy' := dy
    cases dx with
    | @lst a xs _ hx ax =>
    cases dy with
    | @lst b ys _ hy ay =>
    refine ⟨_, rfl, rfl, _, rfl, iteF' (decide_eq_false (fun z => nomatch z)) ⟨_, rfl, ⟨_, _, _, _, false, rfl, .ty _, tyx_d dy', kit_ty (by simp only [tyD]; decide +kernel), ⟨_, rfl, iteF ?_⟩⟩⟩⟩
    refine ⟨_, rfl, ⟨_, _, _, _, false, rfl, .ty _, tyx_d dy', kit_ty (by simp only [tyD]; decide +kernel), ⟨_, rfl, iteF ?_⟩⟩⟩
    refine ⟨_, rfl, ⟨_, _, _, _, false, rfl, .ty _, tyx_d dy', kit_ty (by simp only [tyD]; decide +kernel), ⟨_, rfl, iteF ?_⟩⟩⟩
    refine ⟨_, rfl, ⟨_, _, _, _, false, rfl, .ty _, tyx_d dy', kit_ty (by simp only [tyD]; decide +kernel), ⟨_, rfl, iteF ?_⟩⟩⟩
    refine iteF ?_
    refine ⟨_, rfl, ⟨_, _, _, _, true, rfl, .ty _, tyx_d dy', kit_ty (by simp only [tyD]; decide +kernel), ⟨_, rfl, iteT ?_⟩⟩⟩
    refine ⟨_, rfl, ⟨_, _, _, _, true, rfl, .ty _, tyx_d dx', kit_ty (by simp only [tyD]; decide +kernel), ⟨_, rfl, iteF ?_⟩⟩⟩
    have lx := dpAll_len ax
    have ly := dpAll_len ay
    refine ⟨_, rfl, a, _, rfl, .inl hx, _, rfl, b, _, rfl, .inl hy, rfl, _, rfl, iteF' (by rw [lx, ly, decide_eq_true rfl]; rfl) ?_⟩
    have fl := fit.1
    refine ⟨_, rfl, b, _, rfl, .inl hy, _, rfl, by omega, by omega, for_range (lo := 0) (n := ys.length) (fun i σ H' => H' = H ∧ ∃ y2, σ = [some (.ref a), some (.ref b), y2]) ⟨rfl, none, rfl⟩ (fun i σ H1 hi hI => ?_) (fun σ H1 hI => ?_)⟩
    · obtain ⟨rfl, y2, rfl⟩ := hI
      obtain ⟨u, d1, u1, u2, u3⟩ := dpAll_at i ax (by omega)
      obtain ⟨v, d2, v1, v2, v3⟩ := dpAll_at i ay (by omega)
      have e : d1 = d2 := Option.some.inj (u2.symm.trans v2)
      subst e
      have fd := fit.2 d1 (List.mem_of_getElem? u2)
      have u4 : atI xs (0 + (i : Int)) = some u := by rw [Int.zero_add]; exact atI_nat u1
      have v4 : atI ys (0 + (i : Int)) = some v := by rw [Int.zero_add]; exact atI_nat v1
      refine ⟨_, rfl, _, rfl, .inl ⟨a, _, _, u, rfl, rfl, hx, u4, _, rfl, _, rfl, .inl ⟨b, _, _, v, rfl, rfl, hy, v4, u, v, d1, rfl, fd, u3, v3, ?_⟩⟩⟩
      exact ⟨_, rfl, iteF ⟨rfl, _, rfl⟩⟩
    · obtain ⟨rfl, y2, rfl⟩ := hI
      exact q
  | tuple ds =>
    have dx' := dx
    have dy' := dy
    cases dx with
    | @tup a xs _ hx ax =>
    cases dy with
    | @tup b ys _ hy ay =>
    refine ⟨_, rfl, rfl, _, rfl, iteF' (decide_eq_false (fun z => nomatch z)) ⟨_, rfl, ⟨_, _, _, _, false, rfl, .ty _, tyx_d dy', kit_ty (by simp only [tyD]; decide +kernel), ⟨_, rfl, iteF ?_⟩⟩⟩⟩
    refine ⟨_, rfl, ⟨_, _, _, _, false, rfl, .ty _, tyx_d dy', kit_ty (by simp only [tyD]; decide +kernel), ⟨_, rfl, iteF ?_⟩⟩⟩
    refine ⟨_, rfl, ⟨_, _, _, _, false, rfl, .ty _, tyx_d dy', kit_ty (by simp only [tyD]; decide +kernel), ⟨_, rfl, iteF ?_⟩⟩⟩
    refine ⟨_, rfl, ⟨_, _, _, _, true, rfl, .ty _, tyx_d dy', kit_ty (by simp only [tyD]; decide +kernel), ⟨_, rfl, iteT ?_⟩⟩⟩
    refine ⟨_, rfl, ⟨_, _, _, _, true, rfl, .ty _, tyx_d dx', kit_ty (by simp only [tyD]; decide +kernel), ⟨_, rfl, iteF ?_⟩⟩⟩
    refine ⟨_, rfl, ⟨_, _, _, _, false, rfl, .ty _, tyx_d dy', kit_ty (by simp only [tyD]; decide +kernel), ⟨_, rfl, iteF ?_⟩⟩⟩
    refine iteF ?_
    have lx := dpAll_len ax
    have ly := dpAll_len ay
    refine ⟨_, rfl, a, _, rfl, .inr hx, _, rfl, b, _, rfl, .inr hy, rfl, _, rfl, iteF' (by rw [lx, ly, decide_eq_true rfl]; rfl) ?_⟩
    have fl := fit.1
    refine ⟨_, rfl, b, _, rfl, .inr hy, _, rfl, by omega, by omega, for_range (lo := 0) (n := ys.length) (fun i σ H' => H' = H ∧ ∃ y2, σ = [some (.ref a), some (.ref b), y2]) ⟨rfl, none, rfl⟩ (fun i σ H1 hi hI => ?_) (fun σ H1 hI => ?_)⟩
    · obtain ⟨rfl, y2, rfl⟩ := hI
      obtain ⟨u, d1, u1, u2, u3⟩ := dpAll_at i ax (by omega)
      obtain ⟨v, d2, v1, v2, v3⟩ := dpAll_at i ay (by omega)
      have e : d1 = d2 := Option.some.inj (u2.symm.trans v2)
      subst e
      have fd := fit.2 d1 (List.mem_of_getElem? u2)
      have u4 : atI xs (0 + (i : Int)) = some u := by rw [Int.zero_add]; exact atI_nat u1
      have v4 : atI ys (0 + (i : Int)) = some v := by rw [Int.zero_add]; exact atI_nat v1
      refine ⟨_, rfl, _, rfl, .inr (.inl ⟨a, _, _, u, rfl, rfl, hx, u4, _, rfl, _, rfl, .inr (.inl ⟨b, _, _, v, rfl, rfl, hy, v4, u, v, d1, rfl, fd, u3, v3, ?_⟩)⟩)⟩
      exact ⟨_, rfl, iteF ⟨rfl, _, rfl⟩⟩
    · obtain ⟨rfl, y2, rfl⟩ := hI
      exact q
theorem none_same (A : At K mg "_law_same" s__law_same ["actual", "expected"]) : DefOk P w K mg base CX0 1 "_law_same" ["actual", "expected"] (spSame K 0) := by
  obtain ⟨f, fd, G, m, b⟩ := A.ex
  have no : ∀ vs H Q E, ¬ spSame K 0 vs H Q E := fun vs H Q E h => by
    obtain ⟨x, y, d, _, fit, _⟩ := h
    cases d <;> exact fit
  obtain ⟨oc, od, _, _, _, _, _, _, osl, _, lk, _⟩ := G.ex
  exact ⟨f, fd, ⟨fun vs H Q E h => absurd h (no vs H Q E), fun A outer s H args us vs Q E _ _ _ _ h => absurd h (no vs H Q E)⟩, m, G.kp, b, oc, od, osl, lk⟩
theorem d_same (B : Bt mg) (D : DefOk P w K mg base CX0 1 "_law_is_integer" ["actual"] spIsInt) (A : At K mg "_law_same" s__law_same ["actual", "expected"]) :
    ∀ n : Nat, DefOk P w K mg base CX0 (n + 1) "_law_same" ["actual", "expected"] (spSame K n)
  | 0 => none_same A
  | n + 1 => d_same1 B D (d_same B D A n) A
end
end DP
/-! spans -/
namespace DP
open PySem PySem.Spec PyProof.Rows L2
/-- a span of two ints -/
def SpanV (K : PySem.W.Frag) (H : Hp) (x : V) (q : Int × Int) : Prop := ∃ t, x = .ref t ∧ SqT K H t [.int q.1, .int q.2]
abbrev Spans (K : PySem.W.Frag) (H : Hp) (xs : List V) (qs : List (Int × Int)) : Prop := Paired (SpanV K H) xs qs
theorem paired_snoc {α β : Type} {F : α → β → Prop} : ∀ {xs : List α} {ys : List β} {x : α} {y : β}, Paired F xs ys → F x y → Paired F (xs ++ [x]) (ys ++ [y])
  | _, _, _, _, .nil, h => .cons h .nil
  | _, _, _, _, .cons a t, h => .cons a (paired_snoc t h)
theorem paired_at {α β : Type} {F : α → β → Prop} : ∀ {xs : List α} {ys : List β} {i : Nat} {x : α}, Paired F xs ys → xs[i]? = some x → ∃ y, ys[i]? = some y ∧ F x y
  | _, _, _, _, .nil, h => by simp at h
  | _, _, 0, _, .cons a _, h => ⟨_, rfl, by rw [← Option.some.inj h]; exact a⟩
  | _, _, i + 1, _, .cons _ t, h => by
    obtain ⟨y, h1, h2⟩ := paired_at (i := i) t h
    exact ⟨y, h1, h2⟩
theorem paired_len {α β : Type} {F : α → β → Prop} {xs : List α} {ys : List β} (h : Paired F xs ys) : xs.length = ys.length := Paired.length h
/-- a tuple stands where a list is changed -/
theorem sqT_upd {K : PySem.W.Frag} {H : Hp} {t L : Addr} {xs ys : List V} {o : HO} (h : SqT K H t xs) (e : H L = some (.lst ys)) : SqT K (upd H L o) t xs := by
  rcases h with (h | ⟨u, h⟩) | h
  · exact .inl (.inl (by rw [upd_ne (ne_of h e (fun z => nomatch z))]; exact h))
  · exact .inl (.inr ⟨u, by rw [upd_ne (ne_of h e (fun z => nomatch z))]; exact h⟩)
  · exact .inr h
theorem Spans.upd {K : PySem.W.Frag} {H : Hp} {L : Addr} {xs ys : List V} {qs : List (Int × Int)} {o : HO} (h : Spans K H xs qs) (e : H L = some (.lst ys)) : Spans K (L2.upd H L o) xs qs :=
  Paired.mapP h fun _ _ ⟨t, h1, h2⟩ => ⟨t, h1, sqT_upd h2 e⟩
theorem Spans.same {K : PySem.W.Frag} {H H' : Hp} {xs : List V} {qs : List (Int × Int)} (h : Spans K H xs qs) (s : Same H H') : Spans K H' xs qs :=
  Paired.mapP h fun _ _ ⟨t, h1, h2⟩ => ⟨t, h1, Same.tup s h2⟩
/-- the minutes from f to e - 1 in one span -/
def mwOne (f e : Int) (q : Int × Int) : Int := if (if q.2 < e then q.2 else e) - (if q.1 > f then q.1 else f) > 0 then (if q.2 < e then q.2 else e) - (if q.1 > f then q.1 else f) else 0
def mw (qs : List (Int × Int)) (f e : Int) : Int := (qs.map (mwOne f e)).sum
def hasM (m : Int) (q : Int × Int) : Bool := decide (q.1 ≤ m) && decide (m < q.2)
theorem mwOne_le {f e : Int} {q : Int × Int} (h : e ≤ f) : mwOne f e q = 0 := by
  unfold mwOne
  split <;> split <;> split <;> omega
theorem mw_le {f e : Int} (h : e ≤ f) : ∀ qs : List (Int × Int), mw qs f e = 0
  | [] => rfl
  | q :: r => by
    show mwOne f e q + mw r f e = 0
    rw [mwOne_le h, mw_le h r]
    rfl
theorem mwOne_succ {f e : Int} {q : Int × Int} (h : f ≤ e) (hq : q.1 < q.2) : mwOne f (e + 1) q = mwOne f e q + (if hasM e q = true then 1 else 0) := by
  unfold mwOne hasM
  by_cases c1 : q.1 ≤ e
  · by_cases c2 : e < q.2
    · rw [decide_eq_true c1, decide_eq_true c2]
      rw [if_pos (show (true && true) = true from rfl)]
      repeat' (first | omega | split)
    · rw [decide_eq_false c2, Bool.and_false, if_neg Bool.false_ne_true]
      repeat' (first | omega | split)
  · rw [decide_eq_false c1, Bool.false_and, if_neg Bool.false_ne_true]
    repeat' (first | omega | split)
theorem mw_succ {f e : Int} (h : f ≤ e) : ∀ qs : List (Int × Int), (∀ q ∈ qs, q.1 < q.2) → mw qs f (e + 1) = mw qs f e + ((qs.filter (hasM e)).length : Int)
  | [], _ => rfl
  | q :: r, hq => by
    have ih := mw_succ h r fun x hx => hq x (List.mem_cons_of_mem _ hx)
    have h1 := mwOne_succ h (hq q List.mem_cons_self)
    show mwOne f (e + 1) q + mw r f (e + 1) = mwOne f e q + mw r f e + _
    rw [ih, h1, List.filter_cons]
    by_cases c : hasM e q = true
    · rw [if_pos c, if_pos c, List.length_cons]
      omega
    · rw [if_neg c, if_neg c]
      omega
theorem mw_take_succ {f e : Int} {qs : List (Int × Int)} {i : Nat} {q : Int × Int} (h : qs[i]? = some q) : mw (qs.take (i + 1)) f e = mw (qs.take i) f e + mwOne f e q := by
  unfold mw
  rw [List.take_add_one, h, List.map_append, List.sum_append]
  show _ + (mwOne f e q + 0) = _
  omega
end DP
/-! the program's spans, and the law of them -/
namespace DP
open PySem PySem.Spec PyProof.Rows L2
abbrev s_meet : Stmt := topS 1
theorem sc_meet : FnScope ["one", "other"] ["one", "other"] (defScope s_meet) := ⟨rfl, rfl, rfl, by decide +kernel, rfl, by decide +kernel, by decide +kernel⟩
abbrev s_lengthened : Stmt := topS 2
theorem sc_lengthened : FnScope ["span", "minutes", "first", "end"] ["span", "minutes"] (defScope s_lengthened) := ⟨rfl, rfl, rfl, by decide +kernel, rfl, by decide +kernel, by decide +kernel⟩
abbrev s_has_minute : Stmt := topS 3
theorem sc_has_minute : FnScope ["span", "minute"] ["span", "minute"] (defScope s_has_minute) := ⟨rfl, rfl, rfl, by decide +kernel, rfl, by decide +kernel, by decide +kernel⟩
abbrev s_minutes_within : Stmt := topS 4
theorem sc_minutes_within : FnScope ["spans", "first", "end", "span"] ["spans", "first", "end"] (defScope s_minutes_within) := ⟨rfl, rfl, rfl, by decide +kernel, rfl, by decide +kernel, by decide +kernel⟩
abbrev s_law : Stmt := topS 12
theorem sc_law : FnScope ["script", "stream", "spans", "k", "first", "more", "one", "other", "m", "common", "listed", "least", "end", "count", "span"] ["script"] (defScope s_law) := ⟨rfl, rfl, rfl, by decide +kernel, rfl, by decide +kernel, by decide +kernel⟩
section
variable {P : Program} {w : World} {K : PySem.W.Frag} {mg : Str → Option Value} {base : Heap}
def spMeet (K : PySem.W.Frag) : Sp := fun vs H Q _ => ∃ (x y : Addr) (a b c d : Int), vs = [.ref x, .ref y] ∧ SqT K H x [.int a, .int b] ∧ SqT K H y [.int c, .int d] ∧ Q (.bl (decide (a < d) && decide (c < b))) H
theorem d_meet (B : Bt mg) (A : At K mg "meet" s_meet ["one", "other"]) : DefOk P w K mg base CX0 1 "meet" ["one", "other"] (spMeet K) := by
  refine A.ok sc_meet (fun vs H Q E h => ?_) (fun f cdv A outer s H vs Q E hr h => ?_)
  · obtain ⟨x, y, a, b, c, d, rfl, _⟩ := h
    rfl
  obtain ⟨x, y, a, b, c, d, rfl, h1, h2, q⟩ := h
  refine ⟨_, pss_one (ps_ret (pe_and (pe_cmpR op_lt (pe_ix ix_tup (pv 0) pe_int (fun _ _ => rfl)) (pe_ix ix_tup (pv 1) pe_int (fun _ _ => rfl)) (nomark _)) (pe_one (pe_cmpR op_lt (pe_ix ix_tup (pv 1) pe_int (fun _ _ => rfl)) (pe_ix ix_tup (pv 0) pe_int (fun _ _ => rfl)) (nomark _)))))
    , ?_⟩
  refine ⟨_, rfl, x, _, 0, .int a, rfl, rfl, h1, rfl, _, rfl, y, _, 1, .int d, rfl, rfl, h2, rfl, _, _, rfl, rfl, _, rfl, ite2 (fun e => ?_) (fun e => ?_)⟩
  · refine ⟨_, rfl, y, _, 0, .int c, rfl, rfl, h2, rfl, _, rfl, x, _, 1, .int b, rfl, rfl, h1, rfl, _, _, rfl, rfl, ?_⟩
    rw [e, Bool.true_and] at q
    exact q
  · rw [Bool.eq_false_iff.mpr e, Bool.false_and] at q
    exact q
def spLengthened (K : PySem.W.Frag) : Sp := fun vs H Q _ => ∃ (x : Addr) (a b n : Int), vs = [.ref x, .int n] ∧ SqT K H x [.int a, .int b] ∧ ∀ p, H p = none → Q (.ref p) (upd H p (.tup [.int a, .int (b + n)]))
theorem d_lengthened (B : Bt mg) (A : At K mg "lengthened" s_lengthened ["span", "minutes"]) : DefOk P w K mg base CX0 1 "lengthened" ["span", "minutes"] (spLengthened K) := by
  refine A.ok sc_lengthened (fun vs H Q E h => ?_) (fun f cdv A outer s H vs Q E hr h => ?_)
  · obtain ⟨x, a, b, n, rfl, _⟩ := h
    rfl
  obtain ⟨x, a, b, n, rfl, h1, q⟩ := h
  refine ⟨_, pss_cons (ps_asg (pv 0) (pg_tup (by rfl) (pgs_cons (pg_name (i := 2) sc_lengthened.nd rfl (Or.inl rfl)) (pgs_cons (pg_name (i := 3) sc_lengthened.nd rfl (Or.inl rfl)) (pgs_nil)))))
  (pss_one (ps_ret (pe_tup (pa_cons (pv 2) (pa_cons (pe_op op_add (pv 3) (pv 1)) pa_nil)))))
    , ?_⟩
  refine ⟨_, rfl, x, _, rfl, h1, rfl, _, _, rfl, _, _, rfl, rfl, ?_⟩
  refine ⟨_, rfl, _, rfl, _, rfl, _, _, rfl, rfl, Nat.le_trans (by decide : 2 ≤ 1000) (small (Nat.le_refl _)), fun p hp => q p hp⟩
def spHas (K : PySem.W.Frag) : Sp := fun vs H Q _ => ∃ (x : Addr) (a b m : Int), vs = [.ref x, .int m] ∧ SqT K H x [.int a, .int b] ∧ Q (.bl (decide (a ≤ m) && decide (m < b))) H
theorem d_has_minute (B : Bt mg) (A : At K mg "has_minute" s_has_minute ["span", "minute"]) : DefOk P w K mg base CX0 1 "has_minute" ["span", "minute"] (spHas K) := by
  refine A.ok sc_has_minute (fun vs H Q E h => ?_) (fun f cdv A outer s H vs Q E hr h => ?_)
  · obtain ⟨x, a, b, m, rfl, _⟩ := h
    rfl
  obtain ⟨x, a, b, m, rfl, h1, q⟩ := h
  refine ⟨_, pss_one (ps_ret (pe_chain op_le op_lt (pe_ix ix_tup (pv 0) pe_int (fun _ _ => rfl)) (pv 1) (pe_ix ix_tup (pv 0) pe_int (fun _ _ => rfl))))
    , ?_⟩
  refine ⟨_, rfl, x, _, 0, .int a, rfl, rfl, h1, rfl, _, rfl, _, _, rfl, rfl, _, rfl, ite2 (fun e => ?_) (fun e => ?_)⟩
  · refine ⟨_, rfl, x, _, 1, .int b, rfl, rfl, h1, rfl, _, _, rfl, rfl, ?_⟩
    rw [e, Bool.true_and] at q
    exact q
  · rw [Bool.eq_false_iff.mpr e, Bool.false_and] at q
    exact q
def spWithin (K : PySem.W.Frag) : Sp := fun vs H Q _ => ∃ (t : Addr) (xs : List V) (qs : List (Int × Int)) (f e : Int), vs = [.ref t, .int f, .int e] ∧ SqT K H t xs ∧ Spans K H xs qs ∧ qs.length ≤ 1000 ∧ ∀ H', Same H H' → Q (.int (mw qs f e)) H'
theorem d_minutes_within (B : Bt mg) (A : At K mg "minutes_within" s_minutes_within ["spans", "first", "end"]) : DefOk P w K mg base CX0 1 "minutes_within" ["spans", "first", "end"] (spWithin K) := by
  refine A.ok sc_minutes_within (fun vs H Q E h => ?_) (fun f cdv A outer s H vs Q E hr h => ?_)
  · obtain ⟨t, xs, qs, f, e, rfl, _⟩ := h
    rfl
  obtain ⟨t, xs, qs, f, e, rfl, h1, h2, hl, q⟩ := h
  refine ⟨_, pss_one (ps_ret (pe_callB (cr_sum rfl) (by rfl) B.sum (by decide +kernel) (pa_cons (pe_lc (own := [("span", 3)])  rfl sc_minutes_within.nd (pi_tup (pv 0)) (blkOk_by (own := [("span", 3)]) (N := ["spans", "first", "end", "span"]) (sc := defScope s_minutes_within) (by decide +kernel)) (fun _ _ _ _ _ => pg_name (i := 3) sc_minutes_within.nd rfl (Or.inl rfl)) (fun _ _ _ _ _ => pts_nil) (fun _ _ _ _ _ => (pe_callB (call_max2 rfl) (by rfl) B.max (by decide +kernel) (pa_cons pe_int (pa_cons (pe_op op_sub (pe_callB (call_min2 rfl) (by rfl) B.min (by decide +kernel) (pa_cons (pv 2) (pa_cons (pe_ix (ix_tupK (K := K) rfl) (pv 3) pe_int (fun _ _ => rfl)) pa_nil))) (pe_callB (call_max2 rfl) (by rfl) B.max (by decide +kernel) (pa_cons (pv 1) (pa_cons (pe_ix (ix_tupK (K := K) rfl) (pv 3) pe_int (fun _ _ => rfl)) pa_nil)))) pa_nil))))) pa_nil)))
    , ?_⟩
  have hlen := paired_len h2
  refine ⟨_, rfl, t, rfl, ⟨_, h1⟩, fun D hD => lc_tup (K := K) (a := t) (xs := xs) (fun i H' => i ≤ xs.length ∧ Same H H' ∧ H' D = some (.lst (((qs.take i).map (mwOne f e)).map V.int))) ⟨Nat.zero_le _, same_new hD _, upd_same⟩ (fun i H' _ h => Same.tup h.2.1 h1) (fun i x H1 hx hI => ?_) (fun H1 hI => ?_)⟩
  · obtain ⟨_, hs, hDD⟩ := hI
    obtain ⟨y, hy, p, rfl, hp⟩ := paired_at h2 hx
    have hi : i < xs.length := (List.getElem?_eq_some_iff.mp hx).1
    have hp1 := Same.tup hs hp
    refine ⟨rfl, ?_⟩
    refine ⟨_, rfl, _, rfl, p, _, 1, .int y.2, rfl, rfl, hp1, rfl, _, _, rfl, _, rfl, _, rfl, p, _, 0, .int y.1, rfl, rfl, hp1, rfl, _, _, rfl, _, _, rfl, rfl, _, _, rfl, ?_⟩
    refine ⟨_, hDD, ?_, hi, same_at hD hs _, ?_⟩
    · rw [List.length_map, List.length_map, List.length_take]
      exact small1000 (by omega)
    · rw [upd_same, List.take_add_one, hy, List.map_append, List.map_append]
      rfl
  · obtain ⟨_, hs, hDD⟩ := hI
    rw [hlen, List.take_length] at hDD
    exact ⟨D, _, rfl, SqL.of hDD, q H1 hs⟩
def spLaw (K : PySem.W.Frag) : Sp := fun vs H Q _ => ∃ (a : Addr) (ns : List Int), vs = [.ref a] ∧ SqL K H a (ns.map V.int) ∧ ∀ H', Q (.bl true) H'
theorem d_law {n : Nat} (B : Bt mg) (D_law_stream : DefOk P w K mg base CX0 2 "_law_stream" ["script", "first", "count"] (spStream K)) (D_law_next : DefOk P w K mg base CX0 1 "_law_next" ["stream", "many"] spNext)
    (D_law_same : DefOk P w K mg base CX0 9 "_law_same" ["actual", "expected"] (spSame K 8)) (D_meet : DefOk P w K mg base CX0 1 "meet" ["one", "other"] (spMeet K)) (D_lengthened : DefOk P w K mg base CX0 1 "lengthened" ["span", "minutes"] (spLengthened K))
    (D_has_minute : DefOk P w K mg base CX0 1 "has_minute" ["span", "minute"] (spHas K)) (D_minutes_within : DefOk P w K mg base CX0 1 "minutes_within" ["spans", "first", "end"] (spWithin K)) (A : At K mg "law" s_law ["script"]) :
    DefOk P w K mg base CX0 10 "law" ["script"] (spLaw K) := by
  refine A.ok sc_law (fun vs H Q E h => ?_) (fun f cdv A outer s H0 vs Q E hr h => ?_)
  · obtain ⟨a, ns, rfl, _⟩ := h
    rfl
  obtain ⟨a, ns, rfl, hS, q⟩ := h
  refine ⟨_, pss_cons (ps_set (i := 1) sc_law.nd rfl (Or.inl rfl) (pe_f D_law_stream (hr.mono (by omega)) pass0 (pa_cons (pv 0) (pa_cons pe_int (pa_cons pe_int pa_nil)))))
  (pss_cons (ps_set (i := 2) sc_law.nd rfl (Or.inl rfl) (pe_lst pa_nil))
  (pss_cons (ps_for PassesOwn.never rfl (pi_range1 (by rfl) B.range (pa_cons pe_int pa_nil)) (pg_name (i := 3) sc_law.nd rfl (Or.inl rfl))
      (pss_cons (ps_set (i := 4) sc_law.nd rfl (Or.inl rfl) (pe_op op_sub (pe_op op_add (pe_f D_law_next (hr.mono (by omega)) pass0 (pa_cons (pv 1) (pa_cons pe_int pa_nil))) (pe_f D_law_next (hr.mono (by omega)) pass0 (pa_cons (pv 1) (pa_cons pe_int pa_nil)))) pe_int))
      (pss_one (ps_expr (pe_bm PySem.F.plainAttrs_list PySem.F.slot_list_append PySem.F.type_list_append mt_append (pv 2) (pa_cons (pe_tup (pa_cons (pv 4) (pa_cons (pe_op op_add (pe_op op_add (pv 4) pe_int) (pe_f D_law_next (hr.mono (by omega)) pass0 (pa_cons (pv 1) (pa_cons pe_int pa_nil)))) pa_nil))) pa_nil))))))
  (pss_cons (ps_set (i := 5) sc_law.nd rfl (Or.inl rfl) (pe_f D_law_next (hr.mono (by omega)) pass0 (pa_cons (pv 1) (pa_cons pe_int pa_nil))))
  (pss_cons (ps_set (i := 6) sc_law.nd rfl (Or.inl rfl) (pe_ix ix_list (pv 2) pe_int (fun _ _ => rfl)))
  (pss_cons (ps_set (i := 7) sc_law.nd rfl (Or.inr rfl) (pe_ix ix_list (pv 2) pe_int (fun _ _ => rfl)))
  (pss_cons (ps_setLc (own := [("m", 8)]) (i := 9) rfl sc_law.nd rfl rfl (sw_true rfl rfl rfl (by decide +kernel)) (pi_range2 (by rfl) B.range (pa_cons (pe_ix ix_tup (pv 6) pe_int (fun _ _ => rfl)) (pa_cons (pe_ix ix_tup (pv 6) pe_int (fun _ _ => rfl)) pa_nil))) (blkOk_by (own := [("m", 8)]) (N := ["script", "stream", "spans", "k", "first", "more", "one", "other", "m", "common", "listed", "least", "end", "count", "span"]) (sc := defScope s_law) (by decide +kernel)) (fun _ _ _ _ _ => pg_name (i := 8) sc_law.nd rfl (Or.inl rfl)) (fun _ _ _ _ _ => pts_one (pt_cmpR op_in_rng (pv 8) (pe_callTy (cr_range2) (by rfl) B.range (by decide +kernel) (pa_cons (pe_ix (ix_tupK (K := K) rfl) (pv 7) pe_int (fun _ _ => rfl)) (pa_cons (pe_ix (ix_tupK (K := K) rfl) (pv 7) pe_int (fun _ _ => rfl)) pa_nil))) (by rfl))) (fun _ _ _ _ _ => (pv 8)))
  (pss_cons (ps_if (PW.pt (pw_or (pt_not (pt_val (pe_f D_law_same (hr.mono (by omega)) pass0 (pa_cons (pe_f D_meet (hr.mono (by omega)) pass0 (pa_cons (pv 6) (pa_cons (pv 7) pa_nil))) (pa_cons (pe_cmpR op_gt (pe_callB (call_len_seq) (by rfl) B.len (by decide +kernel) (pa_cons (pv 9) pa_nil)) pe_int (nomark _)) pa_nil))))) (pw_or1 (pt_not (pt_val (pe_f D_law_same (hr.mono (by omega)) pass0 (pa_cons (pe_f D_meet (hr.mono (by omega)) pass0 (pa_cons (pv 7) (pa_cons (pv 6) pa_nil))) (pa_cons (pe_cmpR op_gt (pe_callB (call_len_seq) (by rfl) B.len (by decide +kernel) (pa_cons (pv 9) pa_nil)) pe_int (nomark _)) pa_nil))))))))
      (pss_one (ps_ret pe_bl))
      (pss_nil))
  (pss_cons (ps_if (pt_not (pt_val (pe_f D_law_same (hr.mono (by omega)) pass0 (pa_cons (pe_f D_lengthened (hr.mono (by omega)) pass0 (pa_cons (pv 6) (pa_cons (pv 5) pa_nil))) (pa_cons (pe_tup (pa_cons (pe_ix ix_tup (pv 6) pe_int (fun _ _ => rfl)) (pa_cons (pe_op op_add (pe_ix ix_tup (pv 6) pe_int (fun _ _ => rfl)) (pv 5)) pa_nil))) pa_nil)))))
      (pss_one (ps_ret pe_bl))
      (pss_nil))
  (pss_cons (ps_for PassesOwn.never rfl (pi_range2 (by rfl) B.range (pa_cons (pe_op op_sub (pe_ix ix_tup (pv 6) pe_int (fun _ _ => rfl)) pe_int) (pa_cons (pe_op op_add (pe_ix ix_tup (pv 6) pe_int (fun _ _ => rfl)) pe_int) pa_nil))) (pg_name (i := 8) sc_law.nd rfl (Or.inr rfl))
      (pss_one (ps_if (pt_not (pt_val (pe_f D_law_same (hr.mono (by omega)) pass0 (pa_cons (pe_f D_has_minute (hr.mono (by omega)) pass0 (pa_cons (pv 6) (pa_cons (pv 8) pa_nil))) (pa_cons (pe_cmpR op_in_rng (pv 8) (pe_callTy (cr_range2) (by rfl) B.range (by decide +kernel) (pa_cons (pe_ix ix_tup (pv 6) pe_int (fun _ _ => rfl)) (pa_cons (pe_ix ix_tup (pv 6) pe_int (fun _ _ => rfl)) pa_nil))) (by rfl)) pa_nil)))))
          (pss_one (ps_ret pe_bl))
          (pss_nil))))
  (pss_cons (ps_set (i := 10) sc_law.nd rfl (Or.inl rfl) (pe_lst pa_nil))
  (pss_cons (ps_set (i := 11) sc_law.nd rfl (Or.inl rfl) pe_int)
  (pss_cons (ps_for PassesOwn.never rfl (pi_range1 (by rfl) B.range (pa_cons (pe_f D_law_next (hr.mono (by omega)) pass0 (pa_cons (pv 1) (pa_cons pe_int pa_nil))) pa_nil)) (pg_name (i := 3) sc_law.nd rfl (Or.inl rfl))
      (pss_cons (ps_set (i := 4) sc_law.nd rfl (Or.inl rfl) (pe_op op_add (pv 11) (pe_f D_law_next (hr.mono (by omega)) pass0 (pa_cons (pv 1) (pa_cons pe_int pa_nil)))))
      (pss_cons (ps_set (i := 11) sc_law.nd rfl (Or.inl rfl) (pe_op op_add (pe_op op_add (pv 4) pe_int) (pe_f D_law_next (hr.mono (by omega)) pass0 (pa_cons (pv 1) (pa_cons pe_int pa_nil)))))
      (pss_one (ps_expr (pe_bm PySem.F.plainAttrs_list PySem.F.slot_list_append PySem.F.type_list_append mt_append (pv 10) (pa_cons (pe_tup (pa_cons (pv 4) (pa_cons (pv 11) pa_nil))) pa_nil)))))))
  (pss_cons (ps_set (i := 4) sc_law.nd rfl (Or.inl rfl) (pe_f D_law_next (hr.mono (by omega)) pass0 (pa_cons (pv 1) (pa_cons pe_int pa_nil))))
  (pss_cons (ps_set (i := 12) sc_law.nd rfl (Or.inl rfl) (pe_op op_sub (pe_op op_add (pv 4) (pe_f D_law_next (hr.mono (by omega)) pass0 (pa_cons (pv 1) (pa_cons pe_int pa_nil)))) pe_int))
  (pss_cons (ps_set (i := 13) sc_law.nd rfl (Or.inl rfl) pe_int)
  (pss_cons (ps_for PassesOwn.never rfl (pi_range2 (by rfl) B.range (pa_cons (pv 4) (pa_cons (pv 12) pa_nil))) (pg_name (i := 8) sc_law.nd rfl (Or.inr rfl))
      (pss_one (ps_set (i := 13) sc_law.nd rfl (Or.inl rfl) (pe_op op_add (pv 13) (pe_callB (call_len_seq) (by rfl) B.len (by decide +kernel) (pa_cons (pe_lc (own := [("span", 14)])  rfl sc_law.nd (pi_list (pv 10)) (blkOk_by (own := [("span", 14)]) (N := ["script", "stream", "spans", "k", "first", "more", "one", "other", "m", "common", "listed", "least", "end", "count", "span"]) (sc := defScope s_law) (by decide +kernel)) (fun _ _ _ _ _ => pg_name (i := 14) sc_law.nd rfl (Or.inl rfl)) (fun _ _ _ _ _ => pts_one (pt_chain op_le op_lt (pe_ix (ix_tupK (K := K) rfl) (pv 14) pe_int (fun _ _ => rfl)) (pv 8) (pe_ix (ix_tupK (K := K) rfl) (pv 14) pe_int (fun _ _ => rfl)))) (fun _ _ _ _ _ => (pv 14))) pa_nil))))))
  (pss_one (ps_ret (pe_f D_law_same (hr.mono (by omega)) pass0 (pa_cons (pe_f D_minutes_within (hr.mono (by omega)) pass0 (pa_cons (pe_callTy (call_tuple_of) (by rfl) B.tuple (by decide +kernel) (pa_cons (pv 10) pa_nil)) (pa_cons (pv 4) (pa_cons (pv 12) pa_nil)))) (pa_cons (pv 13) pa_nil)))))))))))))))))))))
    , ?_⟩
  -- stream
  refine ⟨_, rfl, a, ns, 0, 6, rfl, hS, by decide, by decide, by decide, fun st H1 _ _ hst => ?_⟩
  -- spans = []
  refine ⟨Nat.zero_le _, fun L hL => ?_⟩
  have eL : st ≠ L := by
    obtain ⟨d, p, ds, h1, _⟩ := hst
    exact ne_of_none h1 hL
  refine ⟨2, rfl, by decide, by decide, for_range (n := 2) (fun i σ H' => ∃ (xs : List V) (qs : List (Int × Int)) (y3 y4 : Option V), σ = [some (.ref a), some (.ref st), some (.ref L), y3, y4, none, none, none, none, none, none, none, none, none, none] ∧
    xs.length = i ∧ Spans K H' xs qs ∧ (∀ q ∈ qs, q.1 < q.2 ∧ -100 ≤ q.1 ∧ q.2 ≤ 800) ∧ H' L = some (.lst xs) ∧ Same H1 H') ⟨[], [], none, none, rfl, rfl, .nil, fun _ z => absurd z List.not_mem_nil, upd_same, same_new hL _⟩ (fun i σ H2 hi hI => ?_) (fun σ H2 hI => ?_)⟩
  · obtain ⟨xs, qs, y3, y4, rfl, hl, hq, hb, hLL, hs⟩ := hI
    refine ⟨_, rfl, st, 60, rfl, by decide, hst.same hs, fun u u0 u1 => ?_⟩
    refine ⟨_, rfl, st, 31, rfl, by decide, hst.same hs, fun v v0 v1 => ⟨_, _, rfl, rfl, _, _, rfl, rfl, ?_⟩⟩
    refine ⟨_, rfl, .inl ⟨rfl, _, SqL.of hLL⟩, _, rfl, _, rfl, _, _, rfl, rfl, _, rfl, st, 40, rfl, by decide, hst.same hs, fun x x0 x1 => ⟨_, _, rfl, rfl, ?_⟩⟩
    refine ⟨Nat.le_trans (by decide : 2 ≤ 1000) (small (Nat.le_refl _)), fun t ht => ?_⟩
    have et : L ≠ t := ne_of_none hLL ht
    have hLt : (upd H2 t (.tup [.int (u + v - 30), .int (u + v - 30 + 1 + x)])) L = some (.lst xs) := by rw [upd_ne et]; exact hLL
    refine ⟨L, xs, .ref t, rfl, rfl, hLt, by rw [hl]; exact small1000 (by omega), ?_⟩
    refine ⟨xs ++ [.ref t], qs ++ [(u + v - 30, u + v - 30 + 1 + x)], _, _, rfl, by rw [List.length_append, hl, List.length_singleton], ?_, ?_, upd_same, ?_⟩
    · exact Spans.upd (paired_snoc (hq.same (same_new ht _)) ⟨t, rfl, SqT.of upd_same⟩) hLt
    · intro z hz
      rcases List.mem_append.mp hz with hz | hz
      · exact hb z hz
      · rw [List.mem_singleton.mp hz]
        exact ⟨by show u + v - 30 < u + v - 30 + 1 + x; omega, by show -100 ≤ u + v - 30; omega, by show u + v - 30 + 1 + x ≤ 800; omega⟩
    · exact same_at hL (hs.trans (same_new ht _)) _
  · obtain ⟨xs, qs, y3, y4, rfl, hl, hq, hb, hLL, hs⟩ := hI
    obtain ⟨x0, x1, rfl⟩ : ∃ x0 x1, xs = [x0, x1] := by
      match xs, hl with
      | [x0, x1], _ => exact ⟨x0, x1, rfl⟩
    cases hq with
    | @cons _ q0 _ _ s0 hq =>
    cases hq with
    | @cons _ q1 _ _ s1 hq =>
    cases hq
    obtain ⟨t0, rfl, s0⟩ := s0
    obtain ⟨t1, rfl, s1⟩ := s1
    have b0 := hb q0 List.mem_cons_self
    have b1 := hb q1 (List.mem_cons_of_mem _ List.mem_cons_self)
    have hst2 := hst.same hs
    clear hb
    -- more, one, other
    refine ⟨_, rfl, st, 21, rfl, by decide, hst2, fun mo mo0 mo1 => ?_⟩
    refine ⟨_, rfl, L, _, 0, .ref t0, rfl, rfl, SqL.of hLL, rfl, ?_⟩
    refine ⟨_, rfl, L, _, 1, .ref t1, rfl, rfl, SqL.of hLL, rfl, ?_⟩
    -- common
    refine ⟨_, rfl, t0, _, 0, .int q0.1, rfl, rfl, s0, rfl, _, rfl, t0, _, 1, .int q0.2, rfl, rfl, s0, rfl, q0.1, q0.2, rfl, ⟨by omega, by omega, by omega, by omega⟩, fun D hD => ?_⟩
    refine lc_range (lo := q0.1) (n := (q0.2 - q0.1).toNat) (fun i H' => ∃ acc : List V, H' D = some (.lst acc) ∧ acc.length ≤ i ∧ (0 < acc.length ↔ ∃ m : Int, q0.1 ≤ m ∧ m < q0.1 + i ∧ q1.1 ≤ m ∧ m < q1.2) ∧ Same H2 H') ⟨[], upd_same, Nat.le_refl _, ⟨fun z => absurd z (Nat.lt_irrefl _), fun ⟨m, z1, z2, _⟩ => by omega⟩, same_new hD _⟩ (fun i H3 hi hI => ?_) (fun H3 hI => ?_)
    · obtain ⟨acc, hDD, hac, hiff, hs3⟩ := hI
      refine ⟨rfl, _, rfl, _, rfl, t1, _, 0, .int q1.1, rfl, rfl, Same.tup hs3 s1, rfl, _, rfl, t1, _, 1, .int q1.2, rfl, rfl, Same.tup hs3 s1, rfl, q1.1, q1.2, rfl, fun g hg => ?_⟩
      have eg : D ≠ g := ne_of_none hDD hg
      refine ⟨_, g, q1.1, q1.2, rfl, rfl, upd_same, _, rfl, ite2 (fun c => ?_) (fun c => ?_)⟩
      · have c' : q1.1 ≤ q0.1 + (i : Int) ∧ q0.1 + (i : Int) < q1.2 := of_decide_eq_true c
        refine ⟨_, rfl, acc, by rw [upd_ne eg]; exact hDD, small1000 (by omega), acc ++ [_], upd_same, by rw [List.length_append, List.length_singleton]; omega, ⟨fun _ => ⟨q0.1 + i, by omega, by omega, c'.1, c'.2⟩, fun _ => by rw [List.length_append, List.length_singleton]; omega⟩, same_at hD (hs3.trans (same_new hg _)) _⟩
      · have c' : ¬ (q1.1 ≤ q0.1 + (i : Int) ∧ q0.1 + (i : Int) < q1.2) := fun z => c (decide_eq_true z)
        refine ⟨acc, by rw [upd_ne eg]; exact hDD, by omega, ⟨fun z => ?_, fun ⟨m, z1, z2, z3, z4⟩ => hiff.mpr ⟨m, z1, ?_, z3, z4⟩⟩, hs3.trans (same_new hg _)⟩
        · obtain ⟨m, z1, z2, z3, z4⟩ := hiff.mp z
          exact ⟨m, z1, by omega, z3, z4⟩
        · by_cases e : m = q0.1 + (i : Int)
          · subst e
            exact absurd ⟨z3, z4⟩ c'
          · omega
    · obtain ⟨acc, hDD, hac, hiff, hs3⟩ := hI
      have s0' := Same.tup hs3 s0
      have s1' := Same.tup hs3 s1
      have hst3 := hst2.same hs3
      have eb : decide ((0 : Int) < ((acc.length : Nat) : Int)) = (decide (q0.1 < q1.2) && decide (q1.1 < q0.2)) := by
        rw [← Bool.decide_and]
        refine decide_eq_decide.mpr ⟨fun z => ?_, fun z => ?_⟩
        · obtain ⟨m, z1, z2, z3, z4⟩ := hiff.mp (by omega)
          constructor <;> omega
        · have : 0 < acc.length := hiff.mpr ⟨if q0.1 < q1.1 then q1.1 else q0.1, by split <;> omega, by split <;> omega, by split <;> omega, by split <;> omega⟩
          omega
      -- the two tests of meet
      refine ⟨_, rfl, _, rfl, t0, t1, q0.1, q0.2, q1.1, q1.2, rfl, s0', s1', _, rfl, D, _, rfl, .inl (SqL.of hDD), _, _, rfl, rfl, ?_⟩
      refine ⟨_, _, .bool _, rfl, True.intro, .bl _, by rw [← eb]; exact .bl _, _, rfl, iteF ?_⟩
      refine ⟨_, rfl, _, rfl, t1, t0, q1.1, q1.2, q0.1, q0.2, rfl, s1', s0', _, rfl, D, _, rfl, .inl (SqL.of hDD), _, _, rfl, rfl, ?_⟩
      refine ⟨_, _, .bool _, rfl, True.intro, .bl _, by rw [Bool.and_comm, ← eb]; exact .bl _, _, rfl, iteF ?_⟩
      -- lengthened
      refine ⟨_, rfl, _, rfl, t0, q0.1, q0.2, mo, rfl, s0', fun p hp => ?_⟩
      have s0p := Same.tup (same_new hp (.tup [.int q0.1, .int (q0.2 + mo)])) s0'
      refine ⟨_, rfl, t0, _, 0, .int q0.1, rfl, rfl, s0p, rfl, _, rfl, t0, _, 1, .int q0.2, rfl, rfl, s0p, rfl, _, rfl, _, _, rfl, rfl, Nat.le_trans (by decide : 2 ≤ 1000) (small (Nat.le_refl _)), fun p2 hp2 => ?_⟩
      have ep : p ≠ p2 := fun z => by
        rw [← z, upd_same] at hp2
        cases hp2
      refine ⟨_, _, .tuple [.int q0.1, .int (q0.2 + mo)], rfl, ⟨(by show 2 ≤ 1000; decide), fun d hd => ?_⟩, .tup (SqT.of (by rw [upd_ne ep]; exact upd_same)) (.cons (.int _) (.cons (.int _) .nil)), .tup (SqT.of upd_same) (.cons (.int _) (.cons (.int _) .nil)), _, rfl, iteF ?_⟩
      · rcases List.mem_cons.mp hd with rfl | hd
        · exact True.intro
        · rw [List.mem_singleton.mp hd]
          exact True.intro
      have hs4 : Same H2 (upd (upd H3 p (.tup [.int q0.1, .int (q0.2 + mo)])) p2 (.tup [.int q0.1, .int (q0.2 + mo)])) := hs3.trans ((same_new hp _).trans (same_new hp2 _))
      -- the minutes of one
      refine ⟨_, rfl, t0, _, 0, .int q0.1, rfl, rfl, Same.tup hs4 s0, rfl, _, _, rfl, rfl, _, rfl, t0, _, 0, .int q0.1, rfl, rfl, Same.tup hs4 s0, rfl, _, _, rfl, rfl, q0.1 - 2, q0.1 + 45, rfl, ⟨by omega, by omega, by omega, by omega⟩, ?_⟩
      refine for_range (lo := q0.1 - 2) (n := (q0.1 + 45 - (q0.1 - 2)).toNat) (fun i σ H' => ∃ y8 : Option V, σ = [some (.ref a), some (.ref st), some (.ref L), y3, y4, some (.int mo), some (.ref t0), some (.ref t1), y8, some (.ref D), none, none, none, none, none] ∧ Same H2 H') ⟨none, rfl, hs4⟩ (fun i σ H5 hi hI => ?_) (fun σ H5 hI => ?_)
      · obtain ⟨y8, rfl, hs5⟩ := hI
        have u0 := Same.tup hs5 s0
        refine ⟨_, rfl, _, rfl, t0, q0.1, q0.2, _, rfl, u0, _, rfl, _, rfl, t0, _, 0, .int q0.1, rfl, rfl, u0, rfl, _, rfl, t0, _, 1, .int q0.2, rfl, rfl, u0, rfl, q0.1, q0.2, rfl, fun g hg => ?_⟩
        refine ⟨_, g, q0.1, q0.2, rfl, rfl, upd_same, ?_⟩
        refine ⟨_, _, .bool _, rfl, True.intro, .bl _, by rw [← Bool.decide_and]; exact .bl _, _, rfl, iteF ⟨_, rfl, hs5.trans (same_new hg _)⟩⟩
      · obtain ⟨y8, rfl, hs5⟩ := hI
        have hst5 := hst2.same hs5
        -- listed, least
        refine ⟨Nat.zero_le _, fun M hM => ?_⟩
        refine ⟨_, rfl, st, 6, rfl, by decide, hst5.same (same_new hM _), fun kn kn0 kn1 => ?_⟩
        refine ⟨kn, rfl, by omega, by omega, for_range (n := kn.toNat) (fun i σ H' => ∃ (xs : List V) (qs : List (Int × Int)) (le : Int) (y3 y4 : Option V), σ = [some (.ref a), some (.ref st), some (.ref L), y3, y4, some (.int mo), some (.ref t0), some (.ref t1), y8, some (.ref D), some (.ref M), some (.int le), none, none, none] ∧
          xs.length = i ∧ Spans K H' xs qs ∧ (∀ q ∈ qs, q.1 < q.2) ∧ H' M = some (.lst xs) ∧ Same H5 H') ⟨[], [], 0, y3, y4, rfl, rfl, .nil, fun _ z => absurd z List.not_mem_nil, upd_same, same_new hM _⟩ (fun i σ H6 hi hI => ?_) (fun σ H6 hI => ?_)⟩
        · obtain ⟨xs, qs, le, z3, z4, rfl, hl, hq, hb, hMM, hs6⟩ := hI
          refine ⟨_, rfl, _, rfl, st, 8, rfl, by decide, hst5.same hs6, fun u u0 u1 => ⟨_, _, rfl, rfl, ?_⟩⟩
          refine ⟨_, rfl, _, _, rfl, rfl, _, rfl, st, 9, rfl, by decide, hst5.same hs6, fun v v0 v1 => ⟨_, _, rfl, rfl, ?_⟩⟩
          refine ⟨_, rfl, .inl ⟨rfl, _, SqL.of hMM⟩, _, rfl, _, rfl, Nat.le_trans (by decide : 2 ≤ 1000) (small (Nat.le_refl _)), fun t ht => ?_⟩
          have et : M ≠ t := ne_of_none hMM ht
          have hMt : (upd H6 t (.tup [.int (le + u), .int (le + u + 1 + v)])) M = some (.lst xs) := by rw [upd_ne et]; exact hMM
          refine ⟨M, xs, .ref t, rfl, rfl, hMt, by rw [hl]; exact small1000 (by omega), ?_⟩
          refine ⟨xs ++ [.ref t], qs ++ [(le + u, le + u + 1 + v)], _, _, _, rfl, by rw [List.length_append, hl, List.length_singleton], ?_, ?_, upd_same, ?_⟩
          · exact Spans.upd (paired_snoc (hq.same (same_new ht _)) ⟨t, rfl, SqT.of upd_same⟩) hMt
          · intro z hz
            rcases List.mem_append.mp hz with hz | hz
            · exact hb z hz
            · rw [List.mem_singleton.mp hz]
              show le + u < le + u + 1 + v
              omega
          · exact same_at hM (hs6.trans (same_new ht _)) _
        · obtain ⟨xs, qs, le, z3, z4, rfl, hl, hq, hb, hMM, hs6⟩ := hI
          have hst6 := hst5.same hs6
          have hlq := paired_len hq
          refine ⟨_, rfl, st, 50, rfl, by decide, hst6, fun fi fi0 fi1 => ?_⟩
          refine ⟨_, rfl, _, rfl, st, 50, rfl, by decide, hst6, fun u u0 u1 => ⟨_, _, rfl, rfl, _, _, rfl, rfl, ?_⟩⟩
          refine ⟨_, rfl, _, rfl, fi, (fi + u - 5), rfl, ⟨by omega, by omega, by omega, by omega⟩, ?_⟩
          refine for_range (lo := fi) (n := ((fi + u - 5) - fi).toNat) (fun i σ H' => ∃ y8 : Option V, σ = [some (.ref a), some (.ref st), some (.ref L), z3, some (.int fi), some (.int mo), some (.ref t0), some (.ref t1), y8, some (.ref D), some (.ref M), some (.int le), some (.int (fi + u - 5)), some (.int (mw qs fi (fi + i))), none] ∧ Same H6 H') ⟨y8, ?_, Same.refl _⟩ (fun i σ H7 hi hI => ?_) (fun σ H7 hI => ?_)
          · rw [mw_le (by omega)]
            rfl
          · obtain ⟨y8, rfl, hs7⟩ := hI
            have hM7 := hs7 _ _ hMM
            have hq7 := hq.same hs7
            refine ⟨_, rfl, _, rfl, M, rfl, ⟨_, SqL.of hM7⟩, fun D2 hD2 => ?_⟩
            refine lc_list (K := K) (a := M) (xs := xs) (fun j H' => ∃ acc : List V, H' D2 = some (.lst acc) ∧ acc.length = ((qs.take j).filter (hasM (fi + i))).length ∧ Same H7 H') ⟨[], upd_same, rfl, same_new hD2 _⟩ (fun j H' _ ⟨_, _, _, z⟩ => SqL.of (z _ _ hM7)) (fun j x H8 hx hI => ?_) (fun H8 hI => ?_)
            · obtain ⟨acc, hD8, hac, hs8⟩ := hI
              obtain ⟨y, hy, p, rfl, hp⟩ := paired_at hq7 hx
              have hp8 := Same.tup hs8 hp
              have hj : j < qs.length := (List.getElem?_eq_some_iff.mp hy).1
              have hle : ((qs.take j).filter (hasM (fi + i))).length ≤ j := Nat.le_trans (List.length_filter_le _ _) (by rw [List.length_take]; omega)
              have tk : ((qs.take (j + 1)).filter (hasM (fi + i))).length = ((qs.take j).filter (hasM (fi + i))).length + (if hasM (fi + i) y = true then 1 else 0) := by
                rw [List.take_add_one, hy, List.filter_append, List.length_append]
                show _ + (List.filter (hasM (fi + ↑i)) [y]).length = _
                rw [List.filter_cons]
                split <;> rfl
              refine ⟨rfl, _, rfl, p, _, 0, .int y.1, rfl, rfl, hp8, rfl, _, rfl, _, _, rfl, rfl, _, rfl, ite2 (fun c => ?_) (fun c => ?_)⟩
              · refine ⟨_, rfl, p, _, 1, .int y.2, rfl, rfl, hp8, rfl, _, _, rfl, rfl, _, rfl, ite2 (fun c2 => ?_) (fun c2 => ?_)⟩
                · refine ⟨_, rfl, acc, hD8, small1000 (by omega), acc ++ [_], upd_same, ?_, same_at hD2 hs8 _⟩
                  rw [List.length_append, List.length_singleton, hac, tk, if_pos]
                  unfold hasM
                  rw [show decide (y.1 ≤ fi + (i : Int)) = true from c, show decide (fi + (i : Int) < y.2) = true from c2]
                  rfl
                · refine ⟨acc, hD8, ?_, hs8⟩
                  rw [hac, tk, if_neg]
                  · rfl
                  · unfold hasM
                    rw [show decide (fi + (i : Int) < y.2) = false from Bool.eq_false_iff.mpr c2, Bool.and_false]
                    exact Bool.false_ne_true
              · refine ⟨_, rfl, iteF ?_⟩
                refine ⟨acc, hD8, ?_, hs8⟩
                rw [hac, tk, if_neg]
                · rfl
                · unfold hasM
                  rw [show decide (y.1 ≤ fi + (i : Int)) = false from Bool.eq_false_iff.mpr c, Bool.false_and]
                  exact Bool.false_ne_true
            · obtain ⟨acc, hD8, hac, hs8⟩ := hI
              rw [hlq, List.take_length] at hac
              refine ⟨D2, _, rfl, .inl (SqL.of hD8), _, _, rfl, rfl, some (.int (fi + i)), ?_, hs7.trans hs8⟩
              have e := mw_succ (f := fi) (e := fi + i) (by omega) qs hb
              rw [show fi + (i : Int) + 1 = fi + ((i + 1 : Nat) : Int) by omega] at e
              rw [hac, e]
              rfl
          · obtain ⟨y8, rfl, hs7⟩ := hI
            refine ⟨_, rfl, M, _, rfl, .inl ⟨SqL.of (hs7 _ _ hMM), fun T hT => ?_⟩⟩
            have ef : mw qs fi (fi + (((fi + u - 5) - fi).toNat : Int)) = mw qs fi (fi + u - 5) := by
              by_cases c : fi ≤ (fi + u - 5)
              · rw [show fi + (((fi + u - 5) - fi).toNat : Int) = (fi + u - 5) by omega]
              · rw [mw_le (by omega), mw_le (by omega)]
            refine ⟨_, rfl, _, rfl, T, xs, qs, fi, (fi + u - 5), rfl, SqT.of upd_same, (hq.same hs7).same (same_new hT _), by omega, fun H9 _ => ?_⟩
            refine ⟨_, rfl, _, _, .int (mw qs fi (fi + u - 5)), rfl, True.intro, .int _, ?_, q _⟩
            rw [ef]
            exact .int _
end
end DP
namespace DP
open PySem PySem.Spec PyProof.Rows L2
structure All (K : PySem.W.Frag) (mg : Str → Option Value) : Prop where
  B : Bt mg
  a__law_cell : At K mg "_law_cell" s__law_cell ["script", "k"]
  a__law_draws : At K mg "_law_draws" s__law_draws ["cell", "count"]
  a__law_stream : At K mg "_law_stream" s__law_stream ["script", "first", "count"]
  a__law_next : At K mg "_law_next" s__law_next ["stream", "many"]
  a__law_is_integer : At K mg "_law_is_integer" s__law_is_integer ["actual"]
  a__law_same : At K mg "_law_same" s__law_same ["actual", "expected"]
  a_meet : At K mg "meet" s_meet ["one", "other"]
  a_lengthened : At K mg "lengthened" s_lengthened ["span", "minutes"]
  a_has_minute : At K mg "has_minute" s_has_minute ["span", "minute"]
  a_minutes_within : At K mg "minutes_within" s_minutes_within ["spans", "first", "end"]
  a_law : At K mg "law" s_law ["script"]
theorem all_mk {h : Heap} {K : PySem.W.Frag} {mg : Str → Option Value} (X : K.In h) (G : h.Ns mainGlobals mg)
    {fa f0 f1 f2 f3 f4 f5 f6 f7 f8 f9 f10 : Addr} {od0 an0 od1 an1 od2 an2 od3 an3 od4 an4 od5 an5 od6 an6 od7 an7 od8 an8 od9 an9 od10 an10 : Option Addr} {sl0 sl1 sl2 sl3 sl4 sl5 sl6 sl7 sl8 sl9 sl10 : Array (Option Value)} {oc0 kV0 dc0 pm0 cd0 ct0 oc1 kV1 dc1 pm1 cd1 ct1 oc2 kV2 dc2 pm2 cd2 ct2 oc3 kV3 dc3 pm3 cd3 ct3 oc4 kV4 dc4 pm4 cd4 ct4 oc5 kV5 dc5 pm5 cd5 ct5 oc6 kV6 dc6 pm6 cd6 ct6 oc7 kV7 dc7 pm7 cd7 ct7 oc8 kV8 dc8 pm8 cd8 ct8 oc9 kV9 dc9 pm9 cd9 ct9 oc10 kV10 dc10 pm10 cd10 ct10 : Value}
    (a0 : PySem.W.nsIn K mainGlobals "_law_cell" = some (some (.ref f0))) (l0 : K.lookup f0 = some ⟨oc0, od0, .func (PySem.W.fnOf "_law_cell" "_law_cell" (defArgs s__law_cell) (defBody s__law_cell) (defScope s__law_cell) .none kV0 dc0 pm0 an0 cd0 ct0), sl0⟩) (c0 : PySem.W.codeIn K cd0 "_law_cell" = true) (k0 : PySem.W.keepIn K (.ref f0) = true)
    (a1 : PySem.W.nsIn K mainGlobals "_law_draws" = some (some (.ref f1))) (l1 : K.lookup f1 = some ⟨oc1, od1, .func (PySem.W.fnOf "_law_draws" "_law_draws" (defArgs s__law_draws) (defBody s__law_draws) (defScope s__law_draws) .none kV1 dc1 pm1 an1 cd1 ct1), sl1⟩) (c1 : PySem.W.codeIn K cd1 "_law_draws" = true) (k1 : PySem.W.keepIn K (.ref f1) = true)
    (a2 : PySem.W.nsIn K mainGlobals "_law_stream" = some (some (.ref f2))) (l2 : K.lookup f2 = some ⟨oc2, od2, .func (PySem.W.fnOf "_law_stream" "_law_stream" (defArgs s__law_stream) (defBody s__law_stream) (defScope s__law_stream) .none kV2 dc2 pm2 an2 cd2 ct2), sl2⟩) (c2 : PySem.W.codeIn K cd2 "_law_stream" = true) (k2 : PySem.W.keepIn K (.ref f2) = true)
    (a3 : PySem.W.nsIn K mainGlobals "_law_next" = some (some (.ref f3))) (l3 : K.lookup f3 = some ⟨oc3, od3, .func (PySem.W.fnOf "_law_next" "_law_next" (defArgs s__law_next) (defBody s__law_next) (defScope s__law_next) .none kV3 dc3 pm3 an3 cd3 ct3), sl3⟩) (c3 : PySem.W.codeIn K cd3 "_law_next" = true) (k3 : PySem.W.keepIn K (.ref f3) = true)
    (a4 : PySem.W.nsIn K mainGlobals "_law_is_integer" = some (some (.ref f4))) (l4 : K.lookup f4 = some ⟨oc4, od4, .func (PySem.W.fnOf "_law_is_integer" "_law_is_integer" (defArgs s__law_is_integer) (defBody s__law_is_integer) (defScope s__law_is_integer) .none kV4 dc4 pm4 an4 cd4 ct4), sl4⟩) (c4 : PySem.W.codeIn K cd4 "_law_is_integer" = true) (k4 : PySem.W.keepIn K (.ref f4) = true)
    (a5 : PySem.W.nsIn K mainGlobals "_law_same" = some (some (.ref f5))) (l5 : K.lookup f5 = some ⟨oc5, od5, .func (PySem.W.fnOf "_law_same" "_law_same" (defArgs s__law_same) (defBody s__law_same) (defScope s__law_same) .none kV5 dc5 pm5 an5 cd5 ct5), sl5⟩) (c5 : PySem.W.codeIn K cd5 "_law_same" = true) (k5 : PySem.W.keepIn K (.ref f5) = true)
    (a6 : PySem.W.nsIn K mainGlobals "meet" = some (some (.ref f6))) (l6 : K.lookup f6 = some ⟨oc6, od6, .func (PySem.W.fnOf "meet" "meet" (defArgs s_meet) (defBody s_meet) (defScope s_meet) .none kV6 dc6 pm6 an6 cd6 ct6), sl6⟩) (c6 : PySem.W.codeIn K cd6 "meet" = true) (k6 : PySem.W.keepIn K (.ref f6) = true)
    (a7 : PySem.W.nsIn K mainGlobals "lengthened" = some (some (.ref f7))) (l7 : K.lookup f7 = some ⟨oc7, od7, .func (PySem.W.fnOf "lengthened" "lengthened" (defArgs s_lengthened) (defBody s_lengthened) (defScope s_lengthened) .none kV7 dc7 pm7 an7 cd7 ct7), sl7⟩) (c7 : PySem.W.codeIn K cd7 "lengthened" = true) (k7 : PySem.W.keepIn K (.ref f7) = true)
    (a8 : PySem.W.nsIn K mainGlobals "has_minute" = some (some (.ref f8))) (l8 : K.lookup f8 = some ⟨oc8, od8, .func (PySem.W.fnOf "has_minute" "has_minute" (defArgs s_has_minute) (defBody s_has_minute) (defScope s_has_minute) .none kV8 dc8 pm8 an8 cd8 ct8), sl8⟩) (c8 : PySem.W.codeIn K cd8 "has_minute" = true) (k8 : PySem.W.keepIn K (.ref f8) = true)
    (a9 : PySem.W.nsIn K mainGlobals "minutes_within" = some (some (.ref f9))) (l9 : K.lookup f9 = some ⟨oc9, od9, .func (PySem.W.fnOf "minutes_within" "minutes_within" (defArgs s_minutes_within) (defBody s_minutes_within) (defScope s_minutes_within) .none kV9 dc9 pm9 an9 cd9 ct9), sl9⟩) (c9 : PySem.W.codeIn K cd9 "minutes_within" = true) (k9 : PySem.W.keepIn K (.ref f9) = true)
    (a10 : PySem.W.nsIn K mainGlobals "law" = some (some (.ref f10))) (l10 : K.lookup f10 = some ⟨oc10, od10, .func (PySem.W.fnOf "law" "law" (defArgs s_law) (defBody s_law) (defScope s_law) .none kV10 dc10 pm10 an10 cd10 ct10), sl10⟩) (c10 : PySem.W.codeIn K cd10 "law" = true) (k10 : PySem.W.keepIn K (.ref f10) = true)
    (z_len : PySem.W.nsIn K mainGlobals "len" = some none) (z_range : PySem.W.nsIn K mainGlobals "range" = some none) (z_int : PySem.W.nsIn K mainGlobals "int" = some none) (z_abs : PySem.W.nsIn K mainGlobals "abs" = some none) (z_isinstance : PySem.W.nsIn K mainGlobals "isinstance" = some none) (z_bool : PySem.W.nsIn K mainGlobals "bool" = some none) (z_str : PySem.W.nsIn K mainGlobals "str" = some none) (z_tuple : PySem.W.nsIn K mainGlobals "tuple" = some none) (z_list : PySem.W.nsIn K mainGlobals "list" = some none) (z_sum : PySem.W.nsIn K mainGlobals "sum" = some none) (z_max : PySem.W.nsIn K mainGlobals "max" = some none) (z_min : PySem.W.nsIn K mainGlobals "min" = some none) (z_all : PySem.W.nsIn K mainGlobals "all" = some none) (z_enumerate : PySem.W.nsIn K mainGlobals "enumerate" = some none) (z_zip : PySem.W.nsIn K mainGlobals "zip" = some none)
    : All K mg :=
  ⟨⟨PySem.W.mg_none_of X G z_len, PySem.W.mg_none_of X G z_range, PySem.W.mg_none_of X G z_int, PySem.W.mg_none_of X G z_abs, PySem.W.mg_none_of X G z_isinstance, PySem.W.mg_none_of X G z_bool, PySem.W.mg_none_of X G z_str, PySem.W.mg_none_of X G z_tuple, PySem.W.mg_none_of X G z_list, PySem.W.mg_none_of X G z_sum, PySem.W.mg_none_of X G z_max, PySem.W.mg_none_of X G z_min, PySem.W.mg_none_of X G z_all, PySem.W.mg_none_of X G z_enumerate, PySem.W.mg_none_of X G z_zip⟩,
  at_mk X G a0 l0 c0 k0 (fun _ _ _ _ _ _ us hl => match us, hl with | [_, _], _ => rfl),
  at_mk X G a1 l1 c1 k1 (fun _ _ _ _ _ _ us hl => match us, hl with | [_, _], _ => rfl),
  at_mk X G a2 l2 c2 k2 (fun _ _ _ _ _ _ us hl => match us, hl with | [_, _, _], _ => rfl),
  at_mk X G a3 l3 c3 k3 (fun _ _ _ _ _ _ us hl => match us, hl with | [_, _], _ => rfl),
  at_mk X G a4 l4 c4 k4 (fun _ _ _ _ _ _ us hl => match us, hl with | [_], _ => rfl),
  at_mk X G a5 l5 c5 k5 (fun _ _ _ _ _ _ us hl => match us, hl with | [_, _], _ => rfl),
  at_mk X G a6 l6 c6 k6 (fun _ _ _ _ _ _ us hl => match us, hl with | [_, _], _ => rfl),
  at_mk X G a7 l7 c7 k7 (fun _ _ _ _ _ _ us hl => match us, hl with | [_, _], _ => rfl),
  at_mk X G a8 l8 c8 k8 (fun _ _ _ _ _ _ us hl => match us, hl with | [_, _], _ => rfl),
  at_mk X G a9 l9 c9 k9 (fun _ _ _ _ _ _ us hl => match us, hl with | [_, _, _], _ => rfl),
  at_mk X G a10 l10 c10 k10 (fun _ _ _ _ _ _ us hl => match us, hl with | [_], _ => rfl)⟩
theorem the_law {P : Program} {w : World} {K : PySem.W.Frag} {mg : Str → Option Value} {base : Heap} (T : All K mg) : DefOk P w K mg base CX0 10 "law" ["script"] (spLaw K) :=
  d_law (n := 0) T.B (d_stream (d_stream0 T.B (d_cell T.B T.a__law_cell) (d_draws T.B T.a__law_draws) T.a__law_stream)) (d_next (d_next0 T.B T.a__law_next))
    (d_same T.B (d_is_integer T.B T.a__law_is_integer) T.a__law_same 8) (d_meet T.B T.a_meet) (d_lengthened T.B T.a_lengthened) (d_has_minute T.B T.a_has_minute) (d_minutes_within T.B T.a_minutes_within) T.a_law
theorem fin {l : PySem.W.OpenLaw} {w : World} {K : PySem.W.Frag} {h : Heap} {mg : Str → Option Value} (X : K.In h) (G : h.Ns mainGlobals mg)
    {fa f0 f1 f2 f3 f4 f5 f6 f7 f8 f9 f10 : Addr} {od0 an0 od1 an1 od2 an2 od3 an3 od4 an4 od5 an5 od6 an6 od7 an7 od8 an8 od9 an9 od10 an10 : Option Addr} {sl0 sl1 sl2 sl3 sl4 sl5 sl6 sl7 sl8 sl9 sl10 : Array (Option Value)} {oc0 kV0 dc0 pm0 cd0 ct0 oc1 kV1 dc1 pm1 cd1 ct1 oc2 kV2 dc2 pm2 cd2 ct2 oc3 kV3 dc3 pm3 cd3 ct3 oc4 kV4 dc4 pm4 cd4 ct4 oc5 kV5 dc5 pm5 cd5 ct5 oc6 kV6 dc6 pm6 cd6 ct6 oc7 kV7 dc7 pm7 cd7 ct7 oc8 kV8 dc8 pm8 cd8 ct8 oc9 kV9 dc9 pm9 cd9 ct9 oc10 kV10 dc10 pm10 cd10 ct10 : Value}
    (hfa : mg "law" = some (.ref fa))
    (a0 : PySem.W.nsIn K mainGlobals "_law_cell" = some (some (.ref f0))) (l0 : K.lookup f0 = some ⟨oc0, od0, .func (PySem.W.fnOf "_law_cell" "_law_cell" (defArgs s__law_cell) (defBody s__law_cell) (defScope s__law_cell) .none kV0 dc0 pm0 an0 cd0 ct0), sl0⟩) (c0 : PySem.W.codeIn K cd0 "_law_cell" = true) (k0 : PySem.W.keepIn K (.ref f0) = true)
    (a1 : PySem.W.nsIn K mainGlobals "_law_draws" = some (some (.ref f1))) (l1 : K.lookup f1 = some ⟨oc1, od1, .func (PySem.W.fnOf "_law_draws" "_law_draws" (defArgs s__law_draws) (defBody s__law_draws) (defScope s__law_draws) .none kV1 dc1 pm1 an1 cd1 ct1), sl1⟩) (c1 : PySem.W.codeIn K cd1 "_law_draws" = true) (k1 : PySem.W.keepIn K (.ref f1) = true)
    (a2 : PySem.W.nsIn K mainGlobals "_law_stream" = some (some (.ref f2))) (l2 : K.lookup f2 = some ⟨oc2, od2, .func (PySem.W.fnOf "_law_stream" "_law_stream" (defArgs s__law_stream) (defBody s__law_stream) (defScope s__law_stream) .none kV2 dc2 pm2 an2 cd2 ct2), sl2⟩) (c2 : PySem.W.codeIn K cd2 "_law_stream" = true) (k2 : PySem.W.keepIn K (.ref f2) = true)
    (a3 : PySem.W.nsIn K mainGlobals "_law_next" = some (some (.ref f3))) (l3 : K.lookup f3 = some ⟨oc3, od3, .func (PySem.W.fnOf "_law_next" "_law_next" (defArgs s__law_next) (defBody s__law_next) (defScope s__law_next) .none kV3 dc3 pm3 an3 cd3 ct3), sl3⟩) (c3 : PySem.W.codeIn K cd3 "_law_next" = true) (k3 : PySem.W.keepIn K (.ref f3) = true)
    (a4 : PySem.W.nsIn K mainGlobals "_law_is_integer" = some (some (.ref f4))) (l4 : K.lookup f4 = some ⟨oc4, od4, .func (PySem.W.fnOf "_law_is_integer" "_law_is_integer" (defArgs s__law_is_integer) (defBody s__law_is_integer) (defScope s__law_is_integer) .none kV4 dc4 pm4 an4 cd4 ct4), sl4⟩) (c4 : PySem.W.codeIn K cd4 "_law_is_integer" = true) (k4 : PySem.W.keepIn K (.ref f4) = true)
    (a5 : PySem.W.nsIn K mainGlobals "_law_same" = some (some (.ref f5))) (l5 : K.lookup f5 = some ⟨oc5, od5, .func (PySem.W.fnOf "_law_same" "_law_same" (defArgs s__law_same) (defBody s__law_same) (defScope s__law_same) .none kV5 dc5 pm5 an5 cd5 ct5), sl5⟩) (c5 : PySem.W.codeIn K cd5 "_law_same" = true) (k5 : PySem.W.keepIn K (.ref f5) = true)
    (a6 : PySem.W.nsIn K mainGlobals "meet" = some (some (.ref f6))) (l6 : K.lookup f6 = some ⟨oc6, od6, .func (PySem.W.fnOf "meet" "meet" (defArgs s_meet) (defBody s_meet) (defScope s_meet) .none kV6 dc6 pm6 an6 cd6 ct6), sl6⟩) (c6 : PySem.W.codeIn K cd6 "meet" = true) (k6 : PySem.W.keepIn K (.ref f6) = true)
    (a7 : PySem.W.nsIn K mainGlobals "lengthened" = some (some (.ref f7))) (l7 : K.lookup f7 = some ⟨oc7, od7, .func (PySem.W.fnOf "lengthened" "lengthened" (defArgs s_lengthened) (defBody s_lengthened) (defScope s_lengthened) .none kV7 dc7 pm7 an7 cd7 ct7), sl7⟩) (c7 : PySem.W.codeIn K cd7 "lengthened" = true) (k7 : PySem.W.keepIn K (.ref f7) = true)
    (a8 : PySem.W.nsIn K mainGlobals "has_minute" = some (some (.ref f8))) (l8 : K.lookup f8 = some ⟨oc8, od8, .func (PySem.W.fnOf "has_minute" "has_minute" (defArgs s_has_minute) (defBody s_has_minute) (defScope s_has_minute) .none kV8 dc8 pm8 an8 cd8 ct8), sl8⟩) (c8 : PySem.W.codeIn K cd8 "has_minute" = true) (k8 : PySem.W.keepIn K (.ref f8) = true)
    (a9 : PySem.W.nsIn K mainGlobals "minutes_within" = some (some (.ref f9))) (l9 : K.lookup f9 = some ⟨oc9, od9, .func (PySem.W.fnOf "minutes_within" "minutes_within" (defArgs s_minutes_within) (defBody s_minutes_within) (defScope s_minutes_within) .none kV9 dc9 pm9 an9 cd9 ct9), sl9⟩) (c9 : PySem.W.codeIn K cd9 "minutes_within" = true) (k9 : PySem.W.keepIn K (.ref f9) = true)
    (a10 : PySem.W.nsIn K mainGlobals "law" = some (some (.ref f10))) (l10 : K.lookup f10 = some ⟨oc10, od10, .func (PySem.W.fnOf "law" "law" (defArgs s_law) (defBody s_law) (defScope s_law) .none kV10 dc10 pm10 an10 cd10 ct10), sl10⟩) (c10 : PySem.W.codeIn K cd10 "law" = true) (k10 : PySem.W.keepIn K (.ref f10) = true)
    (z_len : PySem.W.nsIn K mainGlobals "len" = some none) (z_range : PySem.W.nsIn K mainGlobals "range" = some none) (z_int : PySem.W.nsIn K mainGlobals "int" = some none) (z_abs : PySem.W.nsIn K mainGlobals "abs" = some none) (z_isinstance : PySem.W.nsIn K mainGlobals "isinstance" = some none) (z_bool : PySem.W.nsIn K mainGlobals "bool" = some none) (z_str : PySem.W.nsIn K mainGlobals "str" = some none) (z_tuple : PySem.W.nsIn K mainGlobals "tuple" = some none) (z_list : PySem.W.nsIn K mainGlobals "list" = some none) (z_sum : PySem.W.nsIn K mainGlobals "sum" = some none) (z_max : PySem.W.nsIn K mainGlobals "max" = some none) (z_min : PySem.W.nsIn K mainGlobals "min" = some none) (z_all : PySem.W.nsIn K mainGlobals "all" = some none) (z_enumerate : PySem.W.nsIn K mainGlobals "enumerate" = some none) (z_zip : PySem.W.nsIn K mainGlobals "zip" = some none)
    : ∃ fd : FuncData, (∀ (s : Shared) (v : Value), BindsTo s fd ⟨[v], []⟩ [("script", v)]) ∧ ∀ base : Heap, K.In base → base.Ns mainGlobals mg → FnOk l.prog w K mg base CX0 10 fa fd ["script"] (spLaw K) := by
  have T := all_mk (fa := fa) X G a0 l0 c0 k0 a1 l1 c1 k1 a2 l2 c2 k2 a3 l3 c3 k3 a4 l4 c4 k4 a5 l5 c5 k5 a6 l6 c6 k6 a7 l7 c7 k7 a8 l8 c8 k8 a9 l9 c9 k9 a10 l10 c10 k10 z_len z_range z_int z_abs z_isinstance z_bool z_str z_tuple z_list z_sum z_max z_min z_all z_enumerate z_zip
  exact T.a_law.end_ hfa (fun base => the_law T) (fun _ _ _ _ _ _ _ => rfl)
end DP
open PySem PySem.W PyProof.Rows
set_option maxHeartbeats 0 in
theorem PySem.Challenge.cw_downpass_k00_spans_holds : PySem.Challenge.rw_downpass_k00_spans.Holds := by
  w_on; o_law; k_head; (case hw => w_witness2)
  k_fill
  refine L2.walk_of (l := PySem.Challenge.rw_downpass_k00_spans) (n := 63) (k := 10) (x := "script") (CX := fun _ => L2.CX0) (sp := fun w => DP.spLaw _) rfl (by decide) rfl ⟨rfl, by decide, by decide⟩ (fun w h Y => PySem.W.kIn_of Y) ?F (fun _ _ a ns hl _ hS => ⟨a, ns, rfl, hS, fun _ => rfl⟩) (fun _ _ _ _ _ h => h)
  case F =>
    intro w mg fa h KX G hmg
    refine' DP.fin KX G hmg ?a0 ?l0 ?c0 ?k0 ?a1 ?l1 ?c1 ?k1 ?a2 ?l2 ?c2 ?k2 ?a3 ?l3 ?c3 ?k3 ?a4 ?l4 ?c4 ?k4 ?a5 ?l5 ?c5 ?k5 ?a6 ?l6 ?c6 ?k6 ?a7 ?l7 ?c7 ?k7 ?a8 ?l8 ?c8 ?k8 ?a9 ?l9 ?c9 ?k9 ?a10 ?l10 ?c10 ?k10 ?z_len ?z_range ?z_int ?z_abs ?z_isinstance ?z_bool ?z_str ?z_tuple ?z_list ?z_sum ?z_max ?z_min ?z_all ?z_enumerate ?z_zip
    (case a0 => k_is)
    (case l0 => k_is)
    (case c0 => k_is)
    (case k0 => k_is)
    (case a1 => k_is)
    (case l1 => k_is)
    (case c1 => k_is)
    (case k1 => k_is)
    (case a2 => k_is)
    (case l2 => k_is)
    (case c2 => k_is)
    (case k2 => k_is)
    (case a3 => k_is)
    (case l3 => k_is)
    (case c3 => k_is)
    (case k3 => k_is)
    (case a4 => k_is)
    (case l4 => k_is)
    (case c4 => k_is)
    (case k4 => k_is)
    (case a5 => k_is)
    (case l5 => k_is)
    (case c5 => k_is)
    (case k5 => k_is)
    (case a6 => k_is)
    (case l6 => k_is)
    (case c6 => k_is)
    (case k6 => k_is)
    (case a7 => k_is)
    (case l7 => k_is)
    (case c7 => k_is)
    (case k7 => k_is)
    (case a8 => k_is)
    (case l8 => k_is)
    (case c8 => k_is)
    (case k8 => k_is)
    (case a9 => k_is)
    (case l9 => k_is)
    (case c9 => k_is)
    (case k9 => k_is)
    (case a10 => k_is)
    (case l10 => k_is)
    (case c10 => k_is)
    (case k10 => k_is)
    (case z_len => k_is)
    (case z_range => k_is)
    (case z_int => k_is)
    (case z_abs => k_is)
    (case z_isinstance => k_is)
    (case z_bool => k_is)
    (case z_str => k_is)
    (case z_tuple => k_is)
    (case z_list => k_is)
    (case z_sum => k_is)
    (case z_max => k_is)
    (case z_min => k_is)
    (case z_all => k_is)
    (case z_enumerate => k_is)
    (case z_zip => k_is)
