import PyProof.Rows.All
import Wide.All
import OpenK.AllK
import Wide.FinOn
import HandS.ForMost
import HandS.IsInst
import HandS.Sort
import HandS.Conv
import HandS.ClsMeth
import HandS.CallLocal
import HandS.Codes
import HandS.NoneIn
import HandS.Walk
import HandS.Defaults
import HandS.Strs
import HandS.SlotsOwn
import HandS.TupAny
import HandS.TupMul
import HandS.Deep
import HandS.FStr
import HandS.Zip
import HandS.TupLe
import HandS.Star
import HandS.TupSets
import KE.DataCmp
import HandS.Flow
import KE.GoesEnumKw
import KE.KUnpackStar
import HandS.WordsExc
import HandS.TryOnly
import HandS.ExcIs
import PySem.Challenge.RW_downpass_k53_what_is_no_row
set_option Elab.async false
set_option linter.all false
set_option maxRecDepth 100000
set_option maxHeartbeats 4000000
namespace DP
open PySem PySem.Spec PyProof.Rows L2
def isPl (p : Addr) (h : Heap) : Prop := ∃ (n : Int) (t : Tok) (k : Nat), h.get? p = some { cls := .type "list", data := .seq #[.int n t] k }
def plO (p : Addr) : HO := .ext (isPl p)
section
variable {P : Program} {w : World} {K : PySem.W.Frag} {mg : Str → Option Value} {base : Heap} {k : Nat} {f : Addr} {fd : FuncData} {ps : List Str} {sp sp' : Sp}
/-- the same objects by another heap that differs at p alone, where neither says own or tuple -/
theorem stay_at {H H' : Hp} {h : Heap} {p a : Addr} {o : HO} (x : ObjOk P w H h a o) (e : ∀ b, b ≠ p → H b = H' b) (n1 : ∀ y, H p ≠ some (.own y)) (n2 : ∀ xs, H p ≠ some (.tup xs)) : ObjOk P w H' h a o :=
  x.stay (fun _ _ _ q => q) (fun b q => by
    have hb : b ≠ p := fun z => n1 _ (z ▸ q)
    rw [← e b hb]; exact q) (fun b xs q => by
    have hb : b ≠ p := fun z => n2 _ (z ▸ q)
    rw [← e b hb]; exact q)
theorem pl_open {H : Hp} {h : Heap} {p : Addr} (ok : HOk P w H h) (e : H p = some (plO p)) : ∃ n : Int, HOk P w (upd H p (.lst [.int n])) h := by
  obtain ⟨⟨n, t, k, g⟩, _⟩ := (show ObjOk P w H h p (.ext (isPl p)) from ok p _ e)
  refine ⟨n, fun a o q => ?_⟩
  by_cases ha : a = p
  · subst ha
    rw [upd_same] at q
    cases q
    exact ⟨(by show 1 ≤ sizeLine; decide), [.int n t], k, .cons ⟨t, rfl⟩ .nil, g⟩
  · rw [upd_ne ha] at q
    exact stay_at (p := p) (ok a o q) (fun b hb => (upd_ne hb).symm) (fun y z => by rw [e] at z; cases z) (fun y z => by rw [e] at z; cases z)
theorem pl_close {H : Hp} {h : Heap} {p : Addr} {m : Int} (ok : HOk P w H h) (e : H p = some (.lst [.int m])) : HOk P w (upd H p (plO p)) h := by
  obtain ⟨_, its, k, r, g⟩ := (show ObjOk P w H h p (.lst [.int m]) from ok p _ e)
  refine fun a o q => ?_
  by_cases ha : a = p
  · subst ha
    rw [upd_same] at q
    cases q
    cases r with
    | cons r1 r2 =>
      cases r2
      obtain ⟨t, rfl⟩ := r1
      refine ⟨⟨m, t, k, g⟩, ⟨_, g⟩, fun h1 h2 z y => ?_⟩
      obtain ⟨n', t', k', g'⟩ := z
      exact ⟨n', t', k', y _ g'⟩
  · rw [upd_ne ha] at q
    exact stay_at (p := p) (ok a o q) (fun b hb => (upd_ne hb).symm) (fun y z => by rw [e] at z; cases z) (fun y z => by rw [e] at z; cases z)
/-- a def that turns the counter, told as one that changes nothing -/
theorem hide_in (F : FnOk P w K mg base CX0 k f fd ps sp) (hl : ∀ vs H Q E, sp' vs H Q E → vs.length = ps.length)
    (hs : ∀ vs H Q E, sp' vs H Q E → ∃ p, H p = some (plO p) ∧ ∀ n : Int, sp vs (upd H p (.lst [.int n])) (fun v H' => (∃ m : Int, H' = upd H p (.lst [.int m])) ∧ Q v H) E) : FnOk P w K mg base CX0 k f fd ps sp' := by
  refine ⟨hl, fun A outer s H args us vs Q E hr he hb hv h => ?_⟩
  obtain ⟨p, ep, h1⟩ := hs vs H Q E h
  obtain ⟨n, ok⟩ := pl_open he.hok ep
  have h2 := h1 n
  have hne : ∀ b, H b = none → b ≠ p := fun b z y => by rw [y, ep] at z; cases z
  refine codeAny_mono (F.run A outer s _ args us vs _ E hr ⟨he.frames, he.mod, fun b o z => ⟨(he.bs b o z).1, by rw [upd_ne (hne b (he.bs b o z).2)]; exact (he.bs b o z).2⟩, he.bsz, he.funs, fun b z => by rw [upd_ne (hne b (he.frf b z))]; exact he.frf b z, ok, he.bare⟩ hb hv h2) fun r s' hq => ?_
  cases r with
  | error e => exact hq.elim
  | ok fl =>
    cases fl with
    | next => exact False.elim hq
    | brk => exact False.elim hq
    | cont => exact False.elim hq
    | ret u =>
      obtain ⟨v, H', os, bare, un, hok, rv, ⟨m, rfl⟩, q⟩ := hq
      refine ⟨v, H, os, bare, ⟨fun b o z n hb hx => un.keep b o z (by rw [upd_ne (hne b n)]; exact n) hb hx, fun b o z n hb hx => un.slot b o z (by rw [upd_ne (hne b n)]; exact n) hb hx, fun _ _ _ n _ => n, un.there, fun _ _ z => z, fun _ _ _ z => z, fun _ ps z => ⟨#[], by rw [z]; simp⟩⟩, ?_, rv, q⟩
      have c := pl_close hok upd_same
      rw [upd_upd] at c
      intro a o z
      have c1 := c a
      have eq : upd H p (plO p) = H := by
        funext b
        by_cases hb : b = p
        · subst hb; rw [upd_same, ep]
        · rw [upd_ne hb]
      rw [eq] at c
      exact c a o z
/-- a def that hands back a heap with such a list: from then on it is a counter -/
theorem hide_out (F : FnOk P w K mg base CX0 k f fd ps sp) (hl : ∀ vs H Q E, sp' vs H Q E → vs.length = ps.length)
    (hs : ∀ vs H Q E, sp' vs H Q E → sp vs H (fun v H' => ∃ (p : Addr) (m : Int), H p = none ∧ H' p = some (.lst [.int m]) ∧ Q v (upd H' p (plO p))) E) : FnOk P w K mg base CX0 k f fd ps sp' := by
  refine ⟨hl, fun A outer s H args us vs Q E hr he hb hv h => ?_⟩
  refine codeAny_mono (F.run A outer s _ args us vs _ E hr he hb hv (hs vs H Q E h)) fun r s' hq => ?_
  cases r with
  | error e => exact hq.elim
  | ok fl =>
    cases fl with
    | next => exact False.elim hq
    | brk => exact False.elim hq
    | cont => exact False.elim hq
    | ret u =>
      obtain ⟨v, H', os, bare, un, hok, rv, p, m, n0, ep, q⟩ := hq
      refine ⟨v, _, os, bare, ⟨un.keep, un.slot, fun b o z n hx => ?_, un.there, fun b xs z => ?_, fun b o u z => ?_, fun b ps z => ?_⟩, pl_close hok ep, rv, q⟩
      · have e1 := un.free b o z n hx
        rw [upd_ne (fun y => by rw [y, ep] at e1; cases e1)]
        exact e1
      · rw [upd_ne (ne_of_none z n0)]; exact un.tups b xs z
      · rw [upd_ne (ne_of_none z n0)]; exact un.frzs b o u z
      · rw [upd_ne (ne_of_none z n0)]; exact un.tbls b ps z
end
end DP
/-! what a def of the text promises, with its place; the built-in names -/
namespace DP
open PySem PySem.Spec PyProof.Rows L2
/-- the built-in names that the text leaves alone -/
structure Bt (mg : Str → Option Value) : Prop where
  len : mg "len" = none
  range : mg "range" = none
  int : mg "int" = none
  abs : mg "abs" = none
  isinstance : mg "isinstance" = none
  bool : mg "bool" = none
  str : mg "str" = none
  tuple : mg "tuple" = none
  list : mg "list" = none
  sum : mg "sum" = none
  max : mg "max" = none
  min : mg "min" = none
  all : mg "all" = none
  enumerate : mg "enumerate" = none
  zip : mg "zip" = none
  dict : mg "dict" = none
structure DefOk (P : Program) (w : World) (K : PySem.W.Frag) (mg : Str → Option Value) (base : Heap) (CX : CXT) (k : Nat) (x : Str) (ps : List Str) (sp : Sp) : Prop where
  ex : ∃ f fd, FnOk P w K mg base CX k f fd ps sp ∧ mg x = some (.ref f) ∧ PySem.W.keepIn K (.ref f) = true ∧ Binds K fd ps [] ∧ ∃ oc od osl, K.lookup f = some ⟨oc, od, .func fd, osl⟩
/-- where a def stands -/
structure At (K : PySem.W.Frag) (mg : Str → Option Value) (x : Str) (st : Stmt) (ps : List Str) : Prop where
  ex : ∃ f fd, Fun K x x st f fd ∧ mg x = some (.ref f) ∧ Binds K fd ps []
theorem pe_f {X : Cx} {CX : CXT} {k : Nat} {x : Str} {ps : List Str} {sp : Sp} {E : XK} {e : Expr} {es : List Expr} {t : TA} {p pos : Pos} (D : DefOk X.prog X.w X.K X.mg X.base CX k x ps sp) (hr : Room k X.A) (hx : Passes CX X E) (ha : PA X (e :: es) t)
    (hg : Gl X x := by rfl) (hdb : (x == ("__debug__" : Str)) = false := by decide) (he : starEach (e :: es) X.env = (false, eval e X.env) :: starEach es X.env := by rfl) (hpl : (backTo pos (starEach es X.env)).any (·.1) = false := by rfl) :
    PE X (.Call (.Name x p) (e :: es) [] pos) (tCall sp [] E t) := by
  obtain ⟨f, fd, G, m, kp, b, _⟩ := D.ex
  exact pe_call G hr hg m kp b .nil hx ha hdb he hpl
section
variable {P : Program} {w : World} {K : PySem.W.Frag} {mg : Str → Option Value} {base : Heap} {x : Str} {st : Stmt} {ps N : List Str} {k : Nat} {sp sp' : Sp}
theorem At.ok (F : At K mg x st ps) (S : FnScope N ps (defScope st)) (len : ∀ vs H Q E, sp vs H Q E → vs.length = ps.length)
    (hbody : ∀ (f : Addr) (cdv : Value) (A : Around) (outer : List Env) (s : Shared) (H : Hp) (vs : List V) (Q : VK) (E : XK), Room k (A.deeper (envOfC x (defScope st) s.heap.objs.size f cdv)) → sp vs H Q E →
      ∃ t, PSs (cxOf CX0 P w K mg base N x (defScope st) f cdv A outer s H E).nox (defBody st) t ∧ t { nx := fun _ H' => Q .non H', rt := Q } (start N vs) H) : DefOk P w K mg base CX0 (k + 1) x ps sp := by
  obtain ⟨f, fd, G, m, b⟩ := F.ex
  obtain ⟨oc, od, _, _, _, _, _, _, osl, _, lk, _⟩ := G.ex
  exact ⟨f, fd, G.ok S len (fun cdv A outer s H vs Q E hr h => hbody f cdv A outer s H vs Q E hr h), m, G.kp, b, oc, od, osl, lk⟩
/-- the law's def, for the end -/
theorem At.end_ {l : PySem.W.OpenLaw} {fa : Addr} (F : At K mg x st ["script"]) (hfa : mg x = some (.ref fa)) (h : ∀ base : Heap, DefOk l.prog w K mg base CX0 k x ["script"] sp)
    (hb : ∀ (kV doc pm : Value) (an : Option Addr) (cdv ct v : Value), bindArgs (PySem.W.fnOf x x (defArgs st) (defBody st) (defScope st) .none kV doc pm an cdv ct) ⟨[v], []⟩ = pure [(("script" : Str), v)]) :
    ∃ fd : FuncData, (∀ (s : Shared) (v : Value), BindsTo s fd ⟨[v], []⟩ [("script", v)]) ∧ ∀ base : Heap, K.In base → base.Ns mainGlobals mg → FnOk l.prog w K mg base CX0 k fa fd ["script"] sp := by
  obtain ⟨f, fd, G, m, b⟩ := F.ex
  rw [hfa] at m
  cases m
  refine ⟨fd, fun s v => ?_, fun base _ _ => ?_⟩
  · obtain ⟨oc, od, kV, doc, pm, an, cdv, ct, osl, rfl, lk, _⟩ := G.ex
    exact .of_eq (hb kV doc pm an cdv ct v)
  obtain ⟨f', fd', G', m', _, _, oc', od', osl', lk'⟩ := (h base).ex
  rw [hfa] at m'
  cases m'
  obtain ⟨oc, od, _, _, _, _, _, _, osl, _, lk, _⟩ := G.ex
  rw [lk] at lk'
  cases lk'
  exact G'
theorem DefOk.hide_in (D : DefOk P w K mg base CX0 k x ps sp) (hl : ∀ vs H Q E, sp' vs H Q E → vs.length = ps.length)
    (hs : ∀ vs H Q E, sp' vs H Q E → ∃ p, H p = some (plO p) ∧ ∀ n : Int, sp vs (upd H p (.lst [.int n])) (fun v H' => (∃ m : Int, H' = upd H p (.lst [.int m])) ∧ Q v H) E) : DefOk P w K mg base CX0 k x ps sp' := by
  obtain ⟨f, fd, G, m, kp, b, lk⟩ := D.ex
  exact ⟨f, fd, DP.hide_in G hl hs, m, kp, b, lk⟩
theorem DefOk.hide_out (D : DefOk P w K mg base CX0 k x ps sp) (hl : ∀ vs H Q E, sp' vs H Q E → vs.length = ps.length)
    (hs : ∀ vs H Q E, sp' vs H Q E → sp vs H (fun v H' => ∃ (p : Addr) (m : Int), H p = none ∧ H' p = some (.lst [.int m]) ∧ Q v (upd H' p (plO p))) E) : DefOk P w K mg base CX0 k x ps sp' := by
  obtain ⟨f, fd, G, m, kp, b, lk⟩ := D.ex
  exact ⟨f, fd, DP.hide_out G hl hs, m, kp, b, lk⟩
theorem DefOk.imp (D : DefOk P w K mg base CX0 k x ps sp) (h : ∀ vs H Q E, sp' vs H Q E → sp vs H Q E) : DefOk P w K mg base CX0 k x ps sp' := by
  obtain ⟨f, fd, G, m, kp, b, lk⟩ := D.ex
  exact ⟨f, fd, G.imp h, m, kp, b, lk⟩
end
theorem at_mk {h : Heap} {K : PySem.W.Frag} {mg : Str → Option Value} (X : K.In h) (G : h.Ns mainGlobals mg) {x : Str} {st : Stmt} {ps : List Str} {f : Addr} {oc : Value} {od an : Option Addr} {osl : Array (Option Value)} {kV doc pm cdv ct : Value}
    (a : PySem.W.nsIn K mainGlobals x = some (some (.ref f))) (l : K.lookup f = some ⟨oc, od, .func (PySem.W.fnOf x x (defArgs st) (defBody st) (defScope st) .none kV doc pm an cdv ct), osl⟩)
    (c : PySem.W.codeIn K cdv x = true) (k : PySem.W.keepIn K (.ref f) = true)
    (hb : ∀ (kV doc pm : Value) (an : Option Addr) (cdv ct : Value) (us : List Value), us.length = ps.length → bindArgs (PySem.W.fnOf x x (defArgs st) (defBody st) (defScope st) .none kV doc pm an cdv ct) ⟨us, []⟩ = pure (ps.zip us)) : At K mg x st ps := by
  have F := fun_mk (st := st) l c k
  exact ⟨f, _, F, PySem.W.mg_of X G a, F.binds hb⟩
theorem same_new {H : Hp} {p : Addr} (h : H p = none) (o : HO) : Same H (upd H p o) := fun b u q => by rw [upd_ne (ne_of_none q h)]; exact q
theorem same_at {H H' : Hp} {p : Addr} (h : H p = none) (s : Same H H') (o : HO) : Same H (upd H' p o) := fun b u q => by rw [upd_ne (ne_of_none q h)]; exact s _ _ q
theorem Same.tup {K : PySem.W.Frag} {H H' : Hp} {a : Addr} {xs : List V} (e : Same H H') (h : SqT K H a xs) : SqT K H' a xs := by
  rcases h with (h | ⟨o, h⟩) | h
  · exact .inl (.inl (e _ _ h))
  · exact .inl (.inr ⟨o, e _ _ h⟩)
  · exact .inr h
theorem iteT' {c : Bool} {A B : Prop} (e : c = true) (h : A) : if c = true then A else B := by
  rw [if_pos e]
  exact h
theorem iteF' {c : Bool} {A B : Prop} (e : c = false) (h : B) : if c = true then A else B := by
  rw [e]
  exact iteF h
theorem small {n : Nat} (h : n ≤ 1000) : n ≤ sizeLine := Nat.le_of_lt (small1000 h)
/-! within a comprehension's block: the same rules with the written part named -/
section
variable {X : Cx} {K : PySem.W.Frag}
theorem ix_listK (h : X.K = K) : IxR X (rIxL K) := by subst h; exact ix_list
theorem ix_tupK (h : X.K = K) : IxR X (rIxT K) := by subst h; exact ix_tup
theorem ix_seqK (h : X.K = K) : IxR X (rIx K) := by subst h; exact ix_seq
theorem sl_tupK (h : X.K = K) : SlR X (rSlT K) := by subst h; exact sl_tup
theorem sl_listK (h : X.K = K) : SlR X (rSlL K) := by subst h; exact sl_list
theorem op_in_seqK (h : X.K = K) : OpR X (compareOp .In) (rIn K false) := by subst h; exact op_in_seq
theorem op_notIn_seqK (h : X.K = K) : OpR X (compareOp .NotIn) (rIn K true) := by subst h; exact op_notIn_seq
theorem call_isiK (h : X.K = K) : CallR X (.builtin "isinstance") (rIsi K) := by subst h; exact call_isi
theorem call_len_seqK (h : X.K = K) : CallR X (.builtin "len") (fun xs H Q => ∃ p ys, xs = [.ref p] ∧ (SqL K H p ys ∨ SqT K H p ys) ∧ Q (.int ys.length) H) := by subst h; exact call_len_seq
end
end DP
/-! spans -/
namespace DP
open PySem PySem.Spec PyProof.Rows L2
/-- a span of two ints -/
def SpanV (K : PySem.W.Frag) (H : Hp) (x : V) (q : Int × Int) : Prop := ∃ t, x = .ref t ∧ SqT K H t [.int q.1, .int q.2]
abbrev Spans (K : PySem.W.Frag) (H : Hp) (xs : List V) (qs : List (Int × Int)) : Prop := Paired (SpanV K H) xs qs
theorem paired_snoc {α β : Type} {F : α → β → Prop} : ∀ {xs : List α} {ys : List β} {x : α} {y : β}, Paired F xs ys → F x y → Paired F (xs ++ [x]) (ys ++ [y])
  | _, _, _, _, .nil, h => .cons h .nil
  | _, _, _, _, .cons a t, h => .cons a (paired_snoc t h)
theorem paired_at {α β : Type} {F : α → β → Prop} : ∀ {xs : List α} {ys : List β} {i : Nat} {x : α}, Paired F xs ys → xs[i]? = some x → ∃ y, ys[i]? = some y ∧ F x y
  | _, _, _, _, .nil, h => by simp at h
  | _, _, 0, _, .cons a _, h => ⟨_, rfl, by rw [← Option.some.inj h]; exact a⟩
  | _, _, i + 1, _, .cons _ t, h => by
    obtain ⟨y, h1, h2⟩ := paired_at (i := i) t h
    exact ⟨y, h1, h2⟩
theorem paired_len {α β : Type} {F : α → β → Prop} {xs : List α} {ys : List β} (h : Paired F xs ys) : xs.length = ys.length := Paired.length h
/-- a tuple stands where a list is changed -/
theorem sqT_upd {K : PySem.W.Frag} {H : Hp} {t L : Addr} {xs ys : List V} {o : HO} (h : SqT K H t xs) (e : H L = some (.lst ys)) : SqT K (upd H L o) t xs := by
  rcases h with (h | ⟨u, h⟩) | h
  · exact .inl (.inl (by rw [upd_ne (ne_of h e (fun z => nomatch z))]; exact h))
  · exact .inl (.inr ⟨u, by rw [upd_ne (ne_of h e (fun z => nomatch z))]; exact h⟩)
  · exact .inr h
theorem Spans.upd {K : PySem.W.Frag} {H : Hp} {L : Addr} {xs ys : List V} {qs : List (Int × Int)} {o : HO} (h : Spans K H xs qs) (e : H L = some (.lst ys)) : Spans K (L2.upd H L o) xs qs :=
  Paired.mapP h fun _ _ ⟨t, h1, h2⟩ => ⟨t, h1, sqT_upd h2 e⟩
theorem Spans.same {K : PySem.W.Frag} {H H' : Hp} {xs : List V} {qs : List (Int × Int)} (h : Spans K H xs qs) (s : Same H H') : Spans K H' xs qs :=
  Paired.mapP h fun _ _ ⟨t, h1, h2⟩ => ⟨t, h1, Same.tup s h2⟩
/-- the minutes from f to e - 1 in one span -/
def mwOne (f e : Int) (q : Int × Int) : Int := if (if q.2 < e then q.2 else e) - (if q.1 > f then q.1 else f) > 0 then (if q.2 < e then q.2 else e) - (if q.1 > f then q.1 else f) else 0
def mw (qs : List (Int × Int)) (f e : Int) : Int := (qs.map (mwOne f e)).sum
def hasM (m : Int) (q : Int × Int) : Bool := decide (q.1 ≤ m) && decide (m < q.2)
theorem mwOne_le {f e : Int} {q : Int × Int} (h : e ≤ f) : mwOne f e q = 0 := by
  unfold mwOne
  split <;> split <;> split <;> omega
theorem mw_le {f e : Int} (h : e ≤ f) : ∀ qs : List (Int × Int), mw qs f e = 0
  | [] => rfl
  | q :: r => by
    show mwOne f e q + mw r f e = 0
    rw [mwOne_le h, mw_le h r]
    rfl
theorem mwOne_succ {f e : Int} {q : Int × Int} (h : f ≤ e) (hq : q.1 < q.2) : mwOne f (e + 1) q = mwOne f e q + (if hasM e q = true then 1 else 0) := by
  unfold mwOne hasM
  by_cases c1 : q.1 ≤ e
  · by_cases c2 : e < q.2
    · rw [decide_eq_true c1, decide_eq_true c2]
      rw [if_pos (show (true && true) = true from rfl)]
      repeat' (first | omega | split)
    · rw [decide_eq_false c2, Bool.and_false, if_neg Bool.false_ne_true]
      repeat' (first | omega | split)
  · rw [decide_eq_false c1, Bool.false_and, if_neg Bool.false_ne_true]
    repeat' (first | omega | split)
theorem mw_succ {f e : Int} (h : f ≤ e) : ∀ qs : List (Int × Int), (∀ q ∈ qs, q.1 < q.2) → mw qs f (e + 1) = mw qs f e + ((qs.filter (hasM e)).length : Int)
  | [], _ => rfl
  | q :: r, hq => by
    have ih := mw_succ h r fun x hx => hq x (List.mem_cons_of_mem _ hx)
    have h1 := mwOne_succ h (hq q List.mem_cons_self)
    show mwOne f (e + 1) q + mw r f (e + 1) = mwOne f e q + mw r f e + _
    rw [ih, h1, List.filter_cons]
    by_cases c : hasM e q = true
    · rw [if_pos c, if_pos c, List.length_cons]
      omega
    · rw [if_neg c, if_neg c]
      omega
theorem mw_take_succ {f e : Int} {qs : List (Int × Int)} {i : Nat} {q : Int × Int} (h : qs[i]? = some q) : mw (qs.take (i + 1)) f e = mw (qs.take i) f e + mwOne f e q := by
  unfold mw
  rw [List.take_add_one, h, List.map_append, List.sum_append]
  show _ + (mwOne f e q + 0) = _
  omega
end DP
/-! the text of a world, by words -/
namespace DP
open PySem PySem.Spec PyProof.Rows L2
abbrev tl (x : Str) : List Nat := TL.tl x
def num (n : Int) : Str := Str.ofString (toString n)
/-- a word of a line -/
def WdOk (w : Str) : Prop := tl w ≠ [] ∧ 32 ∉ tl w ∧ 10 ∉ tl w ∧ (tl w).length ≤ 16
def isL (c : Nat) : Bool := (decide (65 ≤ c) && decide (c ≤ 90)) || (decide (97 ≤ c) && decide (c ≤ 122))
def isD (c : Nat) : Bool := decide (48 ≤ c) && decide (c ≤ 57)
def NameOk (w : Str) : Prop := ∃ c r, tl w = c :: r ∧ isL c = true ∧ (∀ x ∈ r, (isL x || isD x) = true) ∧ r.length ≤ 14
theorem isL_lt {c : Nat} (h : isL c = true) : 65 ≤ c ∧ c ≤ 122 := by
  unfold isL at h
  simp only [Bool.or_eq_true, Bool.and_eq_true, decide_eq_true_eq] at h
  omega
theorem isD_lt {c : Nat} (h : isD c = true) : 48 ≤ c ∧ c ≤ 57 := by
  unfold isD at h
  simp only [Bool.and_eq_true, decide_eq_true_eq] at h
  omega
theorem sign_lt {c : Nat} (h : (isL c || isD c) = true) : 48 ≤ c ∧ c ≤ 122 := by
  rcases Bool.or_eq_true _ _ ▸ h with h | h
  · have := isL_lt h; omega
  · have := isD_lt h; omega
theorem NameOk.signs {w : Str} (h : NameOk w) : ∀ c ∈ tl w, (isL c || isD c) = true := by
  obtain ⟨c, r, e, hc, hr, _⟩ := h
  intro x hx
  rw [e] at hx
  rcases List.mem_cons.mp hx with rfl | hx
  · rw [hc]; rfl
  · exact hr x hx
theorem NameOk.wd {w : Str} (h : NameOk w) : WdOk w := by
  have hs := h.signs
  obtain ⟨c, r, e, hc, hr, hl⟩ := h
  refine ⟨by rw [e]; exact List.cons_ne_nil _ _, fun z => ?_, fun z => ?_, by rw [e, List.length_cons]; omega⟩
  · have := sign_lt (hs _ z); omega
  · have := sign_lt (hs _ z); omega
theorem num_nat {n : Int} (h : 0 ≤ n) : tl (num n) = TL.numL n.toNat := by
  have e : n = ((n.toNat : Nat) : Int) := by omega
  unfold num
  rw [e]
  exact TL.tl_num _
theorem numL_len7 {n : Nat} (h : n < 10000000) : (TL.numL n).length ≤ 7 := TL.numL_len (k := 7) (by decide) (by omega)
theorem num_wd {n : Int} (h0 : 0 ≤ n) (h1 : n < 10000000) : WdOk (num n) := by
  refine ⟨?_, ?_, ?_, ?_⟩
  · rw [num_nat h0]; exact TL.numL_ne _
  · rw [num_nat h0]; exact TL.numL_free (by omega)
  · rw [num_nat h0]; exact TL.numL_free (by omega)
  · rw [num_nat h0]; exact Nat.le_trans (numL_len7 (by omega)) (by decide)
/-- 0, or no 0 ahead -/
theorem numL_head {n : Nat} : ∀ r, TL.numL n = 48 :: r → n = 0 := by
  induction n using Nat.strongRecOn with
  | _ n ih =>
    intro r h
    by_cases c : n < 10
    · rw [TL.numL_lt c] at h
      have := (List.cons.inj h).1
      omega
    · rw [TL.numL_step (by omega)] at h
      cases q : TL.numL (n / 10) with
      | nil => exact absurd q (TL.numL_ne _)
      | cons a b =>
        rw [q] at h
        have e := (List.cons.inj h).1
        have := ih (n / 10) (by omega) b (by rw [q, e])
        omega
theorem num_inj {m n : Int} (hm : 0 ≤ m) (hn : 0 ≤ n) (h : num m = num n) : m = n := by
  have e : tl (num m) = tl (num n) := congrArg tl h
  rw [num_nat hm, num_nat hn] at e
  have := TL.numL_inj e
  omega
def sp : Str := Str.ofString " "
def nl : Str := Str.ofString "\n"
theorem tl_sp : tl sp = [32] := by decide +kernel
theorem tl_nl : tl nl = [10] := by decide +kernel
def row (ws : List Str) : Str := Str.join sp ws
theorem joinL_free {c : Nat} {S : List Nat} (hS : c ∉ S) : ∀ ps : List (List Nat), (∀ p ∈ ps, c ∉ p) → c ∉ TL.joinL S ps
  | [], _ => List.not_mem_nil
  | [p], h => h p List.mem_cons_self
  | p :: q :: r, h => by
    show c ∉ p ++ (S ++ TL.joinL S (q :: r))
    have ih := joinL_free hS (q :: r) fun x hx => h x (List.mem_cons_of_mem _ hx)
    intro z
    rcases List.mem_append.mp z with z | z
    · exact h p List.mem_cons_self z
    · rcases List.mem_append.mp z with z | z
      · exact hS z
      · exact ih z
theorem joinL_len {m : Nat} {S : List Nat} : ∀ ps : List (List Nat), (∀ p ∈ ps, p.length ≤ m) → (TL.joinL S ps).length ≤ ps.length * (m + S.length)
  | [], _ => Nat.zero_le _
  | [p], h => by
    have := h p List.mem_cons_self
    show p.length ≤ 1 * (m + S.length)
    omega
  | p :: q :: r, h => by
    have ih := joinL_len (S := S) (q :: r) fun x hx => h x (List.mem_cons_of_mem _ hx)
    have h1 := h p List.mem_cons_self
    show (p ++ (S ++ TL.joinL S (q :: r))).length ≤ ((q :: r).length + 1) * (m + S.length)
    rw [List.length_append, List.length_append, Nat.add_mul]
    omega
theorem row_free {ws : List Str} (h : ∀ w ∈ ws, WdOk w) : 10 ∉ tl (row ws) := by
  unfold row
  rw [show tl (Str.join sp ws) = TL.joinL (tl sp) (ws.map tl) from TL.tl_join sp ws]
  refine joinL_free (by rw [tl_sp]; decide) _ fun p hp => ?_
  obtain ⟨w, hw, rfl⟩ := List.mem_map.mp hp
  exact (h w hw).2.2.1
theorem row_len {ws : List Str} (h : ∀ w ∈ ws, WdOk w) : (row ws).length ≤ ws.length * 17 := by
  rw [TL.len_tl]
  unfold row
  rw [show TL.tl (Str.join sp ws) = TL.joinL (tl sp) (ws.map tl) from TL.tl_join sp ws]
  have := joinL_len (m := 16) (S := tl sp) (ws.map tl) fun p hp => by
    obtain ⟨w, hw, rfl⟩ := List.mem_map.mp hp
    exact (h w hw).2.2.2
  rw [List.length_map, tl_sp] at this
  rw [tl_sp]
  exact this
theorem row_split {ws : List Str} (hn : ws ≠ []) (h : ∀ w ∈ ws, WdOk w) : Txt.split (row ws) sp = ws := by
  have e := TL.split_join (y := sp) (s := 32) (S := []) tl_sp (by decide +kernel) hn (fun p hp => (h p hp).2.1)
  rw [TL.join_eq] at e
  exact e
/-- the text of rows, each with its newline -/
def glue (rows : List Str) : Str := Str.join nl (rows ++ [Str.empty])
theorem glue_split {rows : List Str} (h : ∀ r ∈ rows, 10 ∉ tl r) : Txt.split (glue rows) nl = rows ++ [Str.empty] := by
  have e := TL.split_join (y := nl) (s := 10) (S := []) tl_nl (by decide +kernel) (parts := rows ++ [Str.empty]) (by simp) (fun p hp => by
    rcases List.mem_append.mp hp with hp | hp
    · exact h p hp
    · rw [List.mem_singleton.mp hp]
      exact List.not_mem_nil)
  rw [TL.join_eq] at e
  exact e
theorem glue_tl : ∀ rows : List Str, tl (glue rows) = (rows.map fun r => tl r ++ [10]).flatten
  | [] => rfl
  | [r] => by
    show tl (r ++ nl ++ Str.empty) = tl r ++ [10] ++ []
    rw [show tl (r ++ nl ++ Str.empty) = tl (r ++ nl) ++ tl Str.empty from TL.tl_append _ _, show tl (r ++ nl) = tl r ++ tl nl from TL.tl_append _ _, tl_nl]
    rfl
  | r :: q :: z => by
    have ih := glue_tl (q :: z)
    show tl (r ++ nl ++ Str.join nl ((q :: z) ++ [Str.empty])) = tl r ++ [10] ++ ((q :: z).map fun r => tl r ++ [10]).flatten
    rw [show tl (r ++ nl ++ Str.join nl ((q :: z) ++ [Str.empty])) = tl (r ++ nl) ++ tl (Str.join nl ((q :: z) ++ [Str.empty])) from TL.tl_append _ _, show tl (r ++ nl) = tl r ++ tl nl from TL.tl_append _ _, tl_nl, ← ih]
    rfl
/-- the law's own making of it: no separator, each row with its newline -/
theorem join_nl (rows : List Str) : Txt.join Str.empty (rows.map fun r => r ++ nl) = glue rows := by
  refine TL.ext_tl ?_
  show tl _ = tl _
  rw [glue_tl, TL.join_eq]
  rw [show tl (Str.join Str.empty (rows.map fun r => r ++ nl)) = TL.joinL (tl Str.empty) ((rows.map fun r => r ++ nl).map tl) from TL.tl_join _ _]
  rw [List.map_map]
  have e : (tl ∘ fun r : Str => r ++ nl) = fun r => tl r ++ [10] := by
    funext r
    show tl (r ++ nl) = _
    rw [show tl (r ++ nl) = tl r ++ tl nl from TL.tl_append _ _, tl_nl]
  rw [e]
  generalize (rows.map fun r => tl r ++ [10]) = ls
  have flat : ∀ ls : List (List Nat), TL.joinL (tl Str.empty) ls = ls.flatten := by
    intro ls
    induction ls with
    | nil => rfl
    | cons a r ih =>
      cases r with
      | nil =>
        show a = a ++ []
        rw [List.append_nil]
      | cons b t =>
        show a ++ ([] ++ TL.joinL (tl Str.empty) (b :: t)) = a ++ (b :: t).flatten
        rw [List.nil_append, ih]
  exact flat ls
theorem glue_len {rows : List Str} {m : Nat} (h : ∀ r ∈ rows, r.length ≤ m) : (glue rows).length ≤ (rows.length + 1) * (m + 1) := by
  rw [TL.len_tl]
  unfold glue
  rw [show TL.tl (Str.join nl (rows ++ [Str.empty])) = TL.joinL (tl nl) ((rows ++ [Str.empty]).map tl) from TL.tl_join _ _]
  have := joinL_len (m := m) (S := tl nl) ((rows ++ [Str.empty]).map tl) fun p hp => by
    obtain ⟨w, hw, rfl⟩ := List.mem_map.mp hp
    rcases List.mem_append.mp hw with hw | hw
    · have := h w hw
      rw [TL.len_tl] at this
      exact this
    · rw [List.mem_singleton.mp hw]
      exact Nat.zero_le _
  rw [List.length_map, List.length_append, tl_nl] at this
  rw [tl_nl]
  exact this

/-! ### worlds -/
structure SatD where
  name : Str
  store : Int
  battery : Int
  level : Int
  reserve : Int
  charge : Int
  settle : Int
  light : List (Int × Int)
structure StaD where
  name : Str
  antennas : Int
  turn : Int
structure RecD where
  name : Str
  sat : Nat
  earliest : Int
  latest : Int
  length : Int
  size : Int
  energy : Int
  worth : Int
  rank : Int
  deadline : Int
structure PasD where
  name : Str
  sat : Nat
  sta : Nat
  first : Int
  fin : Int
  room : Int
  energy : Int
  fee : Int
structure WorldD where
  horizon : Int
  sats : List SatD
  stas : List StaD
  recs : List RecD
  pass : List PasD
def lightW : List (Int × Int) → List Str
  | [] => []
  | q :: r => num q.1 :: num q.2 :: lightW r
def wHor (h : Int) : List Str := [Str.ofString "horizon", num h]
def wSat (s : SatD) : List Str := [Str.ofString "satellite", s.name, Str.ofString "store", num s.store, Str.ofString "battery", num s.battery, Str.ofString "level", num s.level,
  Str.ofString "reserve", num s.reserve, Str.ofString "charge", num s.charge, Str.ofString "settle", num s.settle, Str.ofString "light"] ++ lightW s.light
def wSta (s : StaD) : List Str := [Str.ofString "station", s.name, Str.ofString "antennas", num s.antennas, Str.ofString "turn", num s.turn]
def satN (W : WorldD) (i : Nat) : Str := ((W.sats.map (·.name))[i]?).getD Str.empty
def staN (W : WorldD) (i : Nat) : Str := ((W.stas.map (·.name))[i]?).getD Str.empty
def wRec (W : WorldD) (r : RecD) : List Str := [Str.ofString "recording", r.name, Str.ofString "by", satN W r.sat, Str.ofString "from", num r.earliest, Str.ofString "to", num r.latest,
  Str.ofString "length", num r.length, Str.ofString "size", num r.size, Str.ofString "energy", num r.energy, Str.ofString "worth", num r.worth, Str.ofString "rank", num r.rank, Str.ofString "until", num r.deadline]
def wPas (W : WorldD) (p : PasD) : List Str := [Str.ofString "pass", p.name, Str.ofString "by", satN W p.sat, Str.ofString "over", staN W p.sta, Str.ofString "from", num p.first, Str.ofString "to", num p.fin,
  Str.ofString "room", num p.room, Str.ofString "energy", num p.energy, Str.ofString "fee", num p.fee]
def linesW (W : WorldD) : List (List Str) := wHor W.horizon :: (W.sats.map wSat ++ W.stas.map wSta ++ W.recs.map (wRec W) ++ W.pass.map (wPas W))
def textW (W : WorldD) : Str := glue ((linesW W).map row)
def LightOk : Int → Int → List (Int × Int) → Prop
  | _, _, [] => True
  | least, h, q :: r => least ≤ q.1 ∧ q.1 + 1 ≤ q.2 ∧ q.2 ≤ h ∧ LightOk q.2 h r
structure SatOk (h : Int) (s : SatD) : Prop where
  name : NameOk s.name
  store : 0 ≤ s.store ∧ s.store ≤ 1000000
  battery : 0 ≤ s.battery ∧ s.battery ≤ 1000000
  level : 0 ≤ s.level ∧ s.level ≤ s.battery
  reserve : 0 ≤ s.reserve ∧ s.reserve ≤ s.level
  charge : 0 ≤ s.charge ∧ s.charge ≤ 1000
  settle : 0 ≤ s.settle ∧ s.settle ≤ 60
  light : LightOk 0 h s.light
structure StaOk (s : StaD) : Prop where
  name : NameOk s.name
  antennas : 1 ≤ s.antennas ∧ s.antennas ≤ 3
  turn : 0 ≤ s.turn ∧ s.turn ≤ 60
structure RecOk (W : WorldD) (r : RecD) : Prop where
  name : NameOk r.name
  sat : r.sat < W.sats.length
  earliest : 0 ≤ r.earliest ∧ r.earliest ≤ W.horizon - 1
  latest : r.earliest ≤ r.latest ∧ r.latest ≤ r.earliest + 20 ∧ r.latest ≤ W.horizon - 1
  length : 1 ≤ r.length ∧ r.length ≤ W.horizon - r.latest
  size : 0 ≤ r.size ∧ r.size ≤ 1000000
  energy : 0 ≤ r.energy ∧ r.energy ≤ 1000000
  worth : 1 ≤ r.worth ∧ r.worth ≤ 1000
  rank : 1 ≤ r.rank ∧ r.rank ≤ 3
  deadline : 0 ≤ r.deadline ∧ r.deadline ≤ W.horizon
structure PasOk (W : WorldD) (p : PasD) : Prop where
  name : NameOk p.name
  sat : p.sat < W.sats.length
  sta : p.sta < W.stas.length
  first : 0 ≤ p.first ∧ p.first ≤ W.horizon - 1
  fin : p.first + 1 ≤ p.fin ∧ p.fin ≤ W.horizon
  room : 0 ≤ p.room ∧ p.room ≤ 1000000
  energy : 0 ≤ p.energy ∧ p.energy ≤ 1000000
  fee : 0 ≤ p.fee ∧ p.fee ≤ 1000
structure WorldOk (W : WorldD) : Prop where
  horizon : 1 ≤ W.horizon ∧ W.horizon ≤ 500
  nSats : W.sats.length ≤ 3
  nStas : W.stas.length ≤ 3
  nRecs : W.recs.length ≤ 10
  nPass : W.pass.length ≤ 10
  dSats : (W.sats.map (·.name)).Nodup
  dStas : (W.stas.map (·.name)).Nodup
  dRecs : (W.recs.map (·.name)).Nodup
  dPass : (W.pass.map (·.name)).Nodup
  sats : ∀ s ∈ W.sats, SatOk W.horizon s
  stas : ∀ s ∈ W.stas, StaOk s
  recs : ∀ r ∈ W.recs, RecOk W r
  pass : ∀ p ∈ W.pass, PasOk W p
theorem LightOk.len {h : Int} : ∀ {l : List (Int × Int)} {least : Int}, LightOk least h l → least ≤ h → (l.length : Int) ≤ h - least
  | [], least, _, hl => by show (0 : Int) ≤ h - least; omega
  | q :: r, least, ⟨h1, h2, h3, h4⟩, hl => by
    have := h4.len h3
    rw [List.length_cons]
    omega
theorem LightOk.wd {h : Int} (hh : h ≤ 500) : ∀ {l : List (Int × Int)} {least : Int}, 0 ≤ least → LightOk least h l → ∀ w ∈ lightW l, WdOk w
  | [], _, _, _, w, hw => absurd hw List.not_mem_nil
  | q :: r, least, h0, ⟨h1, h2, h3, h4⟩, w, hw => by
    rcases List.mem_cons.mp hw with rfl | hw
    · exact num_wd (by omega) (by omega)
    · rcases List.mem_cons.mp hw with rfl | hw
      · exact num_wd (by omega) (by omega)
      · exact h4.wd hh (by omega) w hw
theorem lightW_len : ∀ l : List (Int × Int), (lightW l).length = 2 * l.length
  | [] => rfl
  | q :: r => by
    show (lightW r).length + 1 + 1 = 2 * (r.length + 1)
    rw [lightW_len r]
    omega
theorem wdc {w : Str} (h : tl w ≠ [] ∧ 32 ∉ tl w ∧ 10 ∉ tl w ∧ (tl w).length ≤ 16) : WdOk w := h
theorem satN_at {W : WorldD} {i : Nat} (h : i < W.sats.length) : (W.sats.map (·.name))[i]? = some (satN W i) := by
  unfold satN
  rw [List.getElem?_eq_getElem (by rw [List.length_map]; exact h)]
  rfl
theorem staN_at {W : WorldD} {i : Nat} (h : i < W.stas.length) : (W.stas.map (·.name))[i]? = some (staN W i) := by
  unfold staN
  rw [List.getElem?_eq_getElem (by rw [List.length_map]; exact h)]
  rfl
theorem satN_ok {W : WorldD} (w : WorldOk W) {i : Nat} (h : i < W.sats.length) : NameOk (satN W i) := by
  obtain ⟨s, hs, e⟩ := List.mem_map.mp (List.mem_of_getElem? (satN_at h))
  rw [← e]
  exact (w.sats s hs).name
theorem staN_ok {W : WorldD} (w : WorldOk W) {i : Nat} (h : i < W.stas.length) : NameOk (staN W i) := by
  obtain ⟨s, hs, e⟩ := List.mem_map.mp (List.mem_of_getElem? (staN_at h))
  rw [← e]
  exact (w.stas s hs).name
/-- all of a list, one by one -/
theorem all_cons {P : Str → Prop} {a : Str} {l : List Str} (h : P a) (t : ∀ w ∈ l, P w) : ∀ w ∈ a :: l, P w := fun w hw => by
  rcases List.mem_cons.mp hw with rfl | hw
  · exact h
  · exact t w hw
theorem all_nil {P : Str → Prop} : ∀ w ∈ ([] : List Str), P w := fun w hw => absurd hw List.not_mem_nil
theorem all_app {P : Str → Prop} {a b : List Str} (h : ∀ w ∈ a, P w) (t : ∀ w ∈ b, P w) : ∀ w ∈ a ++ b, P w := fun w hw => (List.mem_append.mp hw).elim (h w) (t w)
theorem wHor_wd {W : WorldD} (w : WorldOk W) : ∀ x ∈ wHor W.horizon, WdOk x :=
  all_cons (by unfold WdOk; decide +kernel) (all_cons (num_wd (by have := w.horizon; omega) (by have := w.horizon; omega)) all_nil)
theorem wSat_wd {h : Int} (hh : h ≤ 500) {s : SatD} (w : SatOk h s) : ∀ x ∈ wSat s, WdOk x := by
  have h1 := w.store; have h2 := w.battery; have h3 := w.level; have h4 := w.reserve; have h5 := w.charge; have h6 := w.settle
  exact all_app (all_cons (by unfold WdOk; decide +kernel) (all_cons w.name.wd (all_cons (by unfold WdOk; decide +kernel) (all_cons (num_wd (by omega) (by omega)) (all_cons (by unfold WdOk; decide +kernel) (all_cons (num_wd (by omega) (by omega))
    (all_cons (by unfold WdOk; decide +kernel) (all_cons (num_wd (by omega) (by omega)) (all_cons (by unfold WdOk; decide +kernel) (all_cons (num_wd (by omega) (by omega)) (all_cons (by unfold WdOk; decide +kernel) (all_cons (num_wd (by omega) (by omega))
    (all_cons (by unfold WdOk; decide +kernel) (all_cons (num_wd (by omega) (by omega)) (all_cons (by unfold WdOk; decide +kernel) all_nil))))))))))))))) (w.light.wd hh (Int.le_refl 0))
theorem wSta_wd {s : StaD} (w : StaOk s) : ∀ x ∈ wSta s, WdOk x := by
  have h1 := w.antennas; have h2 := w.turn
  exact all_cons (by unfold WdOk; decide +kernel) (all_cons w.name.wd (all_cons (by unfold WdOk; decide +kernel) (all_cons (num_wd (by omega) (by omega)) (all_cons (by unfold WdOk; decide +kernel) (all_cons (num_wd (by omega) (by omega)) all_nil)))))
theorem wRec_wd {W : WorldD} (w : WorldOk W) {r : RecD} (k : RecOk W r) : ∀ x ∈ wRec W r, WdOk x := by
  have h0 := w.horizon; have h1 := k.earliest; have h2 := k.latest; have h3 := k.length; have h4 := k.size; have h5 := k.energy; have h6 := k.worth; have h7 := k.rank; have h8 := k.deadline
  exact all_cons (by unfold WdOk; decide +kernel) (all_cons k.name.wd (all_cons (by unfold WdOk; decide +kernel) (all_cons (satN_ok w k.sat).wd
    (all_cons (by unfold WdOk; decide +kernel) (all_cons (num_wd (by omega) (by omega)) (all_cons (by unfold WdOk; decide +kernel) (all_cons (num_wd (by omega) (by omega)) (all_cons (by unfold WdOk; decide +kernel) (all_cons (num_wd (by omega) (by omega))
    (all_cons (by unfold WdOk; decide +kernel) (all_cons (num_wd (by omega) (by omega)) (all_cons (by unfold WdOk; decide +kernel) (all_cons (num_wd (by omega) (by omega)) (all_cons (by unfold WdOk; decide +kernel) (all_cons (num_wd (by omega) (by omega))
    (all_cons (by unfold WdOk; decide +kernel) (all_cons (num_wd (by omega) (by omega)) (all_cons (by unfold WdOk; decide +kernel) (all_cons (num_wd (by omega) (by omega)) all_nil)))))))))))))))))))
theorem wPas_wd {W : WorldD} (w : WorldOk W) {p : PasD} (k : PasOk W p) : ∀ x ∈ wPas W p, WdOk x := by
  have h0 := w.horizon; have h1 := k.first; have h2 := k.fin; have h3 := k.room; have h4 := k.energy; have h5 := k.fee
  exact all_cons (by unfold WdOk; decide +kernel) (all_cons k.name.wd (all_cons (by unfold WdOk; decide +kernel) (all_cons (satN_ok w k.sat).wd (all_cons (by unfold WdOk; decide +kernel) (all_cons (staN_ok w k.sta).wd
    (all_cons (by unfold WdOk; decide +kernel) (all_cons (num_wd (by omega) (by omega)) (all_cons (by unfold WdOk; decide +kernel) (all_cons (num_wd (by omega) (by omega)) (all_cons (by unfold WdOk; decide +kernel) (all_cons (num_wd (by omega) (by omega))
    (all_cons (by unfold WdOk; decide +kernel) (all_cons (num_wd (by omega) (by omega)) (all_cons (by unfold WdOk; decide +kernel) (all_cons (num_wd (by omega) (by omega)) all_nil)))))))))))))))
theorem linesW_ok {W : WorldD} (w : WorldOk W) : ∀ l ∈ linesW W, l ≠ [] ∧ (∀ x ∈ l, WdOk x) ∧ l.length ≤ 1015 := by
  intro l hl
  unfold linesW at hl
  rcases List.mem_cons.mp hl with rfl | hl
  · exact ⟨List.cons_ne_nil _ _, wHor_wd w, by show 2 ≤ 1015; decide⟩
  rcases List.mem_append.mp hl with hl | hl
  · rcases List.mem_append.mp hl with hl | hl
    · rcases List.mem_append.mp hl with hl | hl
      · obtain ⟨s, hs, rfl⟩ := List.mem_map.mp hl
        have k := w.sats s hs
        refine ⟨List.cons_ne_nil _ _, wSat_wd w.horizon.2 k, ?_⟩
        have h1 := k.light.len (by have := w.horizon; omega)
        have h2 := w.horizon
        have h3 := lightW_len s.light
        have h4 : (wSat s).length = 15 + (lightW s.light).length := by
          unfold wSat
          rw [List.length_append]
          rfl
        omega
      · obtain ⟨s, hs, rfl⟩ := List.mem_map.mp hl
        exact ⟨List.cons_ne_nil _ _, wSta_wd (w.stas s hs), by show 6 ≤ 1015; decide⟩
    · obtain ⟨s, hs, rfl⟩ := List.mem_map.mp hl
      exact ⟨List.cons_ne_nil _ _, wRec_wd w (w.recs s hs), by show 20 ≤ 1015; decide⟩
  · obtain ⟨s, hs, rfl⟩ := List.mem_map.mp hl
    exact ⟨List.cons_ne_nil _ _, wPas_wd w (w.pass s hs), by show 16 ≤ 1015; decide⟩
theorem linesW_len {W : WorldD} (w : WorldOk W) : (linesW W).length ≤ 27 := by
  have h1 := w.nSats; have h2 := w.nStas; have h3 := w.nRecs; have h4 := w.nPass
  unfold linesW
  rw [List.length_cons, List.length_append, List.length_append, List.length_append, List.length_map, List.length_map, List.length_map, List.length_map]
  omega
theorem textW_split {W : WorldD} (w : WorldOk W) : Txt.split (textW W) nl = (linesW W).map row ++ [Str.empty] := glue_split fun r hr => by
  obtain ⟨l, hl, rfl⟩ := List.mem_map.mp hr
  exact row_free (linesW_ok w l hl).2.1
theorem textW_len {W : WorldD} (w : WorldOk W) : (textW W).length ≤ 1000000 := by
  have h1 := glue_len (rows := (linesW W).map row) (m := 17255) fun r hr => by
    obtain ⟨l, hl, rfl⟩ := List.mem_map.mp hr
    have h2 := row_len (linesW_ok w l hl).2.1
    have h3 := (linesW_ok w l hl).2.2
    omega
  have h2 := linesW_len w
  rw [List.length_map] at h1
  have h3 : ((linesW W).length + 1) * (17255 + 1) ≤ 28 * 17256 := Nat.mul_le_mul_right _ (by omega)
  show (glue _).length ≤ _
  omega
end DP
/-! two rules of our own: enumerate(xs, start=k) walked; a staticmethod called through its class -/
namespace DP
open PySem PySem.Spec PyProof.Rows L2
/-- the list at a as it stands at each turn, each item in a new pair with the count from k on -/
def IteS (K : PySem.W.Frag) (a : Addr) (k : Int) : It :=
  ⟨fun i H => ∃ (xs : List V) (x : V), SqL K H a xs ∧ xs[i]? = some x,
   fun i H v H' => ∃ T x, v = .ref T ∧ H T = none ∧ H' = upd H T (.tup [.int (k + (i : Nat)), x]) ∧ ∀ xs, SqL K H a xs → xs[i]? = some x,
   fun i H => ∃ xs : List V, SqL K H a xs ∧ xs.length ≤ i⟩
theorem list_not_iter {h : Heap} {a it : Addr} {its : Array Value} {i : Nat} (l : h.IsList a its) (r : h.IsListIter it a i) : a ≠ it := fun z => by
  obtain ⟨o, ho, hc, _⟩ := l
  obtain ⟨o', ho', hc', _⟩ := r
  rw [z, ho'] at ho
  cases ho
  rw [hc] at hc'
  exact absurd hc' (by decide)
theorem turn_enumS {P : Program} {w : World} {K : PySem.W.Frag} {elts : List Expr} {kk : Nat} {tpos : Pos} (a en it : Addr) (k : Int) :
    Turn P w K (.Tuple elts kk tpos) (IteS K a k) [en, it] en (fun i h => (∃ old, IsEnum h en it (k + ((i : Nat) : Int)) old) ∧ h.IsListIter it a i ∧ en ≠ it) where
  mem := by simp
  obj := fun i h st b hb => by
    obtain ⟨⟨old, hen⟩, ⟨o, ho, hc, hd⟩, _⟩ := st
    have two : b = en ∨ b = it := by simpa using hb
    rcases two with z | z
    · subst z
      exact ⟨_, hen, fun v q => nomatch q⟩
    · subst z
      exact ⟨o, ho, fun v q => by rw [hd] at q; cases q⟩
  keep := fun i h h' st kp => by
    obtain ⟨⟨old, hen⟩, hi, hne⟩ := st
    exact ⟨⟨old, kp en (by simp) _ hen⟩, hi.at fun o q => kp it (by simp) o q, hne⟩
  item := by
    intro X hP hw hK hc i pins s σ H E I hf st hg
    subst hP hw hK
    obtain ⟨⟨old, hen⟩, hit, hne⟩ := st
    obtain ⟨xs, x, hq, hx⟩ := hg
    obtain ⟨its, rv, pl, hz⟩ := I.list hq
    obtain ⟨u, hu, ru⟩ := rv.get hx
    have en_lt : en < s.heap.objs.size := Heap.lt_size hen
    have it_lt : it < s.heap.objs.size := by
      obtain ⟨_, q, _⟩ := hit
      exact Heap.lt_size q
    have nel := list_not_iter pl.isList hit
    have Dr := Draws.list (prog := X.prog) (w := X.w) (A := X.A.in1) (I.ok.hd hc) it a nel its.toArray
    have hi : i < its.toArray.size := by
      have := (List.getElem?_eq_some_iff.mp hu).1
      simpa using this
    by_cases ea : en = a
    · exfalso
      obtain ⟨o, ho, hc', _⟩ := pl.isList
      rw [← ea, hen] at ho
      cases ho
      have e : Value.type "enumerate" = Value.type "list" := hc'
      exact absurd e (by decide)
    refine wpAny_pyNext_enum_itemC Dr hen ⟨hit, pl.isList⟩ hi hne (by simp [hne, ea]) fun x' h' tk hP ho hit' hT hsz hk => ?_
    have ex : x' = u := by
      have e1 : its.toArray[i]? = some x' := hP
      have e2 : its.toArray[i]? = some u := by simpa using hu
      exact Option.some.inj (e1.symm.trans e2)
    subst ex
    refine ⟨_, rfl, wpAny_letOwnedTupleGo_enum (s := { s with heap := h', toks := tk + 1 }) ho fun h2 hen2 sb => ?_⟩
    have hT2 : h2.get? s.heap.objs.size = some { cls := .type "tuple", data := .seq #[.int (k + (i : Int)) tk, x'] } :=
      (sb.2 _ (Nat.ne_of_gt en_lt)).trans hT
    have fresh : H s.heap.objs.size = none := I.hok.fresh (Nat.le_refl _)
    have new : ObjOk X.prog X.w (upd H s.heap.objs.size (.tup [.int (k + (i : Nat)), x])) h2 s.heap.objs.size (.tup [.int (k + (i : Nat)), x]) :=
      ⟨(by show 2 ≤ sizeLine; decide), [.int (k + (i : Int)) tk, x'], .cons ⟨_, rfl⟩ (.cons ru .nil), ⟨_, hT2, rfl, _, rfl⟩⟩
    have keepAll : ∀ b ob, b ∉ [en, it] → s.heap.get? b = some ob → h2.get? b = some ob := fun b ob hb q => by
      have n1 : b ≠ en := fun z => hb (by simp [z])
      have n2 : b ≠ it := fun z => hb (by simp [z])
      exact (sb.2 b n1).trans (hk b ob n1 n2 q)
    have I1 := I.turnedNew (t' := tk + 1) (ch := [en, it]) keepAll hf (Nat.le_refl _) new
    refine ⟨.ref s.heap.objs.size, _, I1, rfl, ⟨_, x, rfl, fresh, rfl, fun ys hy => ?_⟩, ⟨⟨x', ?_⟩, ?_, hne⟩, fun b hb => ?_⟩
    · rw [I.list_inj hy hq]
      exact hx
    · have e1 : k + ((i + 1 : Nat) : Int) = k + (i : Int) + 1 := by omega
      rw [e1]
      exact hen2
    · exact hit'.1.at fun o q => (sb.2 it (Ne.symm hne)).trans q
    · have hb' : b < s.heap.objs.size := by
        have two : b = en ∨ b = it := by simpa using hb
        rcases two with z | z
        · rw [z]; exact en_lt
        · rw [z]; exact it_lt
      rw [upd_ne (Nat.ne_of_lt hb')]
      exact (hf b hb).1
  done := by
    intro X hP hw hK hc i pins s σ H E I hf st hg
    subst hP hw hK
    obtain ⟨⟨old, hen⟩, hit, hne⟩ := st
    obtain ⟨xs, hq, hx⟩ := hg
    obtain ⟨its, rv, pl, hz⟩ := I.list hq
    have hl := rv.length
    obtain ⟨f0, f1, f2, f3, f4, f5⟩ := hf it (by simp)
    have hT : s.TypeIs (.ref en) "enumerate" := ⟨_, hen, rfl⟩
    unfold pyNext
    refine wpAny_bind (wpAny_attempt (wpAny_callSpecial?_slot (name := Str.ofString "__next__") hT F.slot_enumerate_next
      (wpAny_call_entry F.slot_enumerate_next hT F.entry_enumerate_next ?_
        (F.args_enumerate_next_1 _))))
    show wpAny _ _ (field (.ref en) 2 >>= _) _ _ _
    refine wpAny_bind (wpAny_field hen rfl (x := .ref it) rfl ?_)
    refine wpAny_bind (wpAny_nextOf_list_end (I.ok.hd hc) hit pl.isList (by simp; omega) fun h' e eb hcl => ?_)
    obtain ⟨o, ho, hcs⟩ := hcl
    refine wpAny_bind (wpAny_isInstance (T := "StopIteration") (b := true) ⟨o, ho, hcs⟩ isSubtype_stop ?_)
    exact wpAny_pure ⟨rfl, I.turned (t' := s.toks) (fun b o hb q => eb b o hb q) f0 f1 f3 f4 f5⟩
  self := fun A i s Q E st h => let ⟨⟨_, hen⟩, _⟩ := st; wpAny_pyIter_enum hen h
/-- enumerate(xs, start=k), walked into a written tuple of names -/
def iEnumS (K : PySem.W.Frag) (ta tk : TA) : TI := fun σ H R => ta σ H fun vs H1 => tk σ H1 fun zs H2 =>
  ∃ a xs k, vs = [.ref a] ∧ zs = [.int k] ∧ SqL K H2 a xs ∧ -(2 ^ 63) ≤ k ∧ k < 2 ^ 63 ∧ R (IteS K a k) H2
theorem pi_enumS {X : Cx} {e ke : Expr} {ta tk : TA} {p pos tpos kp : Pos} {elts : List Expr} {kk : Nat} (hg : Gl X "enumerate") (hm : X.mg "enumerate" = none) (ha : PA X [e] ta) (hk : PK X [⟨some "start", ke, kp⟩] tk)
    (hs : starEach [e] X.env = (false, eval e X.env) :: starEach [] X.env := by rfl) (hpl : ((backTo pos (starEach [e] X.env)).any (·.1) || (backToKw pos (keywordEach [⟨some "start", ke, kp⟩] X.env)).any (·.1.isNone)) = false := by rfl) :
    PI X (.Tuple elts kk tpos) (.Call (.Name "enumerate" p) [e] [⟨some "start", ke, kp⟩] pos) (iEnumS X.K ta tk) := by
  refine ⟨fun pins s σ H R I h => ?_⟩
  refine wpAny_Call_Name_kw (ld_blt I hg hm boot_enumerate ?_)
  refine PySem.W.callWith_of (P := fun _ => True) hpl (fun h _ => ⟨.machine, .inr (.inl rfl), PySem.W.Looks.of_pure rfl⟩) (evalArgs_kw2 (by rfl)
    (thn (ha.run pos pins s σ H _ I h) fun us s1 ⟨vs, H1, I1, r1, q1⟩ => thn (hk.run pos pins s1 σ H1 _ I1 q1) fun ws s2 ⟨zs, H2, I2, r2, q2⟩ => ⟨True.intro, ?_⟩) hs)
  obtain ⟨a, xs, k, ex, ez, hq, b1, b2, q⟩ := q2
  subst ex ez
  obtain ⟨u, eu, ru⟩ := vals1 r1
  obtain ⟨z, ez, rz⟩ := vals1 r2
  subst eu ez
  cases ru
  obtain ⟨t, et⟩ := (show ∃ t, z = Value.int k t from rz)
  subst et
  obtain ⟨its, rv, pl, hz⟩ := I2.list hq
  show wpAny _ _ (call (.type "enumerate") [.ref a] [(Str.ofString "start", .int k t)]) _ _ _
  refine enum_begins_start (begins_list a its.toArray) pl.isList b1 b2 fun h' hen hit hsz hkp => wpAny_pyIter_enum hen ?_
  have I3 : Inv X pins σ H2 { s2 with heap := h' } := I2.kept (t' := s2.toks) hkp
  refine ⟨s2.heap.objs.size + 1, [s2.heap.objs.size + 1, s2.heap.objs.size], _, _, H2, rfl, I3, turn_enumS a (s2.heap.objs.size + 1) s2.heap.objs.size k,
    ⟨⟨.none, ?_⟩, ⟨_, hit, rfl, rfl⟩, Nat.succ_ne_self _⟩, fun b hb => ?_, q⟩
  · show IsEnum h' _ _ (k + 0) _
    rw [Int.add_zero]
    exact hen
  · have two : b = s2.heap.objs.size + 1 ∨ b = s2.heap.objs.size := by simpa using hb
    have hle : s2.heap.objs.size ≤ b := by
      rcases two with z | z
      · rw [z]; exact Nat.le_add_right _ 1
      · rw [z]; exact Nat.le_refl _
    exact I2.fpOk hle (I2.hok.fresh hle)
theorem walk_enumS {K : PySem.W.Frag} {a : Addr} {k : Int} {xs : List V} :
    Walk (IteS K a k) xs.length (fun H => SqL K H a xs) (fun i H v H' => ∃ T x, v = .ref T ∧ H T = none ∧ H' = upd H T (.tup [.int (k + (i : Nat)), x]) ∧ xs[i]? = some x) :=
  ⟨fun i H hi q => ⟨xs, xs[i], q, List.getElem?_eq_getElem hi⟩, fun H q => ⟨xs, q, Nat.le_refl _⟩, fun i H v H' hi q ⟨T, x, e1, e2, e3, e4⟩ => ⟨T, x, e1, e2, e3, e4 xs q⟩⟩
theorem same_mk {H H' : Hp} {x dx : Addr} {o u : HO} (hx : H x = none) (hd : H dx = none) (s : ∀ b v, b ≠ x → (upd (upd H dx o) x u) b = some v → H' b = some v) : Same H H' := fun b v e => by
  have n1 : b ≠ x := ne_of_none e hx
  exact s b v n1 (by rw [upd_ne n1, upd_ne (ne_of_none e hd)]; exact e)
end DP
/-! classes of the text, their methods, constants of the module -/
namespace DP
open PySem PySem.Spec PyProof.Rows L2
structure ClsAt (K : PySem.W.Frag) (mg : Str → Option Value) (x : Str) (C : Addr) : Prop where
  cl : Cls K C
  mkC : PySem.W.makesIn K C = true
  kp : PySem.W.keepIn K (.ref C) = true
  gC : mg x = some (.ref C)
structure MAt (K : PySem.W.Frag) (C : Addr) (m qual : Str) (st : Stmt) (ps : List Str) : Prop where
  ex : ∃ f fd, Fun K m qual st f fd ∧ Meth K C m f ∧ Binds K fd ps []
structure MDef (P : Program) (w : World) (K : PySem.W.Frag) (mg : Str → Option Value) (base : Heap) (CX : CXT) (k : Nat) (C : Addr) (m : Str) (ps : List Str) (ds : List V) (sp : Sp) : Prop where
  ex : ∃ f fd us, FnOk P w K mg base CX k f fd ps sp ∧ Meth K C m f ∧ Binds K fd ps us ∧ Vals ds us
section
variable {X : Cx} {CX : CXT} {k : Nat} {C : Addr} {x m : Str} {ps : List Str} {ds : List V} {sp : Sp} {E : XK} {o e : Expr} {es : List Expr} {ta : TE} {t : TA} {p pos apos : Pos} {pl : Sem Bool}
theorem pe_m (D : MDef X.prog X.w X.K X.mg X.base CX k C m ps ds sp) (c : Cls X.K C) (hr : Room k X.A) (hx : Passes CX X E) (he : PE X o ta) (ha : PA X (e :: es) t)
    (hst : starEach (e :: es) X.env = (false, eval e X.env) :: starEach es X.env := by rfl) (hpl : (backTo pos (starEach es X.env)).any (·.1) = false := by rfl)
    (ht : eval (.Call (.Attribute o m apos) (e :: es) [] pos) X.env = (do
      let ov ← eval o X.env
      standAt apos.atName
      let (f, first) ← holding [ov] (getMethod ov m pl)
      callWith pos f first (backTo pos (starEach (e :: es) X.env)) (backToKw pos (keywordEach [] X.env))) := by rfl) :
    PE X (.Call (.Attribute o m apos) (e :: es) [] pos) (tMeth C m sp ds E ta t) := by
  obtain ⟨f, fd, us, G, M, b, v⟩ := D.ex
  exact pe_meth (pl := pl) he c M G hr b v hx ha hst hpl ht
theorem pe_m0 (D : MDef X.prog X.w X.K X.mg X.base CX k C m ps ds sp) (c : Cls X.K C) (hr : Room k X.A) (hx : Passes CX X E) (he : PE X o ta)
    (ht : eval (.Call (.Attribute o m apos) [] [] pos) X.env = (do
      let ov ← eval o X.env
      standAt apos.atName
      let (f, first) ← holding [ov] (getMethod ov m pl)
      callWith pos f first (backTo pos (starEach [] X.env)) (backToKw pos (keywordEach [] X.env))) := by rfl) :
    PE X (.Call (.Attribute o m apos) [] [] pos) (tMeth C m sp ds E ta tNil) := by
  obtain ⟨f, fd, us, G, M, b, v⟩ := D.ex
  exact pe_meth0 (pl := pl) he c M G hr b v hx ht
theorem pe_mk (D : MDef X.prog X.w X.K X.mg X.base CX k C "__init__" ps ds sp) (c : ClsAt X.K X.mg x C) (hr : Room (k + 1) X.A) (hx : Passes CX X E) (ha : PA X (e :: es) t) (hg : Gl X x := by rfl)
    (hdb : (x == ("__debug__" : Str)) = false := by decide) (he : starEach (e :: es) X.env = (false, eval e X.env) :: starEach es X.env := by rfl) (hpl : (backTo pos (starEach es X.env)).any (·.1) = false := by rfl) :
    PE X (.Call (.Name x p) (e :: es) [] pos) (tMake C sp ds E t) := by
  obtain ⟨f, fd, us, G, M, b, v⟩ := D.ex
  exact pe_make ⟨c.mkC, M.at_, M.fn, c.kp⟩ G hr hg c.gC b v hx ha hdb he hpl
/-- a constant of the module -/
theorem pe_gi {i : Int} (h : ∃ t, X.mg x = some (.int i t)) (hg : Gl X x := by rfl) (hd : (x == ("__debug__" : Str)) = false := by decide) : PE X (.Name x pos) (tC (.int i)) := by
  obtain ⟨t, h⟩ := h
  exact pe_glob hg h ⟨t, rfl⟩ hd
theorem pe_gs {z : Str} (h : ∃ t, X.mg x = some (.str z t)) (hg : Gl X x := by rfl) (hd : (x == ("__debug__" : Str)) = false := by decide) : PE X (.Name x pos) (tC (.str z)) := by
  obtain ⟨t, h⟩ := h
  exact pe_glob hg h ⟨t, rfl⟩ hd
theorem pe_ga {a : Addr} (h : X.mg x = some (.ref a)) (hg : Gl X x := by rfl) (hd : (x == ("__debug__" : Str)) = false := by decide) : PE X (.Name x pos) (tC (.ref a)) := pe_glob hg h rfl hd
end
/-- a method with one default -/
structure MAtD (K : PySem.W.Frag) (C : Addr) (m qual : Str) (st : Stmt) (ps : List Str) (ds : List V) : Prop where
  ex : ∃ f fd us, FunD K m qual (defArgs st) (defBody st) (defScope st) ds [] f fd ∧ Meth K C m f ∧ Binds K fd ps us ∧ Vals ds us
theorem pe_fldK {X : Cx} {K : PySem.W.Frag} (h : X.K = K) {e : Expr} {ta : TE} {f : Str} {pos : Pos} (he : PE X e ta) (hb : attributeBase e f X.env (eval e X.env) = eval e X.env) : PE X (.Attribute e f pos) (tFld K ta f) := by
  subst h
  exact pe_fld he hb
theorem pg_tupK {X : Cx} {K : PySem.W.Frag} (h : X.K = K) {es : List Expr} {k n : Nat} {pos : Pos} {g : TGs} (hc : X.calm = true) (hs : PGs X es g)
    (hn : (assignEach es X.env).length = n := by rfl) (hst : (assignEach es X.env).findIdx? (·.1) = none := by rfl) : PG X (.Tuple es k pos) (gTup K n g) := by
  subst h
  exact pg_tup hc hs hn hst
section
variable {P : Program} {w : World} {K : PySem.W.Frag} {mg : Str → Option Value} {base : Heap} {C : Addr} {m qual : Str} {st : Stmt} {ps N : List Str} {k : Nat} {sp sp' : Sp} {ds : List V}
theorem MAt.ok (F : MAt K C m qual st ps) (S : FnScope N ps (defScope st)) (len : ∀ vs H Q E, sp vs H Q E → vs.length = ps.length)
    (hbody : ∀ (f : Addr) (cdv : Value) (A : Around) (outer : List Env) (s : Shared) (H : Hp) (vs : List V) (Q : VK) (E : XK), Room k (A.deeper (envOfC qual (defScope st) s.heap.objs.size f cdv)) → sp vs H Q E →
      ∃ t, PSs (cxOf CX0 P w K mg base N qual (defScope st) f cdv A outer s H E).nox (defBody st) t ∧ t { nx := fun _ H' => Q .non H', rt := Q } (start N vs) H) : MDef P w K mg base CX0 (k + 1) C m ps [] sp := by
  obtain ⟨f, fd, G, M, b⟩ := F.ex
  exact ⟨f, fd, [], G.ok S len (fun cdv A outer s H vs Q E hr h => hbody f cdv A outer s H vs Q E hr h), M, b, .nil⟩
theorem MAtD.ok (F : MAtD K C m qual st ps ds) (S : FnScope N ps (defScope st)) (len : ∀ vs H Q E, sp vs H Q E → vs.length = ps.length)
    (hbody : ∀ (f : Addr) (cdv : Value) (A : Around) (outer : List Env) (s : Shared) (H : Hp) (vs : List V) (Q : VK) (E : XK), Room k (A.deeper (envOfC qual (defScope st) s.heap.objs.size f cdv)) → sp vs H Q E →
      ∃ t, PSs (cxOf CX0 P w K mg base N qual (defScope st) f cdv A outer s H E).nox (defBody st) t ∧ t { nx := fun _ H' => Q .non H', rt := Q } (start N vs) H) : MDef P w K mg base CX0 (k + 1) C m ps ds sp := by
  obtain ⟨f, fd, us, G, M, b, v⟩ := F.ex
  refine ⟨f, fd, us, G.ok S len (fun cdv A outer s H vs Q E hr h => ?_), M, b, v⟩
  obtain ⟨t, h1, h2⟩ := hbody f cdv A outer s H vs Q E hr h
  exact ⟨t, h1.nox, h2⟩
theorem MDef.imp (D : MDef P w K mg base CX0 k C m ps ds sp) (h : ∀ vs H Q E, sp' vs H Q E → sp vs H Q E) : MDef P w K mg base CX0 k C m ps ds sp' := by
  obtain ⟨f, fd, us, G, M, b, v⟩ := D.ex
  exact ⟨f, fd, us, G.imp h, M, b, v⟩
end
/-! ### fields -/
theorem lk_hit {a : Str} {b : V} {es : List (Str × V)} : List.lookup a ((a, b) :: es) = some b := by
  unfold List.lookup
  rw [beq_self_eq_true]
theorem lk_miss {a k : Str} {b : V} {es : List (Str × V)} (h : (a == k) = false) : List.lookup a ((k, b) :: es) = List.lookup a es := by
  show (match a == k with | true => some b | false => List.lookup a es) = _
  rw [h]
theorem put_new {f : Str} {v : V} : ∀ {fs : List (Str × V)}, f ∉ fs.map (·.1) → putF f v fs = fs ++ [(f, v)]
  | [], _ => rfl
  | (g, x) :: r, h => by
    have h1 : ¬ g = f := fun z => h (by rw [z]; exact List.mem_cons_self)
    show (if g = f then (g, v) :: r else (g, x) :: putF f v r) = (g, x) :: (r ++ [(f, v)])
    rw [if_neg h1, put_new fun z => h (List.mem_cons_of_mem _ z)]
theorem put_hit {f : Str} {v x : V} {r : List (Str × V)} : putF f v ((f, x) :: r) = (f, v) :: r := by
  show (if f = f then _ else _) = _
  rw [if_pos rfl]
theorem put_miss {f g : Str} {v x : V} {r : List (Str × V)} (h : (g == f) = false) : putF f v ((g, x) :: r) = (g, x) :: putF f v r := by
  have h1 : ¬ g = f := fun z => by
    rw [z, beq_self_eq_true] at h
    cases h
  show (if g = f then _ else _) = _
  rw [if_neg h1]
theorem put_nil {f : Str} {v : V} : putF f v [] = [(f, v)] := rfl
theorem put_lt {f : Str} {v : V} {k m : Nat} : ∀ {fs : List (Str × V)}, fs.length + (k + 1) < m → (putF f v fs).length + k < m
  | [], h => by
    show 1 + k < m
    have : 0 + (k + 1) < m := h
    omega
  | (g, x) :: r, h => by
    rw [List.length_cons] at h
    show (if g = f then (g, v) :: r else (g, x) :: putF f v r).length + k < m
    by_cases c : g = f
    · rw [if_pos c, List.length_cons]
      omega
    · rw [if_neg c, List.length_cons]
      have := put_lt (f := f) (v := v) (k := k + 1) (m := m) (fs := r) (by omega)
      omega
theorem put_lt0 {f : Str} {v : V} {m : Nat} {fs : List (Str × V)} (h : fs.length + 1 < m) : (putF f v fs).length < m := put_lt (k := 0) h
theorem ins_ne {H : Hp} {a b C D dx dy : Addr} {fs gs : List (Str × V)} (h : H a = some (.ins C dx fs)) (h' : H b = some (.ins D dy gs)) (n : fs.length ≠ gs.length) : a ≠ b := fun z => by
  rw [z, h'] at h
  injection h with h
  injection h with h1 h2 h3
  exact n (by rw [h3])
/-- all that stood but a is as it was -/
def SameX (a : Addr) (H H' : Hp) : Prop := ∀ b o, b ≠ a → H b = some o → H' b = some o
theorem SameX.refl (a : Addr) (H : Hp) : SameX a H H := fun _ _ _ h => h
theorem SameX.trans {a : Addr} {H H1 H2 : Hp} (x : SameX a H H1) (y : SameX a H1 H2) : SameX a H H2 := fun b o n h => y b o n (x b o n h)
theorem SameX.of {a : Addr} {H H' : Hp} (s : Same H H') : SameX a H H' := fun b o _ h => s b o h
theorem SameX.upd {a : Addr} {H : Hp} {o : HO} : SameX a H (L2.upd H a o) := fun b u n h => by rw [upd_ne n]; exact h
theorem SameX.at_ {a : Addr} {H H' : Hp} {o : HO} (x : SameX a H H') : SameX a H (L2.upd H' a o) := fun b u n h => by rw [upd_ne n]; exact x b u n h
end DP
namespace DP
open PySem PySem.Spec PyProof.Rows L2
def topS (i : Nat) : Stmt := PySem.Challenge.pw_downpass_k53_what_is_no_row.main.body.getD i (.Pass ⟨0, 0, 0, 0⟩)
end DP
/-! reading a line word by word -/
namespace DP
open PySem PySem.Spec PyProof.Rows L2
abbrev s_lines_of : Stmt := topS 12
theorem sc_lines_of : FnScope ["text", "rows", "last", "number", "row"] ["text"] (defScope s_lines_of) := ⟨rfl, rfl, rfl, by decide +kernel, rfl, by decide +kernel, by decide +kernel⟩
abbrev s_is_name : Stmt := topS 13
theorem sc_is_name : FnScope ["word", "letter"] ["word"] (defScope s_is_name) := ⟨rfl, rfl, rfl, by decide +kernel, rfl, by decide +kernel, by decide +kernel⟩
abbrev s_is_number : Stmt := topS 14
theorem sc_is_number : FnScope ["word", "letter"] ["word"] (defScope s_is_number) := ⟨rfl, rfl, rfl, by decide +kernel, rfl, by decide +kernel, by decide +kernel⟩
abbrev s_Line___init__ : Stmt := inClass (topS 15) 0
theorem sc_Line___init__ : FnScope ["self", "number", "row"] ["self", "number", "row"] (defScope s_Line___init__) := ⟨rfl, rfl, rfl, by decide +kernel, rfl, by decide +kernel, by decide +kernel⟩
abbrev s_Line_has_more : Stmt := inClass (topS 15) 2
theorem sc_Line_has_more : FnScope ["self"] ["self"] (defScope s_Line_has_more) := ⟨rfl, rfl, rfl, by decide +kernel, rfl, by decide +kernel, by decide +kernel⟩
abbrev s_Line_due : Stmt := inClass (topS 15) 3
theorem sc_Line_due : FnScope ["self", "word"] ["self"] (defScope s_Line_due) := ⟨rfl, rfl, rfl, by decide +kernel, rfl, by decide +kernel, by decide +kernel⟩
abbrev s_Line_step : Stmt := inClass (topS 15) 4
theorem sc_Line_step : FnScope ["self"] ["self"] (defScope s_Line_step) := ⟨rfl, rfl, rfl, by decide +kernel, rfl, by decide +kernel, by decide +kernel⟩
abbrev s_Line_read_choice : Stmt := inClass (topS 15) 5
theorem sc_Line_read_choice : FnScope ["self", "choices", "word"] ["self", "choices"] (defScope s_Line_read_choice) := ⟨rfl, rfl, rfl, by decide +kernel, rfl, by decide +kernel, by decide +kernel⟩
abbrev s_Line_read_number : Stmt := inClass (topS 15) 6
theorem sc_Line_read_number : FnScope ["self", "least", "most", "word", "number"] ["self", "least", "most"] (defScope s_Line_read_number) := ⟨rfl, rfl, rfl, by decide +kernel, rfl, by decide +kernel, by decide +kernel⟩
abbrev s_Line_read_field : Stmt := inClass (topS 15) 7
theorem sc_Line_read_field : FnScope ["self", "word", "least", "most"] ["self", "word", "least", "most"] (defScope s_Line_read_field) := ⟨rfl, rfl, rfl, by decide +kernel, rfl, by decide +kernel, by decide +kernel⟩
abbrev s_Line_due_name : Stmt := inClass (topS 15) 8
theorem sc_Line_due_name : FnScope ["self", "word"] ["self"] (defScope s_Line_due_name) := ⟨rfl, rfl, rfl, by decide +kernel, rfl, by decide +kernel, by decide +kernel⟩
abbrev s_Line_read_new_name : Stmt := inClass (topS 15) 9
theorem sc_Line_read_new_name : FnScope ["self", "used", "word"] ["self", "used"] (defScope s_Line_read_new_name) := ⟨rfl, rfl, rfl, by decide +kernel, rfl, by decide +kernel, by decide +kernel⟩
abbrev s_Line_read_known_name : Stmt := inClass (topS 15) 10
theorem sc_Line_read_known_name : FnScope ["self", "names", "least", "word", "number"] ["self", "names", "least"] (defScope s_Line_read_known_name) := ⟨rfl, rfl, rfl, by decide +kernel, rfl, by decide +kernel, by decide +kernel⟩
abbrev s_Line_finish : Stmt := inClass (topS 15) 11
theorem sc_Line_finish : FnScope ["self"] ["self"] (defScope s_Line_finish) := ⟨rfl, rfl, rfl, by decide +kernel, rfl, by decide +kernel, by decide +kernel⟩
def lnF (n : Int) (wl : Addr) (r : Nat) (c : Int) : List (Str × V) := [("number", .int n), ("words", .ref wl), ("read", .int r), ("column", .int c)]
theorem lnF_number {n : Int} {wl : Addr} {r : Nat} {c : Int} : (lnF n wl r c).lookup ("number" : Str) = some (.int n) := by unfold lnF; exact lk_hit
theorem lnF_words {n : Int} {wl : Addr} {r : Nat} {c : Int} : (lnF n wl r c).lookup ("words" : Str) = some (.ref wl) := by unfold lnF; exact (lk_miss (by decide +kernel)).trans lk_hit
theorem lnF_read {n : Int} {wl : Addr} {r : Nat} {c : Int} : (lnF n wl r c).lookup ("read" : Str) = some (.int r) := by
  unfold lnF; exact (lk_miss (by decide +kernel)).trans ((lk_miss (by decide +kernel)).trans lk_hit)
theorem lnF_column {n : Int} {wl : Addr} {r : Nat} {c : Int} : (lnF n wl r c).lookup ("column" : Str) = some (.int c) := by
  unfold lnF; exact (lk_miss (by decide +kernel)).trans ((lk_miss (by decide +kernel)).trans ((lk_miss (by decide +kernel)).trans lk_hit))
theorem lnF_no {n : Int} {wl : Addr} {r : Nat} {c : Int} {m : Str} (h1 : (m == ("number" : Str)) = false) (h2 : (m == ("words" : Str)) = false) (h3 : (m == ("read" : Str)) = false) (h4 : (m == ("column" : Str)) = false) : (lnF n wl r c).lookup m = none := by
  unfold lnF
  exact (lk_miss h1).trans ((lk_miss h2).trans ((lk_miss h3).trans ((lk_miss h4).trans rfl)))
theorem lnF_put_column {n : Int} {wl : Addr} {r : Nat} {c d : Int} : putF "column" (.int d) (lnF n wl r c) = lnF n wl r d := by
  unfold lnF
  rw [put_miss (by decide +kernel), put_miss (by decide +kernel), put_miss (by decide +kernel), put_hit]
theorem lnF_put_read {n : Int} {wl : Addr} {r q : Nat} {c : Int} : putF "read" (.int q) (lnF n wl r c) = lnF n wl q c := by
  unfold lnF
  rw [put_miss (by decide +kernel), put_miss (by decide +kernel), put_hit]
/-- the line at a, its words ws, r of them passed -/
structure LnAt (C : Addr) (H : Hp) (a : Addr) (ws : List Str) (r : Nat) : Prop where
  ex : ∃ dx n wl c, H a = some (.ins C dx (lnF n wl r c)) ∧ H wl = some (.lst (ws.map V.str))
  ok : ∀ w ∈ ws, WdOk w
theorem LnAt.same {C : Addr} {H H' : Hp} {a : Addr} {ws : List Str} {r : Nat} (h : LnAt C H a ws r) (s : Same H H') : LnAt C H' a ws r := by
  obtain ⟨dx, n, wl, c, h1, h2⟩ := h.ex
  exact ⟨⟨dx, n, wl, c, s _ _ h1, s _ _ h2⟩, h.ok⟩
theorem map_at {ws : List Str} {i : Nat} {w : Str} (h : ws[i]? = some w) : atI (ws.map V.str) (i : Int) = some (.str w) := atI_nat (by rw [List.getElem?_map, h]; rfl)
theorem wd_ne {w : Str} (h : WdOk w) : ¬ w = Str.ofString "" := fun z => h.1 (by rw [z]; decide +kernel)
theorem wd_len {w : Str} (h : WdOk w) : w.length ≤ 16 := by rw [TL.len_tl]; exact h.2.2.2
/-- what the text tells of the class Line and its module -/
structure TxtL (K : PySem.W.Frag) (mg : Str → Option Value) (C : Addr) : Prop where
  B : Bt mg
  c_Line : ClsAt K mg "Line" C
  n_number : NoAttr K C "number"
  n_words : NoAttr K C "words"
  n_read : NoAttr K C "read"
  n_column : NoAttr K C "column"
  g_LETTERS : ∃ t, mg "LETTERS" = some (.str "abcdefghijklmnopqrstuvwxyzABCDEFGHIJKLMNOPQRSTUVWXYZ" t)
  g_DIGITS : ∃ t, mg "DIGITS" = some (.str "0123456789" t)
  g_MOST_NAME : ∃ t, mg "MOST_NAME" = some (.int 15 t)
  g_MOST_DIGITS : ∃ t, mg "MOST_DIGITS" = some (.int 7 t)
section
variable {P : Program} {w : World} {K : PySem.W.Frag} {mg : Str → Option Value} {base : Heap} {C : Addr}
/-! #### the object -/
def spLnInit (C : Addr) : Sp := fun vs H Q _ => ∃ (x dx : Addr) (n : Int) (ws : List Str), vs = [.ref x, .int n, .str (row ws)] ∧ H x = some (.ins C dx []) ∧ ws ≠ [] ∧ (∀ w ∈ ws, WdOk w) ∧ ws.length ≤ 2000 ∧
  ∀ H', SameX x H H' → LnAt C H' x ws 0 → Q .non H'
theorem d_Line_init (T : TxtL K mg C) (A : MAt K C "__init__" "Line.__init__" s_Line___init__ ["self", "number", "row"]) : MDef P w K mg base CX0 1 C "__init__" ["self", "number", "row"] [] (spLnInit C) := by
  refine A.ok sc_Line___init__ (fun vs H Q E h => ?_) (fun f cdv A outer s H vs Q E hr h => ?_)
  · obtain ⟨x, dx, n, ws, rfl, _⟩ := h
    rfl
  obtain ⟨x, dx, n, ws, rfl, hx, hn, hok, hlen, q⟩ := h
  refine ⟨_, pss_cons (ps_fld (pv 0) (pv 1) rfl)
  (pss_cons (ps_fld (pv 0) (pe_split (pv 2) pe_str) rfl)
  (pss_cons (ps_fld (pv 0) pe_int rfl)
  (pss_one (ps_fld (pv 0) pe_int rfl))))
    , ?_⟩
  have hl := row_len hok
  refine ⟨_, rfl, _, rfl, x, C, dx, _, rfl, hx, T.c_Line.cl, T.n_number, (by show 0 < 1000; decide), ?_⟩
  refine ⟨_, rfl, ⟨_, rfl⟩, _, sp, rfl, rfl, by decide +kernel, Nat.le_trans (Nat.add_le_add_right (Nat.le_trans hl (Nat.mul_le_mul_right 17 hlen)) 2) (by decide), fun wl hwl => ?_⟩
  have exw : x ≠ wl := fun z => by
    rw [← z, upd_same] at hwl
    cases hwl
  refine ⟨_, rfl, x, C, dx, _, rfl, (upd_ne exw).trans upd_same, T.c_Line.cl, T.n_words, (by repeat (first | refine put_lt0 ?_ | refine put_lt ?_ | (show _ < _; decide))), ?_⟩
  refine ⟨_, rfl, x, C, dx, _, rfl, upd_same, T.c_Line.cl, T.n_read, (by repeat (first | refine put_lt0 ?_ | refine put_lt ?_ | (show _ < _; decide))), ?_⟩
  refine ⟨_, rfl, x, C, dx, _, rfl, upd_same, T.c_Line.cl, T.n_column, (by repeat (first | refine put_lt0 ?_ | refine put_lt ?_ | (show _ < _; decide))), ?_⟩
  have hwl0 : H wl = none := by
    rw [upd_ne exw.symm] at hwl
    exact hwl
  refine q _ (fun b o nb hb => ?_) ⟨⟨dx, n, wl, 1, ?_, ?_⟩, hok⟩
  · rw [upd_ne nb, upd_ne nb, upd_ne nb, upd_ne (ne_of_none hb hwl0), upd_ne nb]
    exact hb
  · rw [upd_same]
    unfold lnF
    repeat (first | rw [put_nil] | rw [put_miss (by decide +kernel)])
    rfl
  · rw [upd_ne exw.symm, upd_ne exw.symm, upd_ne exw.symm, upd_same, row_split hn hok]
def spHasMore (C : Addr) : Sp := fun vs H Q _ => ∃ (a : Addr) (ws : List Str) (r : Nat), vs = [.ref a] ∧ LnAt C H a ws r ∧ Q (.bl (decide (r < ws.length))) H
theorem d_has_more (T : TxtL K mg C) (A : MAt K C "has_more" "Line.has_more" s_Line_has_more ["self"]) : MDef P w K mg base CX0 1 C "has_more" ["self"] [] (spHasMore C) := by
  have B := T.B
  refine A.ok sc_Line_has_more (fun vs H Q E h => ?_) (fun f cdv A outer s H vs Q E hr h => ?_)
  · obtain ⟨a, ws, r, rfl, _⟩ := h
    rfl
  obtain ⟨a, ws, r, rfl, hL, q⟩ := h
  obtain ⟨dx, n, wl, c, h1, h2⟩ := hL.ex
  refine ⟨_, pss_one (ps_ret (pe_cmpR op_lt (pe_fld (pv 0) rfl) (pe_callB (call_len_seq) (by rfl) B.len (by decide +kernel) (pa_cons (pe_fld (pv 0) rfl) pa_nil)) (nomark _)))
    , ?_⟩
  refine ⟨_, rfl, a, C, dx, _, _, rfl, h1, T.c_Line.cl, T.n_read, lnF_read, _, rfl, a, C, dx, _, _, rfl, h1, T.c_Line.cl, T.n_words, lnF_words, wl, _, rfl, .inl (SqL.of h2), _, _, rfl, rfl, ?_⟩
  have e : decide ((r : Int) < (((ws.map V.str).length : Nat) : Int)) = decide (r < ws.length) := by
    rw [List.length_map]
    exact decide_eq_decide.mpr (by omega)
  show Q (.bl (decide ((r : Int) < (((ws.map V.str).length : Nat) : Int)))) H
  rw [e]
  exact q
def spDue (C : Addr) : Sp := fun vs H Q _ => ∃ (a : Addr) (ws : List Str) (r : Nat) (u : Str), vs = [.ref a] ∧ LnAt C H a ws r ∧ ws[r]? = some u ∧ Q (.str u) H
theorem d_due (T : TxtL K mg C) (D_Line_has_more : MDef P w K mg base CX0 1 C "has_more" ["self"] [] (spHasMore C)) (A : MAt K C "due" "Line.due" s_Line_due ["self"]) : MDef P w K mg base CX0 2 C "due" ["self"] [] (spDue C) := by
  have B := T.B
  refine A.ok sc_Line_due (fun vs H Q E h => ?_) (fun f cdv A outer s H vs Q E hr h => ?_)
  · obtain ⟨a, ws, r, u, rfl, _⟩ := h
    rfl
  obtain ⟨a, ws, r, u, rfl, hL, hu, q⟩ := h
  obtain ⟨dx, n, wl, c, h1, h2⟩ := hL.ex
  have hr' : r < ws.length := (List.getElem?_eq_some_iff.mp hu).1
  refine ⟨_, pss_cons (ps_if (pt_not (pt_val (pe_m0 D_Line_has_more T.c_Line.cl (hr.mono (by omega)) pass0 (pv 0))))
      (pss_one (ps_never))
      (pss_nil))
  (pss_cons (ps_set (i := 1) sc_Line_due.nd rfl (Or.inl rfl) (pe_ix ix_list (pe_fld (pv 0) rfl) (pe_fld (pv 0) rfl) (fun _ _ => rfl)))
  (pss_cons (ps_if (pt_cmpR op_eq (pv 1) pe_str (nomark _))
      (pss_one (ps_never))
      (pss_nil))
  (pss_one (ps_ret (pv 1)))))
    , ?_⟩
  refine ⟨_, rfl, a, dx, _, rfl, h1, lnF_no (by decide +kernel) (by decide +kernel) (by decide +kernel) (by decide +kernel), a, ws, r, rfl, hL, _, rfl, iteF' (by rw [decide_eq_true hr']; rfl) ?_⟩
  refine ⟨_, rfl, a, C, dx, _, _, rfl, h1, T.c_Line.cl, T.n_words, lnF_words, _, rfl, a, C, dx, _, _, rfl, h1, T.c_Line.cl, T.n_read, lnF_read, wl, _, _, _, rfl, rfl, SqL.of h2, map_at hu, ?_⟩
  refine ⟨_, rfl, rfl, _, rfl, iteF' (decide_eq_false fun z => wd_ne (hL.ok u (List.mem_of_getElem? hu)) (V.str.inj z)) ?_⟩
  exact ⟨_, rfl, q⟩
def spStep (C : Addr) : Sp := fun vs H Q _ => ∃ (a : Addr) (ws : List Str) (r : Nat), vs = [.ref a] ∧ LnAt C H a ws r ∧ r < ws.length ∧ ∀ H', SameX a H H' → LnAt C H' a ws (r + 1) → Q .non H'
theorem d_step (T : TxtL K mg C) (A : MAt K C "step" "Line.step" s_Line_step ["self"]) : MDef P w K mg base CX0 1 C "step" ["self"] [] (spStep C) := by
  have B := T.B
  refine A.ok sc_Line_step (fun vs H Q E h => ?_) (fun f cdv A outer s H vs Q E hr h => ?_)
  · obtain ⟨a, ws, r, rfl, _⟩ := h
    rfl
  obtain ⟨a, ws, r, rfl, hL, hr', q⟩ := h
  obtain ⟨dx, n, wl, c, h1, h2⟩ := hL.ex
  have hu : ws[r]? = some ws[r] := List.getElem?_eq_getElem hr'
  have ea : wl ≠ a := ne_of h2 h1 (fun z => nomatch z)
  have hw := wd_len (hL.ok _ (List.getElem_mem hr'))
  refine ⟨_, pss_cons (ps_fldaug (pv 0) (pe_op op_add (pe_callB (call_len_str) (by rfl) B.len (by decide +kernel) (pa_cons (pe_ix ix_list (pe_fld (pv 0) rfl) (pe_fld (pv 0) rfl) (fun _ _ => rfl)) pa_nil)) pe_int) in_add)
  (pss_one (ps_fldaug (pv 0) pe_int in_add))
    , ?_⟩
  refine ⟨_, rfl, a, C, dx, _, _, rfl, h1, T.c_Line.cl, T.n_column, lnF_column, _, rfl, a, C, dx, _, _, rfl, h1, T.c_Line.cl, T.n_words, lnF_words, _, rfl, a, C, dx, _, _, rfl, h1, T.c_Line.cl, T.n_read, lnF_read, wl, _, _, _, rfl, rfl, SqL.of h2, map_at hu, ?_⟩
  refine ⟨_, rfl, Nat.le_trans hw (by decide), _, _, rfl, rfl, _, _, rfl, rfl, dx, _, h1, (by show 4 < 1000; decide), ?_⟩
  rw [lnF_put_column]
  refine ⟨_, rfl, a, C, dx, _, _, rfl, upd_same, T.c_Line.cl, T.n_read, lnF_read, _, _, rfl, rfl, dx, _, upd_same, (by show 4 < 1000; decide), ?_⟩
  rw [show ((r : Int) + 1) = ((r + 1 : Nat) : Int) by omega, lnF_put_read, upd_upd]
  exact q _ SameX.upd ⟨⟨dx, n, wl, _, upd_same, by rw [upd_ne ea]; exact h2⟩, hL.ok⟩
/-! #### reading -/
def spChoice (K : PySem.W.Frag) (C : Addr) : Sp := fun vs H Q _ => ∃ (a : Addr) (ws : List Str) (r : Nat) (t : Addr) (cs : List Str) (u : Str), vs = [.ref a, .ref t] ∧ LnAt C H a ws r ∧ SqT K H t (cs.map V.str) ∧ ws[r]? = some u ∧ u ∈ cs ∧
  ∀ H', SameX a H H' → LnAt C H' a ws (r + 1) → Q (.str u) H'
theorem inV_str {u : Str} {cs : List Str} : inV (.str u) (cs.map V.str) = decide (u ∈ cs) := by
  unfold inV
  rw [List.any_map]
  induction cs with
  | nil => rfl
  | cons c r ih =>
    rw [List.any_cons, ih]
    show (decide (c = u) || decide (u ∈ r)) = decide (u ∈ c :: r)
    rw [← Bool.decide_or]
    refine decide_eq_decide.mpr ⟨fun z => ?_, fun z => ?_⟩
    · rcases z with z | z
      · rw [z]; exact List.mem_cons_self
      · exact List.mem_cons_of_mem _ z
    · rcases List.mem_cons.mp z with z | z
      · exact .inl z.symm
      · exact .inr z
theorem flat_strs {cs : List Str} : (cs.map V.str).all flatV = true := by
  rw [List.all_map]
  exact List.all_eq_true.mpr fun _ _ => rfl
theorem d_read_choice (T : TxtL K mg C) (D_Line_due : MDef P w K mg base CX0 2 C "due" ["self"] [] (spDue C)) (D_Line_step : MDef P w K mg base CX0 1 C "step" ["self"] [] (spStep C))
    (A : MAt K C "read_choice" "Line.read_choice" s_Line_read_choice ["self", "choices"]) : MDef P w K mg base CX0 3 C "read_choice" ["self", "choices"] [] (spChoice K C) := by
  have B := T.B
  refine A.ok sc_Line_read_choice (fun vs H Q E h => ?_) (fun f cdv A outer s H vs Q E hr h => ?_)
  · obtain ⟨a, ws, r, t, cs, u, rfl, _⟩ := h
    rfl
  obtain ⟨a, ws, r, t, cs, u, rfl, hL, hT, hu, hc, q⟩ := h
  obtain ⟨dx, n, wl, c, h1, h2⟩ := hL.ex
  have hr' : r < ws.length := (List.getElem?_eq_some_iff.mp hu).1
  have no : ∀ {m : Str}, (m == ("number" : Str)) = false → (m == ("words" : Str)) = false → (m == ("read" : Str)) = false → (m == ("column" : Str)) = false → (lnF n wl r c).lookup m = none := fun z1 z2 z3 z4 => lnF_no z1 z2 z3 z4
  refine ⟨_, pss_cons (ps_set (i := 2) sc_Line_read_choice.nd rfl (Or.inl rfl) (pe_m0 D_Line_due T.c_Line.cl (hr.mono (by omega)) pass0 (pv 0)))
  (pss_cons (ps_if (pt_cmpR op_notIn_seq (pv 2) (pv 1) (by rfl))
      (pss_one (ps_never))
      (pss_nil))
  (pss_cons (ps_expr (pe_m0 D_Line_step T.c_Line.cl (hr.mono (by omega)) pass0 (pv 0)))
  (pss_one (ps_ret (pv 2)))))
    , ?_⟩
  refine ⟨_, rfl, a, dx, _, rfl, h1, no (by decide +kernel) (by decide +kernel) (by decide +kernel) (by decide +kernel), a, ws, r, u, rfl, hL, hu, ?_⟩
  refine ⟨_, rfl, _, rfl, t, _, rfl, .inr hT, rfl, flat_strs, _, rfl, iteF' (by rw [inV_str, decide_eq_true hc]; rfl) ?_⟩
  refine ⟨_, rfl, a, dx, _, rfl, h1, no (by decide +kernel) (by decide +kernel) (by decide +kernel) (by decide +kernel), a, ws, r, rfl, hL, hr', fun H' s' L' => ?_⟩
  exact ⟨_, rfl, q H' s' L'⟩
/-- a number's text -/
theorem dig_in {c : Nat} (h : 48 ≤ c ∧ c ≤ 57) : c ∈ ("0123456789" : Str).cps.toList := by
  have all : ∀ d, d < 58 → 48 ≤ d → d ∈ ("0123456789" : Str).cps.toList := by decide +kernel
  exact all c (by omega) h.1
def spIsNum : Sp := fun vs H Q _ => ∃ n : Int, vs = [.str (num n)] ∧ 0 ≤ n ∧ n < 10000000 ∧ ∀ H', Same H H' → Q (.bl true) H'
theorem str1_inj {a b : Nat} (h : (⟨#[a]⟩ : Str) = ⟨#[b]⟩) : a = b := by
  injection h with h
  injection h with h
  injection h
theorem d_is_number (T : TxtL K mg C) (A : At K mg "is_number" s_is_number ["word"]) : DefOk P w K mg base CX0 1 "is_number" ["word"] spIsNum := by
  have B := T.B
  refine A.ok sc_is_number (fun vs H Q E h => ?_) (fun f cdv A outer s H vs Q E hr h => ?_)
  · obtain ⟨n, rfl, _⟩ := h
    rfl
  obtain ⟨n, rfl, h0, h1, q⟩ := h
  refine ⟨_, pss_cons (ps_if (PW.pt (pw_or (pt_cmpR op_gt (pe_callB (call_len_str) (by rfl) B.len (by decide +kernel) (pa_cons (pv 0) pa_nil)) (pe_gi T.g_MOST_DIGITS) (nomark _)) (pw_or1 (PW.pt (pw_and (pt_cmpR op_eq (pe_ix ix_str (pv 0) pe_int (fun _ _ => rfl)) pe_str (nomark _)) (pw_and1 (pt_cmpR op_ne (pv 0) pe_str (nomark _))))))))
      (pss_one (ps_ret pe_bl))
      (pss_nil))
  (pss_one (ps_ret (pe_callB (cr_all rfl) (by rfl) B.all (by decide +kernel) (pa_cons (pe_lc (own := [("letter", 1)])  rfl sc_is_number.nd (pi_str (pv 0)) (blkOk_by (own := [("letter", 1)]) (N := ["word", "letter"]) (sc := defScope s_is_number) (by decide +kernel)) (fun _ _ _ _ _ => pg_name (i := 1) sc_is_number.nd rfl (Or.inl rfl)) (fun _ _ _ _ _ => pts_nil) (fun _ _ _ _ _ => (pe_cmpR op_in_sign (pv 1) (pe_gs T.g_DIGITS) (by rfl)))) pa_nil))))
    , ?_⟩
  have htl := num_nat h0
  have hlen : (num n).length ≤ 7 := by
    rw [TL.len_tl, show TL.tl (num n) = tl (num n) from rfl, htl]
    exact numL_len7 (by omega)
  cases hq : TL.numL n.toNat with
  | nil => exact absurd hq (TL.numL_ne _)
  | cons d ds =>
  have hd : atI (num n).cps.toList 0 = some d := by
    show atI (tl (num n)) 0 = some d
    rw [htl, hq]
    exact atI_nat (j := 0) rfl
  have all : ∀ c ∈ tl (num n), 48 ≤ c ∧ c ≤ 57 := fun c hc => by
    rw [htl] at hc
    exact TL.numL_digits _ c hc
  refine ⟨_, rfl, _, rfl, Nat.le_trans hlen (by decide), _, _, rfl, rfl, _, rfl, iteF' (decide_eq_false (by omega)) ?_⟩
  refine ⟨_, rfl, _, _, d, rfl, rfl, Nat.le_trans hlen (by decide), hd, rfl, _, rfl, ite2 (fun c => ?_) (fun c => ?_)⟩
  · -- a leading 0: it is 0
    have e0 : (⟨#[d]⟩ : Str) = Str.ofString "0" := V.str.inj (of_decide_eq_true c)
    have e1 : (Str.ofString "0" : Str) = ⟨#[48]⟩ := by decide +kernel
    have ed : d = 48 := str1_inj (e0.trans e1)
    have en : n.toNat = 0 := numL_head ds (by rw [hq, ed])
    have en2 : n = 0 := by omega
    subst en2
    refine ⟨_, rfl, rfl, _, rfl, iteF' (by rw [decide_eq_true (show (V.str (num 0) = V.str (Str.ofString "0")) from by decide +kernel)]; rfl) ?_⟩
    refine ⟨_, rfl, _, rfl, fun D hD => lc_it (walk_str) (fun i H' => Same H H' ∧ H' D = some (.lst ((List.replicate i true).map V.bl))) ⟨same_new hD _, upd_same⟩ (fun _ _ _ _ => True.intro) (fun i x H1 H2 hi hI hy => ?_) (fun H1 hI => ?_)⟩
    · obtain ⟨rfl, ch, hch, rfl⟩ := hy
      obtain ⟨hs, hDD⟩ := hI
      have hcm : ch ∈ tl (num 0) := by
        have : (num 0).cps.toList[i]? = some ch := by rw [Array.getElem?_toList]; exact hch
        exact List.mem_of_getElem? this
      refine ⟨rfl, _, rfl, ch, _, rfl, rfl, _, hDD, ?_, same_at hD hs _, ?_⟩
      · rw [List.length_map, List.length_replicate]
        have : (num 0).cps.size ≤ 7 := hlen
        exact small1000 (by omega)
      · rw [upd_same, List.replicate_succ', List.map_append, decide_eq_true (dig_in (all ch hcm))]
        rfl
    · obtain ⟨hs, hDD⟩ := hI
      refine ⟨D, _, rfl, SqL.of hDD, ?_⟩
      rw [show (List.replicate (num 0).cps.size true).all id = true from List.all_eq_true.mpr fun b hb => by rw [List.eq_of_mem_replicate hb]; rfl]
      exact q H1 hs
  · refine iteF ?_
    refine ⟨_, rfl, _, rfl, fun D hD => lc_it (walk_str) (fun i H' => Same H H' ∧ H' D = some (.lst ((List.replicate i true).map V.bl))) ⟨same_new hD _, upd_same⟩ (fun _ _ _ _ => True.intro) (fun i x H1 H2 hi hI hy => ?_) (fun H1 hI => ?_)⟩
    · obtain ⟨rfl, ch, hch, rfl⟩ := hy
      obtain ⟨hs, hDD⟩ := hI
      have hcm : ch ∈ tl (num n) := by
        have : (num n).cps.toList[i]? = some ch := by rw [Array.getElem?_toList]; exact hch
        exact List.mem_of_getElem? this
      refine ⟨rfl, _, rfl, ch, _, rfl, rfl, _, hDD, ?_, same_at hD hs _, ?_⟩
      · rw [List.length_map, List.length_replicate]
        have : (num n).cps.size ≤ 7 := hlen
        exact small1000 (by omega)
      · rw [upd_same, List.replicate_succ', List.map_append, decide_eq_true (dig_in (all ch hcm))]
        rfl
    · obtain ⟨hs, hDD⟩ := hI
      refine ⟨D, _, rfl, SqL.of hDD, ?_⟩
      rw [show (List.replicate (num n).cps.size true).all id = true from List.all_eq_true.mpr fun b hb => by rw [List.eq_of_mem_replicate hb]; rfl]
      exact q H1 hs
def spNumber (C : Addr) : Sp := fun vs H Q _ => ∃ (a : Addr) (ws : List Str) (r : Nat) (lo hi n : Int), vs = [.ref a, .int lo, .int hi] ∧ LnAt C H a ws r ∧ ws[r]? = some (num n) ∧ 0 ≤ n ∧ n < 10000000 ∧ lo ≤ n ∧ n ≤ hi ∧
  ∀ H', SameX a H H' → LnAt C H' a ws (r + 1) → Q (.int n) H'
theorem int_of_num {n : Int} (h0 : 0 ≤ n) (h1 : n < 10000000) : PySem.intText? (num n) = some n ∧ (num n).length ≤ 640 := by
  have e : n = ((n.toNat : Nat) : Int) := by omega
  have hl := numL_len7 (n := n.toNat) (by omega)
  refine ⟨?_, ?_⟩
  · have h := TL.int_num (n := n.toNat) (Nat.le_trans hl (by decide))
    rw [← e] at h
    exact h
  · rw [TL.len_tl, show TL.tl (num n) = tl (num n) from rfl, num_nat h0]
    omega
theorem d_read_number (T : TxtL K mg C) (D_is_number : DefOk P w K mg base CX0 1 "is_number" ["word"] spIsNum) (D_Line_due : MDef P w K mg base CX0 2 C "due" ["self"] [] (spDue C)) (D_Line_step : MDef P w K mg base CX0 1 C "step" ["self"] [] (spStep C))
    (A : MAt K C "read_number" "Line.read_number" s_Line_read_number ["self", "least", "most"]) : MDef P w K mg base CX0 3 C "read_number" ["self", "least", "most"] [] (spNumber C) := by
  have B := T.B
  refine A.ok sc_Line_read_number (fun vs H Q E h => ?_) (fun f cdv A outer s H vs Q E hr h => ?_)
  · obtain ⟨a, ws, r, lo, hi, n, rfl, _⟩ := h
    rfl
  obtain ⟨a, ws, r, lo, hi, n, rfl, hL, hu, h0, hm, hlo, hhi, q⟩ := h
  obtain ⟨dx, nn, wl, c, h1, h2⟩ := hL.ex
  have hr' : r < ws.length := (List.getElem?_eq_some_iff.mp hu).1
  refine ⟨_, pss_cons (ps_set (i := 3) sc_Line_read_number.nd rfl (Or.inl rfl) (pe_m0 D_Line_due T.c_Line.cl (hr.mono (by omega)) pass0 (pv 0)))
  (pss_cons (ps_if (pt_not (pt_val (pe_f D_is_number (hr.mono (by omega)) pass0 (pa_cons (pv 3) pa_nil))))
      (pss_one (ps_never))
      (pss_nil))
  (pss_cons (ps_set (i := 4) sc_Line_read_number.nd rfl (Or.inl rfl) (pe_callTy (call_int_str) (by rfl) B.int (by decide +kernel) (pa_cons (pv 3) pa_nil)))
  (pss_cons (ps_if (PW.pt (pw_or (pt_cmpR op_lt (pv 4) (pv 1) (nomark _)) (pw_or1 (pt_cmpR op_gt (pv 4) (pv 2) (nomark _)))))
      (pss_one (ps_never))
      (pss_nil))
  (pss_cons (ps_expr (pe_m0 D_Line_step T.c_Line.cl (hr.mono (by omega)) pass0 (pv 0)))
  (pss_one (ps_ret (pv 4)))))))
    , ?_⟩
  refine ⟨_, rfl, a, dx, _, rfl, h1, lnF_no (by decide +kernel) (by decide +kernel) (by decide +kernel) (by decide +kernel), a, ws, r, _, rfl, hL, hu, ?_⟩
  refine ⟨_, rfl, n, rfl, h0, hm, fun H1 s1 => ⟨_, rfl, iteF ?_⟩⟩
  obtain ⟨i1, i2⟩ := int_of_num h0 hm
  refine ⟨_, rfl, _, n, rfl, i1, i2, ?_⟩
  refine ⟨_, rfl, _, rfl, _, _, rfl, rfl, _, rfl, iteF' (decide_eq_false (by omega)) ?_⟩
  refine ⟨_, rfl, _, rfl, _, _, rfl, rfl, _, rfl, iteF' (decide_eq_false (by omega)) ?_⟩
  refine ⟨_, rfl, a, dx, _, rfl, s1 _ _ h1, lnF_no (by decide +kernel) (by decide +kernel) (by decide +kernel) (by decide +kernel), a, ws, r, rfl, hL.same s1, hr', fun H' s' L' => ?_⟩
  exact ⟨_, rfl, q H' ((SameX.of s1).trans s') L'⟩
def spField (C : Addr) : Sp := fun vs H Q _ => ∃ (a : Addr) (ws : List Str) (r : Nat) (u : Str) (lo hi n : Int), vs = [.ref a, .str u, .int lo, .int hi] ∧ LnAt C H a ws r ∧ ws[r]? = some u ∧ ws[r + 1]? = some (num n) ∧ 0 ≤ n ∧ n < 10000000 ∧ lo ≤ n ∧ n ≤ hi ∧
  ∀ H', SameX a H H' → LnAt C H' a ws (r + 2) → Q (.int n) H'
theorem d_read_field (T : TxtL K mg C) (D_Line_read_choice : MDef P w K mg base CX0 3 C "read_choice" ["self", "choices"] [] (spChoice K C)) (D_Line_read_number : MDef P w K mg base CX0 3 C "read_number" ["self", "least", "most"] [] (spNumber C))
    (A : MAt K C "read_field" "Line.read_field" s_Line_read_field ["self", "word", "least", "most"]) : MDef P w K mg base CX0 4 C "read_field" ["self", "word", "least", "most"] [] (spField C) := by
  have B := T.B
  refine A.ok sc_Line_read_field (fun vs H Q E h => ?_) (fun f cdv A outer s H vs Q E hr h => ?_)
  · obtain ⟨a, ws, r, u, lo, hi, n, rfl, _⟩ := h
    rfl
  obtain ⟨a, ws, r, u, lo, hi, n, rfl, hL, hu, hn, h0, hm, hlo, hhi, q⟩ := h
  obtain ⟨dx, nn, wl, c, h1, h2⟩ := hL.ex
  refine ⟨_, pss_cons (ps_expr (pe_m D_Line_read_choice T.c_Line.cl (hr.mono (by omega)) pass0 (pv 0) (pa_cons (pe_tup (pa_cons (pv 1) pa_nil)) pa_nil)))
  (pss_one (ps_ret (pe_m D_Line_read_number T.c_Line.cl (hr.mono (by omega)) pass0 (pv 0) (pa_cons (pv 2) (pa_cons (pv 3) pa_nil)))))
    , ?_⟩
  refine ⟨_, rfl, a, dx, _, rfl, h1, lnF_no (by decide +kernel) (by decide +kernel) (by decide +kernel) (by decide +kernel), _, rfl, (by show 1 ≤ sizeLine; decide), fun t ht => ?_⟩
  have s1 : Same H (upd H t (.tup [.str u])) := same_new ht _
  refine ⟨a, ws, r, t, [u], u, rfl, hL.same s1, SqT.of upd_same, hu, List.mem_cons_self, fun H2 s2 L2 => ?_⟩
  obtain ⟨dx2, n2, wl2, c2, g1, g2⟩ := L2.ex
  refine ⟨_, rfl, a, dx2, _, rfl, g1, lnF_no (by decide +kernel) (by decide +kernel) (by decide +kernel) (by decide +kernel), _, rfl, _, rfl, a, ws, r + 1, lo, hi, n, rfl, L2, hn, h0, hm, hlo, hhi, fun H3 s3 L3 => ?_⟩
  exact q H3 (((SameX.of s1).trans s2).trans s3) L3
/-- a name's text -/
theorem let_in {c : Nat} (h : isL c = true) : c ∈ ("abcdefghijklmnopqrstuvwxyzABCDEFGHIJKLMNOPQRSTUVWXYZ" : Str).cps.toList := by
  have all : ∀ d, d < 123 → isL d = true → d ∈ ("abcdefghijklmnopqrstuvwxyzABCDEFGHIJKLMNOPQRSTUVWXYZ" : Str).cps.toList := by decide +kernel
  exact all c (by have := isL_lt h; omega) h
def spIsName : Sp := fun vs H Q _ => ∃ u : Str, vs = [.str u] ∧ NameOk u ∧ ∀ H', Same H H' → Q (.bl true) H'
theorem d_is_name (T : TxtL K mg C) (A : At K mg "is_name" s_is_name ["word"]) : DefOk P w K mg base CX0 1 "is_name" ["word"] spIsName := by
  have B := T.B
  refine A.ok sc_is_name (fun vs H Q E h => ?_) (fun f cdv A outer s H vs Q E hr h => ?_)
  · obtain ⟨u, rfl, _⟩ := h
    rfl
  obtain ⟨u, rfl, hu, q⟩ := h
  refine ⟨_, pss_cons (ps_if (PW.pt (pw_or (pt_cmpR op_gt (pe_callB (call_len_str) (by rfl) B.len (by decide +kernel) (pa_cons (pv 0) pa_nil)) (pe_gi T.g_MOST_NAME) (nomark _)) (pw_or1 (pt_cmpR op_notIn_sign (pe_ix ix_str (pv 0) pe_int (fun _ _ => rfl)) (pe_gs T.g_LETTERS) (by rfl)))))
      (pss_one (ps_ret pe_bl))
      (pss_nil))
  (pss_one (ps_ret (pe_callB (cr_all rfl) (by rfl) B.all (by decide +kernel) (pa_cons (pe_lc (own := [("letter", 1)])  rfl sc_is_name.nd (pi_str (pv 0)) (blkOk_by (own := [("letter", 1)]) (N := ["word", "letter"]) (sc := defScope s_is_name) (by decide +kernel)) (fun _ _ _ _ _ => pg_name (i := 1) sc_is_name.nd rfl (Or.inl rfl)) (fun _ _ _ _ _ => pts_nil) (fun _ _ _ _ _ => (pe_or (pe_cmpR op_in_sign (pv 1) (pe_gs T.g_LETTERS) (by rfl)) (pe_one (pe_cmpR op_in_sign (pv 1) (pe_gs T.g_DIGITS) (by rfl)))))) pa_nil))))
    , ?_⟩
  have signs := hu.signs
  obtain ⟨d, ds, e, hd, _, hl⟩ := hu
  have hlen : u.length ≤ 15 := by
    rw [TL.len_tl, show TL.tl u = tl u from rfl, e, List.length_cons]
    omega
  have hat : atI u.cps.toList 0 = some d := by
    show atI (tl u) 0 = some d
    rw [e]
    exact atI_nat (j := 0) rfl
  refine ⟨_, rfl, _, rfl, Nat.le_trans hlen (by decide), _, _, rfl, rfl, _, rfl, iteF' (decide_eq_false (by omega)) ?_⟩
  refine ⟨_, rfl, _, _, d, rfl, rfl, Nat.le_trans hlen (by decide), hat, d, _, rfl, rfl, _, rfl, iteF' (by rw [decide_eq_true (let_in hd)]; rfl) ?_⟩
  refine ⟨_, rfl, _, rfl, fun D hD => lc_it (walk_str) (fun i H' => Same H H' ∧ H' D = some (.lst ((List.replicate i true).map V.bl))) ⟨same_new hD _, upd_same⟩ (fun _ _ _ _ => True.intro) (fun i x H1 H2 hi hI hy => ?_) (fun H1 hI => ?_)⟩
  · obtain ⟨rfl, ch, hch, rfl⟩ := hy
    obtain ⟨hs, hDD⟩ := hI
    have hcm : ch ∈ tl u := by
      have : u.cps.toList[i]? = some ch := by rw [Array.getElem?_toList]; exact hch
      exact List.mem_of_getElem? this
    have room : ((List.replicate i true).map V.bl).length < sizeLine := by
      rw [List.length_map, List.length_replicate]
      have : u.cps.size ≤ 15 := hlen
      exact small1000 (by omega)
    refine ⟨rfl, _, rfl, ch, _, rfl, rfl, _, rfl, ite2 (fun c => ?_) (fun c => ?_)⟩
    · refine ⟨_, hDD, room, same_at hD hs _, ?_⟩
      rw [upd_same, List.replicate_succ', List.map_append]
      rfl
    · have c' : ¬ ch ∈ ("abcdefghijklmnopqrstuvwxyzABCDEFGHIJKLMNOPQRSTUVWXYZ" : Str).cps.toList := fun z => c (decide_eq_true z)
      have hdg : isD ch = true := by
        rcases Bool.or_eq_true _ _ ▸ (signs ch hcm) with z | z
        · exact absurd (let_in z) c'
        · exact z
      refine ⟨_, rfl, ch, _, rfl, rfl, _, hDD, room, same_at hD hs _, ?_⟩
      rw [upd_same, List.replicate_succ', List.map_append, decide_eq_true (dig_in (isD_lt hdg))]
      rfl
  · obtain ⟨hs, hDD⟩ := hI
    refine ⟨D, _, rfl, SqL.of hDD, ?_⟩
    rw [show (List.replicate u.cps.size true).all id = true from List.all_eq_true.mpr fun b hb => by rw [List.eq_of_mem_replicate hb]; rfl]
    exact q H1 hs
/-! #### names -/
def spDueName (C : Addr) : Sp := fun vs H Q _ => ∃ (a : Addr) (ws : List Str) (r : Nat) (u : Str), vs = [.ref a] ∧ LnAt C H a ws r ∧ ws[r]? = some u ∧ NameOk u ∧ ∀ H', Same H H' → Q (.str u) H'
theorem d_due_name (T : TxtL K mg C) (D_is_name : DefOk P w K mg base CX0 1 "is_name" ["word"] spIsName) (D_Line_due : MDef P w K mg base CX0 2 C "due" ["self"] [] (spDue C))
    (A : MAt K C "due_name" "Line.due_name" s_Line_due_name ["self"]) : MDef P w K mg base CX0 3 C "due_name" ["self"] [] (spDueName C) := by
  have B := T.B
  refine A.ok sc_Line_due_name (fun vs H Q E h => ?_) (fun f cdv A outer s H vs Q E hr h => ?_)
  · obtain ⟨a, ws, r, u, rfl, _⟩ := h
    rfl
  obtain ⟨a, ws, r, u, rfl, hL, hu, hn, q⟩ := h
  obtain ⟨dx, nn, wl, c, h1, h2⟩ := hL.ex
  refine ⟨_, pss_cons (ps_set (i := 1) sc_Line_due_name.nd rfl (Or.inl rfl) (pe_m0 D_Line_due T.c_Line.cl (hr.mono (by omega)) pass0 (pv 0)))
  (pss_cons (ps_if (pt_not (pt_val (pe_f D_is_name (hr.mono (by omega)) pass0 (pa_cons (pv 1) pa_nil))))
      (pss_one (ps_never))
      (pss_nil))
  (pss_one (ps_ret (pv 1))))
    , ?_⟩
  refine ⟨_, rfl, a, dx, _, rfl, h1, lnF_no (by decide +kernel) (by decide +kernel) (by decide +kernel) (by decide +kernel), a, ws, r, _, rfl, hL, hu, ?_⟩
  exact ⟨_, rfl, u, rfl, hn, fun H1 s1 => ⟨_, rfl, iteF ⟨_, rfl, q H1 s1⟩⟩⟩
def spNewName (K : PySem.W.Frag) (C : Addr) : Sp := fun vs H Q _ => ∃ (a : Addr) (ws : List Str) (r : Nat) (p : Addr) (ns : List Str) (u : Str), vs = [.ref a, .ref p] ∧ LnAt C H a ws r ∧ SqL K H p (ns.map V.str) ∧ ws[r]? = some u ∧ NameOk u ∧ u ∉ ns ∧
  ∀ H', SameX a H H' → LnAt C H' a ws (r + 1) → Q (.str u) H'
theorem d_read_new_name (T : TxtL K mg C) (D_Line_due_name : MDef P w K mg base CX0 3 C "due_name" ["self"] [] (spDueName C)) (D_Line_step : MDef P w K mg base CX0 1 C "step" ["self"] [] (spStep C))
    (A : MAt K C "read_new_name" "Line.read_new_name" s_Line_read_new_name ["self", "used"]) : MDef P w K mg base CX0 4 C "read_new_name" ["self", "used"] [] (spNewName K C) := by
  have B := T.B
  refine A.ok sc_Line_read_new_name (fun vs H Q E h => ?_) (fun f cdv A outer s H vs Q E hr h => ?_)
  · obtain ⟨a, ws, r, p, ns, u, rfl, _⟩ := h
    rfl
  obtain ⟨a, ws, r, p, ns, u, rfl, hL, hP, hu, hn, hno, q⟩ := h
  obtain ⟨dx, nn, wl, c, h1, h2⟩ := hL.ex
  have hr' : r < ws.length := (List.getElem?_eq_some_iff.mp hu).1
  refine ⟨_, pss_cons (ps_set (i := 2) sc_Line_read_new_name.nd rfl (Or.inl rfl) (pe_m0 D_Line_due_name T.c_Line.cl (hr.mono (by omega)) pass0 (pv 0)))
  (pss_cons (ps_if (pt_cmpR op_in_seq (pv 2) (pv 1) (by rfl))
      (pss_one (ps_never))
      (pss_nil))
  (pss_cons (ps_expr (pe_m0 D_Line_step T.c_Line.cl (hr.mono (by omega)) pass0 (pv 0)))
  (pss_one (ps_ret (pv 2)))))
    , ?_⟩
  refine ⟨_, rfl, a, dx, _, rfl, h1, lnF_no (by decide +kernel) (by decide +kernel) (by decide +kernel) (by decide +kernel), a, ws, r, _, rfl, hL, hu, hn, fun H1 s1 => ?_⟩
  refine ⟨_, rfl, _, rfl, p, _, rfl, .inl (s1.seq hP), rfl, flat_strs, _, rfl, iteF' (by rw [inV_str, decide_eq_false hno]; rfl) ?_⟩
  refine ⟨_, rfl, a, dx, _, rfl, s1 _ _ h1, lnF_no (by decide +kernel) (by decide +kernel) (by decide +kernel) (by decide +kernel), a, ws, r, rfl, hL.same s1, hr', fun H' s' L' => ?_⟩
  exact ⟨_, rfl, q H' ((SameX.of s1).trans s') L'⟩
/-- the name's first place, and no least one is asked -/
def spKnownName (K : PySem.W.Frag) (C : Addr) : Sp := fun vs H Q _ => ∃ (a : Addr) (ws : List Str) (r : Nat) (p : Addr) (ns : List Str) (u : Str) (j : Nat) (least : Int), vs = [.ref a, .ref p, .int least] ∧ LnAt C H a ws r ∧ SqL K H p (ns.map V.str) ∧ ws[r]? = some u ∧ NameOk u ∧
  ns[j]? = some u ∧ ns.Nodup ∧ least ≤ (j : Int) ∧ ∀ H', SameX a H H' → LnAt C H' a ws (r + 1) → Q (.int (j : Int)) H'
theorem nodup_first {ns : List Str} {u : Str} {j : Nat} (hd : ns.Nodup) (h : ns[j]? = some u) : ∀ (m : Nat) (z : V), m < j → (ns.map V.str)[m]? = some z → eqV z (.str u) = false := fun m z hm hz => by
  rw [List.getElem?_map] at hz
  cases e : ns[m]? with
  | none => rw [e] at hz; cases hz
  | some y =>
    rw [e] at hz
    have ez : V.str y = z := Option.some.inj hz
    rw [← ez]
    show decide (y = u) = false
    refine decide_eq_false fun q => ?_
    obtain ⟨h1, e1⟩ := List.getElem?_eq_some_iff.mp e
    obtain ⟨h2, e2⟩ := List.getElem?_eq_some_iff.mp h
    have := (List.getElem_inj hd).mp (e1.trans (q.trans e2.symm))
    omega
theorem read_known_body {f : Addr} {cdv : Value} {A : Around} {outer : List Env} {s : Shared} {H : Hp} {vs : List V} {Q : VK} {E : XK} (T : TxtL K mg C) (D_Line_due_name : MDef P w K mg base CX0 3 C "due_name" ["self"] [] (spDueName C)) (D_Line_step : MDef P w K mg base CX0 1 C "step" ["self"] [] (spStep C))
    (hr : Room 3 (A.deeper (envOfC "Line.read_known_name" (defScope s_Line_read_known_name) s.heap.objs.size f cdv))) (h : spKnownName K C vs H Q E) :
    ∃ t, PSs (cxOf CX0 P w K mg base ["self", "names", "least", "word", "number"] "Line.read_known_name" (defScope s_Line_read_known_name) f cdv A outer s H E).nox (defBody s_Line_read_known_name) t ∧ t { nx := fun _ H' => Q .non H', rt := Q } (start ["self", "names", "least", "word", "number"] vs) H := by
  have B := T.B
  obtain ⟨a, ws, r, p, ns, u, j, least, rfl, hL, hP, hu, hn, hj, hd, hle, q⟩ := h
  obtain ⟨dx, nn, wl, c, h1, h2⟩ := hL.ex
  have hr' : r < ws.length := (List.getElem?_eq_some_iff.mp hu).1
  have hm : u ∈ ns := List.mem_of_getElem? hj
  refine ⟨_, pss_cons (ps_set (i := 3) sc_Line_read_known_name.nd rfl (Or.inl rfl) (pe_m0 D_Line_due_name T.c_Line.cl (hr.mono (by omega)) pass0 (pv 0)))
  (pss_cons (ps_if (pt_cmpR op_notIn_seq (pv 3) (pv 1) (by rfl))
      (pss_one (ps_never))
      (pss_nil))
  (pss_cons (ps_set (i := 4) sc_Line_read_known_name.nd rfl (Or.inl rfl) (pe_bm PySem.F.plainAttrs_list PySem.F.slot_list_index PySem.F.type_list_index mt_index (pv 1) (pa_cons (pv 3) pa_nil)))
  (pss_cons (ps_if (pt_cmpR op_lt (pv 4) (pv 2) (nomark _))
      (pss_one (ps_never))
      (pss_nil))
  (pss_cons (ps_expr (pe_m0 D_Line_step T.c_Line.cl (hr.mono (by omega)) pass0 (pv 0)))
  (pss_one (ps_ret (pv 4)))))))
    , ?_⟩
  refine ⟨_, rfl, a, dx, _, rfl, h1, lnF_no (by decide +kernel) (by decide +kernel) (by decide +kernel) (by decide +kernel), a, ws, r, _, rfl, hL, hu, hn, fun H1 s1 => ?_⟩
  refine ⟨_, rfl, _, rfl, p, _, rfl, .inl (s1.seq hP), rfl, flat_strs, _, rfl, iteF' (by rw [inV_str, decide_eq_true hm]; rfl) ?_⟩
  refine ⟨_, rfl, .inl ⟨rfl, _, s1.seq hP⟩, _, rfl, p, _, _, j, .str u, rfl, rfl, s1.seq hP, rfl, flat_strs, by rw [List.getElem?_map, hj]; rfl, decide_eq_true rfl, nodup_first hd hj, ?_⟩
  refine ⟨_, rfl, _, rfl, _, _, rfl, rfl, _, rfl, iteF' (decide_eq_false (by omega)) ?_⟩
  refine ⟨_, rfl, a, dx, _, rfl, s1 _ _ h1, lnF_no (by decide +kernel) (by decide +kernel) (by decide +kernel) (by decide +kernel), a, ws, r, rfl, hL.same s1, hr', fun H' s' L' => ?_⟩
  exact ⟨_, rfl, q H' ((SameX.of s1).trans s') L'⟩
theorem d_read_known_name (T : TxtL K mg C) (D_Line_due_name : MDef P w K mg base CX0 3 C "due_name" ["self"] [] (spDueName C)) (D_Line_step : MDef P w K mg base CX0 1 C "step" ["self"] [] (spStep C))
    (A : MAtD K C "read_known_name" "Line.read_known_name" s_Line_read_known_name ["self", "names", "least"] [.int 0]) : MDef P w K mg base CX0 4 C "read_known_name" ["self", "names", "least"] [.int 0] (spKnownName K C) := by
  refine A.ok sc_Line_read_known_name (fun vs H Q E h => ?_) (fun f cdv A outer s H vs Q E hr h => read_known_body T D_Line_due_name D_Line_step hr h)
  obtain ⟨a, ws, r, p, ns, u, j, least, rfl, _⟩ := h
  rfl
def spFinish (C : Addr) : Sp := fun vs H Q _ => ∃ (a : Addr) (ws : List Str), vs = [.ref a] ∧ LnAt C H a ws ws.length ∧ Q .non H
theorem d_finish (T : TxtL K mg C) (D_Line_has_more : MDef P w K mg base CX0 1 C "has_more" ["self"] [] (spHasMore C)) (A : MAt K C "finish" "Line.finish" s_Line_finish ["self"]) : MDef P w K mg base CX0 3 C "finish" ["self"] [] (spFinish C) := by
  have B := T.B
  refine A.ok sc_Line_finish (fun vs H Q E h => ?_) (fun f cdv A outer s H vs Q E hr h => ?_)
  · obtain ⟨a, ws, rfl, _⟩ := h
    rfl
  obtain ⟨a, ws, rfl, hL, q⟩ := h
  obtain ⟨dx, nn, wl, c, h1, h2⟩ := hL.ex
  refine ⟨_, pss_one (ps_if (pt_val (pe_m0 D_Line_has_more T.c_Line.cl (hr.mono (by omega)) pass0 (pv 0)))
      (pss_cons (ps_never)
      (pss_one (ps_never)))
      (pss_nil))
    , ?_⟩
  exact ⟨_, rfl, a, dx, _, rfl, h1, lnF_no (by decide +kernel) (by decide +kernel) (by decide +kernel) (by decide +kernel), a, ws, _, rfl, hL, _, rfl, iteF' (decide_eq_false (Nat.lt_irrefl _)) q⟩
/-! #### the lines of a text -/
def spLines (C : Addr) : Sp := fun vs H Q _ => ∃ (lns : List (List Str)), vs = [.str (glue (lns.map row))] ∧ (∀ l ∈ lns, l ≠ [] ∧ (∀ x ∈ l, WdOk x) ∧ l.length ≤ 1015) ∧ lns.length ≤ 100 ∧ (glue (lns.map row)).length ≤ 1000000 ∧
  ∀ (p : Addr) (as : List Addr) (H' : Hp), Same H H' → H p = none → (∀ a ∈ as, H a = none) → as.Nodup → H' p = some (.lst (as.map V.ref)) → Paired (fun a l => LnAt C H' a l 0) as lns → Q (.ref p) H'
theorem d_lines_of (T : TxtL K mg C) (DI_Line : MDef P w K mg base CX0 1 C "__init__" ["self", "number", "row"] [] (spLnInit C)) (A : At K mg "lines_of" s_lines_of ["text"]) : DefOk P w K mg base CX0 3 "lines_of" ["text"] (spLines C) := by
  have B := T.B
  refine A.ok sc_lines_of (fun vs H Q E h => ?_) (fun f cdv A outer s H vs Q E hr h => ?_)
  · obtain ⟨lns, rfl, _⟩ := h
    rfl
  obtain ⟨lns, rfl, hl, hn, hz, q⟩ := h
  refine ⟨_, pss_cons (ps_set (i := 1) sc_lines_of.nd rfl (Or.inl rfl) (pe_split (pv 0) pe_str))
  (pss_cons (ps_set (i := 2) sc_lines_of.nd rfl (Or.inl rfl) (pe_bm0 PySem.F.plainAttrs_list PySem.F.slot_list_pop PySem.F.type_list_pop mt_pop (pv 1)))
  (pss_cons (ps_if (pt_cmpR op_ne (pv 2) pe_str (nomark _))
      (pss_one (ps_never))
      (pss_nil))
  (pss_one (ps_ret (pe_lc (own := [("number", 3), ("row", 4)])  rfl sc_lines_of.nd (pi_enumS (by rfl) B.enumerate (pa_cons (pv 1) pa_nil) (pk_cons pe_int pk_nil)) (blkOk_by (own := [("number", 3), ("row", 4)]) (N := ["text", "rows", "last", "number", "row"]) (sc := defScope s_lines_of) (by decide +kernel)) (fun _ _ _ _ _ => pg_tupK (K := K) (n := 2) rfl (by rfl) (pgs_cons (pg_name (i := 3) sc_lines_of.nd rfl (Or.inl rfl)) (pgs_cons (pg_name (i := 4) sc_lines_of.nd rfl (Or.inl rfl)) (pgs_nil)))) (fun _ _ _ _ _ => pts_nil) (fun _ _ _ _ _ => (pe_mk DI_Line T.c_Line (hr.mono (by omega)) pass0 (pa_cons (pv 3) (pa_cons (pv 4) pa_nil)))))))))
    , ?_⟩
  have hsplit : Txt.split (glue (lns.map row)) nl = lns.map row ++ [Str.empty] := glue_split fun r hr => by
    obtain ⟨l, hl', rfl⟩ := List.mem_map.mp hr
    exact row_free (hl l hl').2.1
  refine ⟨_, rfl, ⟨_, rfl⟩, _, nl, rfl, rfl, by decide +kernel, Nat.le_trans (Nat.add_le_add_right hz 2) (by decide), fun rl hrl => ?_⟩
  have e0 : upd H rl (.lst ((Txt.split (glue (lns.map row)) nl).map V.str)) = upd H rl (.lst ((lns.map row).map V.str ++ [.str Str.empty])) := by
    rw [hsplit, List.map_append]
    rfl
  rw [e0]
  refine ⟨_, rfl, .inl ⟨rfl, _, SqL.of upd_same⟩, rl, _, .str Str.empty, rfl, rfl, upd_same, by rw [List.length_append, List.length_singleton, Nat.add_sub_cancel, List.getElem?_append_right (Nat.le_refl _), Nat.sub_self]; rfl, ?_⟩
  rw [upd_upd, List.dropLast_concat]
  refine ⟨_, rfl, rfl, _, rfl, iteF' (by decide +kernel) ?_⟩
  refine ⟨_, rfl, _, _, 1, rfl, rfl, SqL.of upd_same, by decide, by decide, fun D hD => ?_⟩
  have hrlD : rl ≠ D := fun z => by
    rw [← z, upd_same] at hD
    cases hD
  have hD0 : H D = none := by
    rw [upd_ne hrlD.symm] at hD
    exact hD
  have sS : Same H (upd H rl (.lst ((lns.map row).map V.str))) := same_new hrl _
  refine lc_it (walk_enumS (xs := (lns.map row).map V.str)) (fun i H' => ∃ as : List Addr, as.length = i ∧ H' D = some (.lst (as.map V.ref)) ∧ Same (upd H rl (.lst ((lns.map row).map V.str))) H' ∧ (∀ a ∈ as, H a = none) ∧ as.Nodup ∧ Paired (fun a l => LnAt C H' a l 0 ∧ l ≠ []) as (lns.take i))
    ⟨[], rfl, upd_same, same_new hD _, fun _ z => absurd z List.not_mem_nil, List.nodup_nil, .nil⟩ (fun i H1 _ ⟨as, _, _, z, _⟩ => z.seq (SqL.of upd_same)) (fun i x H1 H2 hi hI hy => ?_) (fun H1 hI => ?_)
  · obtain ⟨T', x2, rfl, hT', rfl, hx2⟩ := hy
    obtain ⟨as, ha, hDD, hs, hfr, hnd, hpr⟩ := hI
    have hi' : i < lns.length := by
      rw [List.length_map, List.length_map] at hi
      exact hi
    have ex2 : x2 = .str (row lns[i]) := by
      rw [List.getElem?_map, List.getElem?_map, List.getElem?_eq_getElem hi'] at hx2
      exact (Option.some.inj hx2).symm
    subst ex2
    obtain ⟨k1, k2, k3⟩ := hl _ (List.getElem_mem hi')
    have s12 := same_new hT' (.tup [.int (1 + (i : Int)), .str (row lns[i])])
    refine ⟨T', _, rfl, SqT.of upd_same, rfl, _, _, rfl, _, _, rfl, rfl, rfl, _, rfl, _, rfl, fun x dx hx hdx ne => ?_⟩
    refine ⟨x, dx, _, lns[i], rfl, upd_same, k1, k2, by omega, fun H3 s3 L3 => ⟨rfl, ?_⟩⟩
    have s13 : Same H1 H3 := s12.trans (same_mk hx hdx s3)
    have hxH : H x = none := (sS.trans (hs.trans s12)).free hx
    refine ⟨_, s13 _ _ hDD, by rw [List.length_map, ha]; exact small1000 (by omega), as ++ [x], by rw [List.length_append, ha, List.length_singleton], by rw [upd_same, List.map_append]; rfl, same_at hD (hs.trans s13) _, ?_, ?_, ?_⟩
    · intro a hma
      rcases List.mem_append.mp hma with hma | hma
      · exact hfr a hma
      · rw [List.mem_singleton.mp hma]; exact hxH
    · refine List.nodup_append.mpr ⟨hnd, List.pairwise_singleton _ _, fun a hma b hmb z => ?_⟩
      rw [List.mem_singleton.mp hmb] at z
      subst z
      obtain ⟨j, hj, ej⟩ := List.mem_iff_getElem.mp hma
      obtain ⟨l, _, hla⟩ := paired_at hpr (List.getElem?_eq_getElem hj)
      rw [ej] at hla
      obtain ⟨d1, d2, d3, d4, g1, _⟩ := hla.1.ex
      rw [(s12 _ _ g1)] at hx
      cases hx
    · have upL : ∀ {a : Addr} {l : List Str}, l ≠ [] → LnAt C H3 a l 0 → LnAt C (upd H3 D (.lst (as.map V.ref ++ [.ref x]))) a l 0 := fun {a l} hne h => by
        obtain ⟨d1, d2, d3, d4, g1, g2⟩ := h.ex
        have gD := s13 _ _ hDD
        refine ⟨⟨d1, d2, d3, d4, by rw [upd_ne (ne_of g1 gD (fun z => nomatch z))]; exact g1, ?_⟩, h.ok⟩
        have n2 : d3 ≠ D := fun z => by
          rw [z, gD] at g2
          injection g2 with g2
          injection g2 with g2
          cases l with
          | nil => exact hne rfl
          | cons b bs => cases as with
            | nil => cases g2
            | cons c cs => cases g2
        rw [upd_ne n2]
        exact g2
      rw [List.take_add_one, List.getElem?_eq_getElem hi']
      exact paired_snoc (Paired.mapP hpr fun a l h => ⟨upL h.2 (h.1.same s13), h.2⟩) ⟨upL k1 L3, k1⟩
  · obtain ⟨as, ha, hDD, hs, hfr, hnd, hpr⟩ := hI
    rw [List.length_map, List.length_map, List.take_length] at hpr
    exact q D as H1 (sS.trans hs) hD0 hfr hnd hDD (Paired.mapP hpr fun a l h => h.1)
end
end DP
/-! worlds read -/
namespace DP
open PySem PySem.Spec PyProof.Rows L2
abbrev s_names_of : Stmt := topS 33
theorem sc_names_of : FnScope ["things", "thing"] ["things"] (defScope s_names_of) := ⟨rfl, rfl, rfl, by decide +kernel, rfl, by decide +kernel, by decide +kernel⟩
abbrev s_read_light : Stmt := topS 35
theorem sc_read_light : FnScope ["line", "horizon", "light", "least", "first"] ["line", "horizon"] (defScope s_read_light) := ⟨rfl, rfl, rfl, by decide +kernel, rfl, by decide +kernel, by decide +kernel⟩
abbrev s_read_satellite : Stmt := topS 34
theorem sc_read_satellite : FnScope ["line", "horizon", "things", "name", "store", "battery", "level", "reserve", "charge", "settle", "light"] ["line", "horizon", "things"] (defScope s_read_satellite) := ⟨rfl, rfl, rfl, by decide +kernel, rfl, by decide +kernel, by decide +kernel⟩
abbrev s_read_station : Stmt := topS 36
theorem sc_read_station : FnScope ["line", "_", "things", "name", "antennas", "turn"] ["line", "_", "things"] (defScope s_read_station) := ⟨rfl, rfl, rfl, by decide +kernel, rfl, by decide +kernel, by decide +kernel⟩
abbrev s_read_recording : Stmt := topS 37
theorem sc_read_recording : FnScope ["line", "horizon", "things", "name", "satellite", "earliest", "latest", "length", "size", "energy", "worth", "rank", "deadline"] ["line", "horizon", "things"] (defScope s_read_recording) := ⟨rfl, rfl, rfl, by decide +kernel, rfl, by decide +kernel, by decide +kernel⟩
abbrev s_read_pass : Stmt := topS 38
theorem sc_read_pass : FnScope ["line", "horizon", "things", "name", "satellite", "station", "first", "end", "room", "energy", "fee"] ["line", "horizon", "things"] (defScope s_read_pass) := ⟨rfl, rfl, rfl, by decide +kernel, rfl, by decide +kernel, by decide +kernel⟩
abbrev s_most_things : Stmt := topS 43
theorem sc_most_things : FnScope ["sort", "most"] ["sort"] (defScope s_most_things) := ⟨rfl, rfl, rfl, by decide +kernel, rfl, by decide +kernel, by decide +kernel⟩
abbrev s_read_sort : Stmt := topS 42
theorem sc_read_sort : FnScope ["line", "ahead", "things", "word", "sort"] ["line", "ahead", "things"] (defScope s_read_sort) := ⟨rfl, rfl, rfl, by decide +kernel, rfl, by decide +kernel, by decide +kernel⟩
abbrev s_read_things : Stmt := topS 41
theorem sc_read_things : FnScope ["lines", "horizon", "things", "sort", "line", "reader"] ["lines", "horizon"] (defScope s_read_things) := ⟨rfl, rfl, rfl, by decide +kernel, rfl, by decide +kernel, by decide +kernel⟩
abbrev s_Satellite___init__ : Stmt := inClass (topS 28) 0
theorem sc_Satellite___init__ : FnScope ["self", "name", "store", "battery", "start_level", "reserve", "charge", "settle", "light"] ["self", "name", "store", "battery", "start_level", "reserve", "charge", "settle", "light"] (defScope s_Satellite___init__) := ⟨rfl, rfl, rfl, by decide +kernel, rfl, by decide +kernel, by decide +kernel⟩
abbrev s_Station___init__ : Stmt := inClass (topS 29) 0
theorem sc_Station___init__ : FnScope ["self", "name", "antennas", "turn"] ["self", "name", "antennas", "turn"] (defScope s_Station___init__) := ⟨rfl, rfl, rfl, by decide +kernel, rfl, by decide +kernel, by decide +kernel⟩
abbrev s_Recording___init__ : Stmt := inClass (topS 30) 0
theorem sc_Recording___init__ : FnScope ["self", "name", "satellite", "earliest", "latest", "length", "size", "energy", "worth", "rank", "deadline"] ["self", "name", "satellite", "earliest", "latest", "length", "size", "energy", "worth", "rank", "deadline"] (defScope s_Recording___init__) := ⟨rfl, rfl, rfl, by decide +kernel, rfl, by decide +kernel, by decide +kernel⟩
abbrev s_Pass___init__ : Stmt := inClass (topS 31) 0
theorem sc_Pass___init__ : FnScope ["self", "name", "satellite", "station", "span", "room", "energy", "fee"] ["self", "name", "satellite", "station", "span", "room", "energy", "fee"] (defScope s_Pass___init__) := ⟨rfl, rfl, rfl, by decide +kernel, rfl, by decide +kernel, by decide +kernel⟩
abbrev s_World___init__ : Stmt := inClass (topS 32) 6
theorem sc_World___init__ : FnScope ["self", "text", "horizon", "things", "satellites", "stations", "recordings", "passes"] ["self", "text", "horizon", "things"] (defScope s_World___init__) := ⟨rfl, rfl, rfl, by decide +kernel, rfl, by decide +kernel, by decide +kernel⟩
abbrev s_World_parse : Stmt := inClass (topS 32) 7
theorem sc_World_parse : FnScope ["text", "lines", "horizon"] ["text"] (defScope s_World_parse) := ⟨rfl, rfl, rfl, by decide +kernel, rfl, by decide +kernel, by decide +kernel⟩
theorem SameX.new {a L : Addr} {H H' : Hp} {o : HO} (hL : H L = none) (s : SameX a H H') : SameX a H (L2.upd H' L o) := fun b u n h => by
  rw [upd_ne (ne_of_none h hL)]
  exact s b u n h
theorem SameX.sqT {K : PySem.W.Frag} {H H' : Hp} {a t C dx : Addr} {fs : List (Str × V)} {xs : List V} (s : SameX a H H') (ha : H a = some (.ins C dx fs)) (h : SqT K H t xs) : SqT K H' t xs := by
  rcases h with (h | ⟨u, h⟩) | h
  · exact .inl (.inl (s _ _ (ne_of h ha (fun z => nomatch z)) h))
  · exact .inl (.inr ⟨u, s _ _ (ne_of h ha (fun z => nomatch z)) h⟩)
  · exact .inr h
theorem SameX.sqL {K : PySem.W.Frag} {H H' : Hp} {a t C dx : Addr} {fs : List (Str × V)} {xs : List V} (s : SameX a H H') (ha : H a = some (.ins C dx fs)) (h : SqL K H t xs) : SqL K H' t xs := by
  rcases h with (h | ⟨u, h⟩) | h
  · exact .inl (.inl (s _ _ (ne_of h ha (fun z => nomatch z)) h))
  · exact .inl (.inr ⟨u, s _ _ (ne_of h ha (fun z => nomatch z)) h⟩)
  · exact .inr h
theorem SameX.spans {K : PySem.W.Frag} {H H' : Hp} {a C dx : Addr} {fs : List (Str × V)} {xs : List V} {qs : List (Int × Int)} (s : SameX a H H') (ha : H a = some (.ins C dx fs)) (h : Spans K H xs qs) : Spans K H' xs qs :=
  Paired.mapP h fun _ _ ⟨t, h1, h2⟩ => ⟨t, h1, s.sqT ha h2⟩
/-- an object with a name -/
def Named (K : PySem.W.Frag) (H : Hp) (x : V) (nm : Str) : Prop := ∃ a C dx fs, x = .ref a ∧ H a = some (.ins C dx fs) ∧ Cls K C ∧ NoAttr K C "name" ∧ fs.lookup ("name" : Str) = some (.str nm)
theorem Named.same {K : PySem.W.Frag} {H H' : Hp} {x : V} {nm : Str} (h : Named K H x nm) (s : Same H H') : Named K H' x nm := by
  obtain ⟨a, C, dx, fs, h1, h2, h3⟩ := h
  exact ⟨a, C, dx, fs, h1, s _ _ h2, h3⟩
section
variable {P : Program} {w : World} {K : PySem.W.Frag} {mg : Str → Option Value} {base : Heap}
def spNames (K : PySem.W.Frag) : Sp := fun vs H Q _ => ∃ (l : Addr) (xs : List V) (ns : List Str), vs = [.ref l] ∧ SqL K H l xs ∧ Paired (Named K H) xs ns ∧ ns.length ≤ 100 ∧
  ∀ p H', Same H H' → H p = none → H' p = some (.lst (ns.map V.str)) → Q (.ref p) H'
theorem d_names_of (B : Bt mg) (A : At K mg "names_of" s_names_of ["things"]) : DefOk P w K mg base CX0 1 "names_of" ["things"] (spNames K) := by
  refine A.ok sc_names_of (fun vs H Q E h => ?_) (fun f cdv A outer s H vs Q E hr h => ?_)
  · obtain ⟨l, xs, ns, rfl, _⟩ := h
    rfl
  obtain ⟨l, xs, ns, rfl, hl, hp, hn, q⟩ := h
  have hlen := paired_len hp
  refine ⟨_, pss_one (ps_ret (pe_lc (own := [("thing", 1)])  rfl sc_names_of.nd (pi_list (pv 0)) (blkOk_by (own := [("thing", 1)]) (N := ["things", "thing"]) (sc := defScope s_names_of) (by decide +kernel)) (fun _ _ _ _ _ => pg_name (i := 1) sc_names_of.nd rfl (Or.inl rfl)) (fun _ _ _ _ _ => pts_nil) (fun _ _ _ _ _ => (pe_fldK (K := K) rfl (pv 1) rfl))))
    , ?_⟩
  refine ⟨_, rfl, l, rfl, ⟨_, hl⟩, fun D hD => ?_⟩
  refine lc_list (K := K) (a := l) (xs := xs) (fun i H' => Same H H' ∧ H' D = some (.lst ((ns.take i).map V.str))) ⟨same_new hD _, upd_same⟩ (fun i H' _ h => h.1.seq hl) (fun i x H1 hx hI => ?_) (fun H1 hI => ?_)
  · obtain ⟨hs, hDD⟩ := hI
    obtain ⟨nm, hnm, hx2⟩ := paired_at hp hx
    obtain ⟨a, C, dx, fs, rfl, h2, h3, h4, h5⟩ := hx2
    refine ⟨rfl, _, rfl, a, C, dx, fs, _, rfl, hs _ _ h2, h3, h4, h5, _, hDD, ?_, same_at hD hs _, ?_⟩
    · rw [List.length_map, List.length_take]
      exact small1000 (by omega)
    · rw [upd_same, List.take_add_one, hnm, List.map_append]
      rfl
  · obtain ⟨hs, hDD⟩ := hI
    rw [hlen, List.take_length] at hDD
    exact q D H1 hs hD hDD
end
/-! ### the objects -/
def satF (s : SatD) (t : Addr) : List (Str × V) := [("name", .str s.name), ("store", .int s.store), ("battery", .int s.battery), ("start_level", .int s.level), ("reserve", .int s.reserve), ("charge", .int s.charge), ("settle", .int s.settle), ("light", .ref t)]
def staF (s : StaD) : List (Str × V) := [("name", .str s.name), ("antennas", .int s.antennas), ("turn", .int s.turn)]
def recF (r : RecD) : List (Str × V) := [("name", .str r.name), ("satellite", .int (r.sat : Int)), ("earliest", .int r.earliest), ("latest", .int r.latest), ("length", .int r.length), ("size", .int r.size), ("energy", .int r.energy), ("worth", .int r.worth), ("rank", .int r.rank), ("deadline", .int r.deadline)]
def pasF (p : PasD) (t : Addr) : List (Str × V) := [("name", .str p.name), ("satellite", .int (p.sat : Int)), ("station", .int (p.sta : Int)), ("span", .ref t), ("room", .int p.room), ("energy", .int p.energy), ("fee", .int p.fee)]
def SatAt (K : PySem.W.Frag) (C : Addr) (H : Hp) (x : V) (s : SatD) : Prop := ∃ a dx t ls, x = .ref a ∧ H a = some (.ins C dx (satF s t)) ∧ SqT K H t ls ∧ Spans K H ls s.light
def StaAt (C : Addr) (H : Hp) (x : V) (s : StaD) : Prop := ∃ a dx, x = .ref a ∧ H a = some (.ins C dx (staF s))
def RecAt (C : Addr) (H : Hp) (x : V) (r : RecD) : Prop := ∃ a dx, x = .ref a ∧ H a = some (.ins C dx (recF r))
def PasAt (K : PySem.W.Frag) (C : Addr) (H : Hp) (x : V) (p : PasD) : Prop := ∃ a dx t, x = .ref a ∧ H a = some (.ins C dx (pasF p t)) ∧ SqT K H t [.int p.first, .int p.fin]
/-- a line stays apart from the other objects: their fields are more or fewer -/
theorem SameX.ins {H H' : Hp} {a b C D dx dy : Addr} {fs gs : List (Str × V)} (s : SameX a H H') (ha : H a = some (.ins C dx fs)) (hb : H b = some (.ins D dy gs)) (n : gs.length ≠ fs.length) : H' b = some (.ins D dy gs) := s b _ (ins_ne hb ha n) hb
/-- what the text tells of the other classes -/
structure TxtW (K : PySem.W.Frag) (mg : Str → Option Value) (CL CS CT CR CP CW aS aR fS fT fR fP : Addr) : Prop where
  L : TxtL K mg CL
  c_Satellite : ClsAt K mg "Satellite" CS
  c_Station : ClsAt K mg "Station" CT
  c_Recording : ClsAt K mg "Recording" CR
  c_Pass : ClsAt K mg "Pass" CP
  c_World : ClsAt K mg "World" CW
  n_Satellite_name : NoAttr K CS "name"
  n_Satellite_store : NoAttr K CS "store"
  n_Satellite_battery : NoAttr K CS "battery"
  n_Satellite_start_level : NoAttr K CS "start_level"
  n_Satellite_reserve : NoAttr K CS "reserve"
  n_Satellite_charge : NoAttr K CS "charge"
  n_Satellite_settle : NoAttr K CS "settle"
  n_Satellite_light : NoAttr K CS "light"
  n_Station_name : NoAttr K CT "name"
  n_Station_antennas : NoAttr K CT "antennas"
  n_Station_turn : NoAttr K CT "turn"
  n_Recording_name : NoAttr K CR "name"
  n_Recording_satellite : NoAttr K CR "satellite"
  n_Recording_earliest : NoAttr K CR "earliest"
  n_Recording_latest : NoAttr K CR "latest"
  n_Recording_length : NoAttr K CR "length"
  n_Recording_size : NoAttr K CR "size"
  n_Recording_energy : NoAttr K CR "energy"
  n_Recording_worth : NoAttr K CR "worth"
  n_Recording_rank : NoAttr K CR "rank"
  n_Recording_deadline : NoAttr K CR "deadline"
  n_Pass_name : NoAttr K CP "name"
  n_Pass_satellite : NoAttr K CP "satellite"
  n_Pass_station : NoAttr K CP "station"
  n_Pass_span : NoAttr K CP "span"
  n_Pass_room : NoAttr K CP "room"
  n_Pass_energy : NoAttr K CP "energy"
  n_Pass_fee : NoAttr K CP "fee"
  n_World_text : NoAttr K CW "text"
  n_World_horizon : NoAttr K CW "horizon"
  n_World_satellites : NoAttr K CW "satellites"
  n_World_stations : NoAttr K CW "stations"
  n_World_recordings : NoAttr K CW "recordings"
  n_World_passes : NoAttr K CW "passes"
  g_SATELLITES : ∃ t, mg "SATELLITES" = some (.int 0 t)
  g_STATIONS : ∃ t, mg "STATIONS" = some (.int 1 t)
  g_RECORDINGS : ∃ t, mg "RECORDINGS" = some (.int 2 t)
  g_PASSES : ∃ t, mg "PASSES" = some (.int 3 t)
  g_MOST_UNITS : ∃ t, mg "MOST_UNITS" = some (.int 1000000 t)
  g_MOST_CHARGE : ∃ t, mg "MOST_CHARGE" = some (.int 1000 t)
  g_MOST_DELAY : ∃ t, mg "MOST_DELAY" = some (.int 60 t)
  g_MOST_ANTENNAS : ∃ t, mg "MOST_ANTENNAS" = some (.int 3 t)
  g_MOST_WORTH : ∃ t, mg "MOST_WORTH" = some (.int 1000 t)
  g_MOST_RANK : ∃ t, mg "MOST_RANK" = some (.int 3 t)
  g_MOST_FEE : ∃ t, mg "MOST_FEE" = some (.int 1000 t)
  g_SORTS : mg "SORTS" = some (.ref aS)
  t_SORTS : ∀ H, SqT K H aS (([("satellite" : Str), "station", "recording", "pass"]).map V.str)
  k_SORTS : ∃ o, K.lookup aS = some o ∧ o.cls = .type "tuple" ∧ o.dict = none
  g_READERS : mg "READERS" = some (.ref aR)
  t_READERS : ∀ H, SqT K H aR [.ref fS, .ref fT, .ref fR, .ref fP]
  r_satellite : mg "read_satellite" = some (.ref fS)
  r_station : mg "read_station" = some (.ref fT)
  r_recording : mg "read_recording" = some (.ref fR)
  r_pass : mg "read_pass" = some (.ref fP)
  rdW : ClX.CRead K CW (.type "type")
  v_MOST_HORIZON : ∃ t, ClX.CVal K CW (.type "type") "MOST_HORIZON" (.int 500) (.int 500 t)
  v_MOST_SATELLITES : ∃ t, ClX.CVal K CW (.type "type") "MOST_SATELLITES" (.int 3) (.int 3 t)
  v_MOST_STATIONS : ∃ t, ClX.CVal K CW (.type "type") "MOST_STATIONS" (.int 3) (.int 3 t)
  v_MOST_RECORDINGS : ∃ t, ClX.CVal K CW (.type "type") "MOST_RECORDINGS" (.int 10) (.int 10 t)
  v_MOST_PASSES : ∃ t, ClX.CVal K CW (.type "type") "MOST_PASSES" (.int 10) (.int 10 t)
  v_MOST_SHIFT : ∃ t, ClX.CVal K CW (.type "type") "MOST_SHIFT" (.int 20) (.int 20 t)
section
variable {P : Program} {w : World} {K : PySem.W.Frag} {mg : Str → Option Value} {base : Heap} {CL CS CT CR CP CW aS aR fS fT fR fP : Addr}
theorem TxtW.c_Line (T : TxtW K mg CL CS CT CR CP CW aS aR fS fT fR fP) : ClsAt K mg "Line" CL := T.L.c_Line
def spI_Satellite (C : Addr) : Sp := fun vs H Q _ => ∃ (x dx : Addr) (v0 v1 v2 v3 v4 v5 v6 v7 : V), vs = [.ref x, v0, v1, v2, v3, v4, v5, v6, v7] ∧ H x = some (.ins C dx []) ∧
  Q .non (upd H x (.ins C dx [("name", v0), ("store", v1), ("battery", v2), ("start_level", v3), ("reserve", v4), ("charge", v5), ("settle", v6), ("light", v7)]))
theorem dI_Satellite (T : TxtW K mg CL CS CT CR CP CW aS aR fS fT fR fP) (A : MAt K CS "__init__" "Satellite.__init__" s_Satellite___init__ ["self", "name", "store", "battery", "start_level", "reserve", "charge", "settle", "light"]) : MDef P w K mg base CX0 1 CS "__init__" ["self", "name", "store", "battery", "start_level", "reserve", "charge", "settle", "light"] [] (spI_Satellite CS) := by
  refine A.ok sc_Satellite___init__ (fun vs H Q E h => ?_) (fun f cdv A outer s H vs Q E hr h => ?_)
  · obtain ⟨x, dx, v0, v1, v2, v3, v4, v5, v6, v7, rfl, _⟩ := h
    rfl
  obtain ⟨x, dx, v0, v1, v2, v3, v4, v5, v6, v7, rfl, hx, q⟩ := h
  refine ⟨_, pss_cons (ps_fld (pv 0) (pv 1) rfl)
  (pss_cons (ps_fld (pv 0) (pv 2) rfl)
  (pss_cons (ps_fld (pv 0) (pv 3) rfl)
  (pss_cons (ps_fld (pv 0) (pv 4) rfl)
  (pss_cons (ps_fld (pv 0) (pv 5) rfl)
  (pss_cons (ps_fld (pv 0) (pv 6) rfl)
  (pss_cons (ps_fld (pv 0) (pv 7) rfl)
  (pss_one (ps_fld (pv 0) (pv 8) rfl)))))))), ?_⟩
  refine ⟨_, rfl, _, rfl, x, CS, dx, _, rfl, hx, T.c_Satellite.cl, T.n_Satellite_name, (by show 0 < 1000; decide), ?_⟩
  rw [put_nil]
  refine ⟨_, rfl, _, rfl, x, CS, dx, _, rfl, upd_same, T.c_Satellite.cl, T.n_Satellite_store, (by show 1 < 1000; decide), ?_⟩
  rw [upd_upd]
  rw [put_miss (by decide +kernel)]
  rw [put_nil]
  refine ⟨_, rfl, _, rfl, x, CS, dx, _, rfl, upd_same, T.c_Satellite.cl, T.n_Satellite_battery, (by show 2 < 1000; decide), ?_⟩
  rw [upd_upd]
  rw [put_miss (by decide +kernel)]
  rw [put_miss (by decide +kernel)]
  rw [put_nil]
  refine ⟨_, rfl, _, rfl, x, CS, dx, _, rfl, upd_same, T.c_Satellite.cl, T.n_Satellite_start_level, (by show 3 < 1000; decide), ?_⟩
  rw [upd_upd]
  rw [put_miss (by decide +kernel)]
  rw [put_miss (by decide +kernel)]
  rw [put_miss (by decide +kernel)]
  rw [put_nil]
  refine ⟨_, rfl, _, rfl, x, CS, dx, _, rfl, upd_same, T.c_Satellite.cl, T.n_Satellite_reserve, (by show 4 < 1000; decide), ?_⟩
  rw [upd_upd]
  rw [put_miss (by decide +kernel)]
  rw [put_miss (by decide +kernel)]
  rw [put_miss (by decide +kernel)]
  rw [put_miss (by decide +kernel)]
  rw [put_nil]
  refine ⟨_, rfl, _, rfl, x, CS, dx, _, rfl, upd_same, T.c_Satellite.cl, T.n_Satellite_charge, (by show 5 < 1000; decide), ?_⟩
  rw [upd_upd]
  rw [put_miss (by decide +kernel)]
  rw [put_miss (by decide +kernel)]
  rw [put_miss (by decide +kernel)]
  rw [put_miss (by decide +kernel)]
  rw [put_miss (by decide +kernel)]
  rw [put_nil]
  refine ⟨_, rfl, _, rfl, x, CS, dx, _, rfl, upd_same, T.c_Satellite.cl, T.n_Satellite_settle, (by show 6 < 1000; decide), ?_⟩
  rw [upd_upd]
  rw [put_miss (by decide +kernel)]
  rw [put_miss (by decide +kernel)]
  rw [put_miss (by decide +kernel)]
  rw [put_miss (by decide +kernel)]
  rw [put_miss (by decide +kernel)]
  rw [put_miss (by decide +kernel)]
  rw [put_nil]
  refine ⟨_, rfl, _, rfl, x, CS, dx, _, rfl, upd_same, T.c_Satellite.cl, T.n_Satellite_light, (by show 7 < 1000; decide), ?_⟩
  rw [upd_upd]
  rw [put_miss (by decide +kernel)]
  rw [put_miss (by decide +kernel)]
  rw [put_miss (by decide +kernel)]
  rw [put_miss (by decide +kernel)]
  rw [put_miss (by decide +kernel)]
  rw [put_miss (by decide +kernel)]
  rw [put_miss (by decide +kernel)]
  rw [put_nil]
  exact q
def spI_Station (C : Addr) : Sp := fun vs H Q _ => ∃ (x dx : Addr) (v0 v1 v2 : V), vs = [.ref x, v0, v1, v2] ∧ H x = some (.ins C dx []) ∧
  Q .non (upd H x (.ins C dx [("name", v0), ("antennas", v1), ("turn", v2)]))
theorem dI_Station (T : TxtW K mg CL CS CT CR CP CW aS aR fS fT fR fP) (A : MAt K CT "__init__" "Station.__init__" s_Station___init__ ["self", "name", "antennas", "turn"]) : MDef P w K mg base CX0 1 CT "__init__" ["self", "name", "antennas", "turn"] [] (spI_Station CT) := by
  refine A.ok sc_Station___init__ (fun vs H Q E h => ?_) (fun f cdv A outer s H vs Q E hr h => ?_)
  · obtain ⟨x, dx, v0, v1, v2, rfl, _⟩ := h
    rfl
  obtain ⟨x, dx, v0, v1, v2, rfl, hx, q⟩ := h
  refine ⟨_, pss_cons (ps_fld (pv 0) (pv 1) rfl)
  (pss_cons (ps_fld (pv 0) (pv 2) rfl)
  (pss_one (ps_fld (pv 0) (pv 3) rfl))), ?_⟩
  refine ⟨_, rfl, _, rfl, x, CT, dx, _, rfl, hx, T.c_Station.cl, T.n_Station_name, (by show 0 < 1000; decide), ?_⟩
  rw [put_nil]
  refine ⟨_, rfl, _, rfl, x, CT, dx, _, rfl, upd_same, T.c_Station.cl, T.n_Station_antennas, (by show 1 < 1000; decide), ?_⟩
  rw [upd_upd]
  rw [put_miss (by decide +kernel)]
  rw [put_nil]
  refine ⟨_, rfl, _, rfl, x, CT, dx, _, rfl, upd_same, T.c_Station.cl, T.n_Station_turn, (by show 2 < 1000; decide), ?_⟩
  rw [upd_upd]
  rw [put_miss (by decide +kernel)]
  rw [put_miss (by decide +kernel)]
  rw [put_nil]
  exact q
def spI_Recording (C : Addr) : Sp := fun vs H Q _ => ∃ (x dx : Addr) (v0 v1 v2 v3 v4 v5 v6 v7 v8 v9 : V), vs = [.ref x, v0, v1, v2, v3, v4, v5, v6, v7, v8, v9] ∧ H x = some (.ins C dx []) ∧
  Q .non (upd H x (.ins C dx [("name", v0), ("satellite", v1), ("earliest", v2), ("latest", v3), ("length", v4), ("size", v5), ("energy", v6), ("worth", v7), ("rank", v8), ("deadline", v9)]))
theorem dI_Recording (T : TxtW K mg CL CS CT CR CP CW aS aR fS fT fR fP) (A : MAt K CR "__init__" "Recording.__init__" s_Recording___init__ ["self", "name", "satellite", "earliest", "latest", "length", "size", "energy", "worth", "rank", "deadline"]) : MDef P w K mg base CX0 1 CR "__init__" ["self", "name", "satellite", "earliest", "latest", "length", "size", "energy", "worth", "rank", "deadline"] [] (spI_Recording CR) := by
  refine A.ok sc_Recording___init__ (fun vs H Q E h => ?_) (fun f cdv A outer s H vs Q E hr h => ?_)
  · obtain ⟨x, dx, v0, v1, v2, v3, v4, v5, v6, v7, v8, v9, rfl, _⟩ := h
    rfl
  obtain ⟨x, dx, v0, v1, v2, v3, v4, v5, v6, v7, v8, v9, rfl, hx, q⟩ := h
  refine ⟨_, pss_cons (ps_fld (pv 0) (pv 1) rfl)
  (pss_cons (ps_fld (pv 0) (pv 2) rfl)
  (pss_cons (ps_fld (pv 0) (pv 3) rfl)
  (pss_cons (ps_fld (pv 0) (pv 4) rfl)
  (pss_cons (ps_fld (pv 0) (pv 5) rfl)
  (pss_cons (ps_fld (pv 0) (pv 6) rfl)
  (pss_cons (ps_fld (pv 0) (pv 7) rfl)
  (pss_cons (ps_fld (pv 0) (pv 8) rfl)
  (pss_cons (ps_fld (pv 0) (pv 9) rfl)
  (pss_one (ps_fld (pv 0) (pv 10) rfl)))))))))), ?_⟩
  refine ⟨_, rfl, _, rfl, x, CR, dx, _, rfl, hx, T.c_Recording.cl, T.n_Recording_name, (by show 0 < 1000; decide), ?_⟩
  rw [put_nil]
  refine ⟨_, rfl, _, rfl, x, CR, dx, _, rfl, upd_same, T.c_Recording.cl, T.n_Recording_satellite, (by show 1 < 1000; decide), ?_⟩
  rw [upd_upd]
  rw [put_miss (by decide +kernel)]
  rw [put_nil]
  refine ⟨_, rfl, _, rfl, x, CR, dx, _, rfl, upd_same, T.c_Recording.cl, T.n_Recording_earliest, (by show 2 < 1000; decide), ?_⟩
  rw [upd_upd]
  rw [put_miss (by decide +kernel)]
  rw [put_miss (by decide +kernel)]
  rw [put_nil]
  refine ⟨_, rfl, _, rfl, x, CR, dx, _, rfl, upd_same, T.c_Recording.cl, T.n_Recording_latest, (by show 3 < 1000; decide), ?_⟩
  rw [upd_upd]
  rw [put_miss (by decide +kernel)]
  rw [put_miss (by decide +kernel)]
  rw [put_miss (by decide +kernel)]
  rw [put_nil]
  refine ⟨_, rfl, _, rfl, x, CR, dx, _, rfl, upd_same, T.c_Recording.cl, T.n_Recording_length, (by show 4 < 1000; decide), ?_⟩
  rw [upd_upd]
  rw [put_miss (by decide +kernel)]
  rw [put_miss (by decide +kernel)]
  rw [put_miss (by decide +kernel)]
  rw [put_miss (by decide +kernel)]
  rw [put_nil]
  refine ⟨_, rfl, _, rfl, x, CR, dx, _, rfl, upd_same, T.c_Recording.cl, T.n_Recording_size, (by show 5 < 1000; decide), ?_⟩
  rw [upd_upd]
  rw [put_miss (by decide +kernel)]
  rw [put_miss (by decide +kernel)]
  rw [put_miss (by decide +kernel)]
  rw [put_miss (by decide +kernel)]
  rw [put_miss (by decide +kernel)]
  rw [put_nil]
  refine ⟨_, rfl, _, rfl, x, CR, dx, _, rfl, upd_same, T.c_Recording.cl, T.n_Recording_energy, (by show 6 < 1000; decide), ?_⟩
  rw [upd_upd]
  rw [put_miss (by decide +kernel)]
  rw [put_miss (by decide +kernel)]
  rw [put_miss (by decide +kernel)]
  rw [put_miss (by decide +kernel)]
  rw [put_miss (by decide +kernel)]
  rw [put_miss (by decide +kernel)]
  rw [put_nil]
  refine ⟨_, rfl, _, rfl, x, CR, dx, _, rfl, upd_same, T.c_Recording.cl, T.n_Recording_worth, (by show 7 < 1000; decide), ?_⟩
  rw [upd_upd]
  rw [put_miss (by decide +kernel)]
  rw [put_miss (by decide +kernel)]
  rw [put_miss (by decide +kernel)]
  rw [put_miss (by decide +kernel)]
  rw [put_miss (by decide +kernel)]
  rw [put_miss (by decide +kernel)]
  rw [put_miss (by decide +kernel)]
  rw [put_nil]
  refine ⟨_, rfl, _, rfl, x, CR, dx, _, rfl, upd_same, T.c_Recording.cl, T.n_Recording_rank, (by show 8 < 1000; decide), ?_⟩
  rw [upd_upd]
  rw [put_miss (by decide +kernel)]
  rw [put_miss (by decide +kernel)]
  rw [put_miss (by decide +kernel)]
  rw [put_miss (by decide +kernel)]
  rw [put_miss (by decide +kernel)]
  rw [put_miss (by decide +kernel)]
  rw [put_miss (by decide +kernel)]
  rw [put_miss (by decide +kernel)]
  rw [put_nil]
  refine ⟨_, rfl, _, rfl, x, CR, dx, _, rfl, upd_same, T.c_Recording.cl, T.n_Recording_deadline, (by show 9 < 1000; decide), ?_⟩
  rw [upd_upd]
  rw [put_miss (by decide +kernel)]
  rw [put_miss (by decide +kernel)]
  rw [put_miss (by decide +kernel)]
  rw [put_miss (by decide +kernel)]
  rw [put_miss (by decide +kernel)]
  rw [put_miss (by decide +kernel)]
  rw [put_miss (by decide +kernel)]
  rw [put_miss (by decide +kernel)]
  rw [put_miss (by decide +kernel)]
  rw [put_nil]
  exact q
def spI_Pass (C : Addr) : Sp := fun vs H Q _ => ∃ (x dx : Addr) (v0 v1 v2 v3 v4 v5 v6 : V), vs = [.ref x, v0, v1, v2, v3, v4, v5, v6] ∧ H x = some (.ins C dx []) ∧
  Q .non (upd H x (.ins C dx [("name", v0), ("satellite", v1), ("station", v2), ("span", v3), ("room", v4), ("energy", v5), ("fee", v6)]))
theorem dI_Pass (T : TxtW K mg CL CS CT CR CP CW aS aR fS fT fR fP) (A : MAt K CP "__init__" "Pass.__init__" s_Pass___init__ ["self", "name", "satellite", "station", "span", "room", "energy", "fee"]) : MDef P w K mg base CX0 1 CP "__init__" ["self", "name", "satellite", "station", "span", "room", "energy", "fee"] [] (spI_Pass CP) := by
  refine A.ok sc_Pass___init__ (fun vs H Q E h => ?_) (fun f cdv A outer s H vs Q E hr h => ?_)
  · obtain ⟨x, dx, v0, v1, v2, v3, v4, v5, v6, rfl, _⟩ := h
    rfl
  obtain ⟨x, dx, v0, v1, v2, v3, v4, v5, v6, rfl, hx, q⟩ := h
  refine ⟨_, pss_cons (ps_fld (pv 0) (pv 1) rfl)
  (pss_cons (ps_fld (pv 0) (pv 2) rfl)
  (pss_cons (ps_fld (pv 0) (pv 3) rfl)
  (pss_cons (ps_fld (pv 0) (pv 4) rfl)
  (pss_cons (ps_fld (pv 0) (pv 5) rfl)
  (pss_cons (ps_fld (pv 0) (pv 6) rfl)
  (pss_one (ps_fld (pv 0) (pv 7) rfl))))))), ?_⟩
  refine ⟨_, rfl, _, rfl, x, CP, dx, _, rfl, hx, T.c_Pass.cl, T.n_Pass_name, (by show 0 < 1000; decide), ?_⟩
  rw [put_nil]
  refine ⟨_, rfl, _, rfl, x, CP, dx, _, rfl, upd_same, T.c_Pass.cl, T.n_Pass_satellite, (by show 1 < 1000; decide), ?_⟩
  rw [upd_upd]
  rw [put_miss (by decide +kernel)]
  rw [put_nil]
  refine ⟨_, rfl, _, rfl, x, CP, dx, _, rfl, upd_same, T.c_Pass.cl, T.n_Pass_station, (by show 2 < 1000; decide), ?_⟩
  rw [upd_upd]
  rw [put_miss (by decide +kernel)]
  rw [put_miss (by decide +kernel)]
  rw [put_nil]
  refine ⟨_, rfl, _, rfl, x, CP, dx, _, rfl, upd_same, T.c_Pass.cl, T.n_Pass_span, (by show 3 < 1000; decide), ?_⟩
  rw [upd_upd]
  rw [put_miss (by decide +kernel)]
  rw [put_miss (by decide +kernel)]
  rw [put_miss (by decide +kernel)]
  rw [put_nil]
  refine ⟨_, rfl, _, rfl, x, CP, dx, _, rfl, upd_same, T.c_Pass.cl, T.n_Pass_room, (by show 4 < 1000; decide), ?_⟩
  rw [upd_upd]
  rw [put_miss (by decide +kernel)]
  rw [put_miss (by decide +kernel)]
  rw [put_miss (by decide +kernel)]
  rw [put_miss (by decide +kernel)]
  rw [put_nil]
  refine ⟨_, rfl, _, rfl, x, CP, dx, _, rfl, upd_same, T.c_Pass.cl, T.n_Pass_energy, (by show 5 < 1000; decide), ?_⟩
  rw [upd_upd]
  rw [put_miss (by decide +kernel)]
  rw [put_miss (by decide +kernel)]
  rw [put_miss (by decide +kernel)]
  rw [put_miss (by decide +kernel)]
  rw [put_miss (by decide +kernel)]
  rw [put_nil]
  refine ⟨_, rfl, _, rfl, x, CP, dx, _, rfl, upd_same, T.c_Pass.cl, T.n_Pass_fee, (by show 6 < 1000; decide), ?_⟩
  rw [upd_upd]
  rw [put_miss (by decide +kernel)]
  rw [put_miss (by decide +kernel)]
  rw [put_miss (by decide +kernel)]
  rw [put_miss (by decide +kernel)]
  rw [put_miss (by decide +kernel)]
  rw [put_miss (by decide +kernel)]
  rw [put_nil]
  exact q
/-! ### light -/
def spLight (K : PySem.W.Frag) (CL : Addr) : Sp := fun vs H Q _ => ∃ (a : Addr) (ws : List Str) (r : Nat) (h : Int) (l : List (Int × Int)), vs = [.ref a, .int h] ∧ LnAt CL H a ws r ∧ r ≤ ws.length ∧ ws.drop r = lightW l ∧ LightOk 0 h l ∧ h ≤ 500 ∧ 0 ≤ h ∧
  ∀ t ls H', SameX a H H' → LnAt CL H' a ws ws.length → H' t = some (.tup ls) → Spans K H' ls l → Q (.ref t) H'
theorem drop_head {ws : List Str} {r : Nat} {u : Str} {t : List Str} (h : ws.drop r = u :: t) : ws[r]? = some u ∧ ws.drop (r + 1) = t := by
  have h1 : (ws.drop r)[0]? = some u := by rw [h]; rfl
  rw [List.getElem?_drop, Nat.add_zero] at h1
  refine ⟨h1, ?_⟩
  have h2 : (ws.drop r).drop 1 = t := by rw [h]; rfl
  rw [List.drop_drop] at h2
  exact h2
theorem drop_nil {ws : List Str} {r : Nat} (h : ws.drop r = []) : ws.length ≤ r := List.drop_eq_nil_iff.mp h
theorem d_read_light (T : TxtW K mg CL CS CT CR CP CW aS aR fS fT fR fP) (D_Line_has_more : MDef P w K mg base CX0 1 CL "has_more" ["self"] [] (spHasMore CL)) (D_Line_read_number : MDef P w K mg base CX0 3 CL "read_number" ["self", "least", "most"] [] (spNumber CL))
    (A : At K mg "read_light" s_read_light ["line", "horizon"]) : DefOk P w K mg base CX0 4 "read_light" ["line", "horizon"] (spLight K CL) := by
  have TW := T
  have T := T.L
  have B := T.B
  refine A.ok sc_read_light (fun vs H Q E h => ?_) (fun f cdv A outer s H vs Q E hr h => ?_)
  · obtain ⟨a, ws, r, h, l, rfl, _⟩ := h
    rfl
  obtain ⟨a, ws, r, h, l, rfl, hL, hrl, hd, hok, hh, hh0, q⟩ := h
  refine ⟨_, pss_cons (ps_set (i := 2) sc_read_light.nd rfl (Or.inl rfl) (pe_lst pa_nil))
  (pss_cons (ps_set (i := 3) sc_read_light.nd rfl (Or.inl rfl) pe_int)
  (pss_cons (ps_while PassesOwn.never (pt_val (pe_m0 D_Line_has_more T.c_Line.cl (hr.mono (by omega)) pass0 (pv 0)))
      (pss_cons (ps_set (i := 4) sc_read_light.nd rfl (Or.inl rfl) (pe_m D_Line_read_number T.c_Line.cl (hr.mono (by omega)) pass0 (pv 0) (pa_cons (pv 3) (pa_cons (pe_op op_sub (pv 1) pe_int) pa_nil))))
      (pss_cons (ps_set (i := 3) sc_read_light.nd rfl (Or.inl rfl) (pe_m D_Line_read_number T.c_Line.cl (hr.mono (by omega)) pass0 (pv 0) (pa_cons (pe_op op_add (pv 4) pe_int) (pa_cons (pv 1) pa_nil))))
      (pss_one (ps_expr (pe_bm PySem.F.plainAttrs_list PySem.F.slot_list_append PySem.F.type_list_append mt_append (pv 2) (pa_cons (pe_tup (pa_cons (pv 4) (pa_cons (pv 3) pa_nil))) pa_nil)))))))
  (pss_one (ps_ret (pe_callTy (call_tuple_of) (by rfl) B.tuple (by decide +kernel) (pa_cons (pv 2) pa_nil))))))
    , ?_⟩
  have no : ∀ {H' : Hp} {k : Nat}, LnAt CL H' a ws k → ∀ {m : Str}, (m == ("number" : Str)) = false → (m == ("words" : Str)) = false → (m == ("read" : Str)) = false → (m == ("column" : Str)) = false → ∃ dx fs, H' a = some (.ins CL dx fs) ∧ fs.lookup m = none := fun {H' k} hx {m} z1 z2 z3 z4 => by
    obtain ⟨dx, n, wl, c, h1, h2⟩ := hx.ex
    exact ⟨dx, _, h1, lnF_no z1 z2 z3 z4⟩
  refine ⟨Nat.zero_le _, fun L hLn => ?_⟩
  have eaL : a ≠ L := by
    obtain ⟨dx, n, wl, c, h1, h2⟩ := hL.ex
    exact ne_of_none h1 hLn
  refine ⟨fun n σ H' => ∃ (l1 l2 : List (Int × Int)) (ls : List V) (k : Nat) (le : Int) (y4 : Option V), n = l2.length ∧ l = l1 ++ l2 ∧ ws.drop k = lightW l2 ∧ k ≤ ws.length ∧ LightOk le h l2 ∧ 0 ≤ le ∧ l1.length ≤ 500 ∧ (l1.length : Int) ≤ le ∧
    σ = [some (.ref a), some (.int h), some (.ref L), some (.int le), y4] ∧ H' L = some (.lst ls) ∧ Spans K H' ls l1 ∧ LnAt CL H' a ws k ∧ SameX a H H', ⟨_, [], l, [], r, 0, none, rfl, rfl, hd, hrl, hok, Int.le_refl 0, Nat.zero_le _, Int.le_refl 0, rfl, upd_same, .nil, hL.same (same_new hLn _), SameX.of (same_new hLn _)⟩, fun n σ H' hI => ?_⟩
  obtain ⟨l1, l2, ls, k, le, y4, rfl, rfl, hdk, hk, hok2, hle, h500, hl1, rfl, hLL, hsp, hLk, hsx⟩ := hI
  obtain ⟨dx, fs, g1, g2⟩ := no hLk (m := "has_more") (by decide +kernel) (by decide +kernel) (by decide +kernel) (by decide +kernel)
  refine ⟨_, rfl, a, dx, fs, rfl, g1, g2, a, ws, k, rfl, hLk, _, rfl, ?_⟩
  cases l2 with
  | nil =>
    have hk2 := drop_nil hdk
    rw [decide_eq_false (by omega)]
    refine ⟨_, rfl, L, _, rfl, .inl ⟨SqL.of hLL, fun t ht => ?_⟩⟩
    rw [List.append_nil] at q
    refine q t ls _ (SameX.trans hsx (SameX.of (same_new ht _))) ?_ upd_same (hsp.same (same_new ht _))
    rw [show ws.length = k by omega]
    exact hLk.same (same_new ht _)
  | cons sp l2 =>
    obtain ⟨o1, o2, o3, o4⟩ := hok2
    obtain ⟨u1, hd1⟩ := drop_head (show ws.drop k = num sp.1 :: num sp.2 :: lightW l2 from hdk)
    obtain ⟨u2, hd2⟩ := drop_head hd1
    have k1 : k < ws.length := (List.getElem?_eq_some_iff.mp u1).1
    have k2 : k + 1 < ws.length := (List.getElem?_eq_some_iff.mp u2).1
    rw [decide_eq_true k1]
    refine ⟨fun σ' H'' => ∃ m, m < (sp :: l2).length ∧ ∃ (l1' l2' : List (Int × Int)) (ls : List V) (k : Nat) (le : Int) (y4 : Option V), m = l2'.length ∧ l1 ++ sp :: l2 = l1' ++ l2' ∧ ws.drop k = lightW l2' ∧ k ≤ ws.length ∧ LightOk le h l2' ∧ 0 ≤ le ∧ l1'.length ≤ 500 ∧ (l1'.length : Int) ≤ le ∧
      σ' = [some (.ref a), some (.int h), some (.ref L), some (.int le), y4] ∧ H'' L = some (.lst ls) ∧ Spans K H'' ls l1' ∧ LnAt CL H'' a ws k ∧ SameX a H H'', fun σ' H'' z => z, ?_⟩
    obtain ⟨dx, fs, g1, g2⟩ := no hLk (m := "read_number") (by decide +kernel) (by decide +kernel) (by decide +kernel) (by decide +kernel)
    refine ⟨_, rfl, a, dx, fs, rfl, g1, g2, _, rfl, _, rfl, _, _, rfl, rfl, a, ws, k, le, h - 1, sp.1, rfl, hLk, u1, by omega, by omega, o1, by omega, fun H1 s1 L1 => ?_⟩
    obtain ⟨dx1, fs1, g1', g2'⟩ := no L1 (m := "read_number") (by decide +kernel) (by decide +kernel) (by decide +kernel) (by decide +kernel)
    refine ⟨_, rfl, a, dx1, fs1, rfl, g1', g2', _, rfl, _, _, rfl, rfl, _, rfl, a, ws, k + 1, sp.1 + 1, h, sp.2, rfl, L1, u2, by omega, by omega, o2, o3, fun H2 s2 L2 => ?_⟩
    obtain ⟨dx2, n2, wl2, c2, g12, _⟩ := L2.ex
    have hL2 : H2 L = some (.lst ls) := s2 _ _ eaL.symm (s1 _ _ eaL.symm hLL)
    have hsp2 := s2.spans g1' (s1.spans g1 hsp)
    refine ⟨_, rfl, .inl ⟨rfl, _, SqL.of hL2⟩, _, rfl, _, rfl, (by show 2 ≤ sizeLine; decide), fun t ht => ?_⟩
    have eLt : L ≠ t := ne_of_none hL2 ht
    have hLt : (upd H2 t (.tup [.int sp.1, .int sp.2])) L = some (.lst ls) := by rw [upd_ne eLt]; exact hL2
    have hlsl := paired_len hsp
    refine ⟨L, ls, .ref t, rfl, rfl, hLt, by rw [hlsl]; exact small1000 (by omega), ?_⟩
    refine ⟨l2.length, by rw [List.length_cons]; omega, l1 ++ [sp], l2, ls ++ [.ref t], k + 2, sp.2, _, rfl, by rw [List.append_assoc]; rfl, hd2, by omega, o4, by omega, by rw [List.length_append, List.length_singleton]; omega, by rw [List.length_append, List.length_singleton]; omega, rfl, upd_same, ?_, ?_, ?_⟩
    · exact Spans.upd (paired_snoc (hsp2.same (same_new ht _)) ⟨t, rfl, SqT.of upd_same⟩) hLt
    · have L2t := L2.same (same_new ht (.tup [.int sp.1, .int sp.2]))
      obtain ⟨dx3, n3, wl3, c3, z1, z2⟩ := L2t.ex
      refine ⟨⟨dx3, n3, wl3, c3, by rw [upd_ne eaL]; exact z1, ?_⟩, L2t.ok⟩
      rw [upd_ne]
      · exact z2
      · intro z
        rw [z, hLt] at z2
        have e : ls = ws.map V.str := HO.lst.inj (Option.some.inj z2)
        cases ws with
        | nil => exact absurd k1 (Nat.not_lt_zero _)
        | cons w wr =>
          rw [e] at hsp
          cases hsp with
          | cons y _ =>
            obtain ⟨_, y1, _⟩ := y
            cases y1
    · exact SameX.new hLn (((hsx.trans s1).trans s2).trans (SameX.of (same_new ht _)))
/-! ### the readers of a line -/
/-- the things so far: four lists -/
structure Things (K : PySem.W.Frag) (H : Hp) (th : Addr) (ls : List Addr) : Prop where
  tup : SqT K H th (ls.map V.ref)
/-- the names of a sort's things -/
def NamesAt (K : PySem.W.Frag) (H : Hp) (th : Addr) (i : Nat) (ns : List Str) : Prop := ∃ (ls : List Addr) (l : Addr) (xs : List V), SqT K H th (ls.map V.ref) ∧ ls[i]? = some l ∧ SqL K H l xs ∧ Paired (Named K H) xs ns ∧ ns.length ≤ 100
theorem NamesAt.same {K : PySem.W.Frag} {H H' : Hp} {th : Addr} {i : Nat} {ns : List Str} (h : NamesAt K H th i ns) (s : Same H H') : NamesAt K H' th i ns := by
  obtain ⟨ls, l, xs, h1, h2, h3, h4, h5⟩ := h
  exact ⟨ls, l, xs, Same.tup s h1, h2, s.seq h3, Paired.mapP h4 fun _ _ z => z.same s, h5⟩
/-- a line is none of the named objects: it has no name -/
theorem SameX.named {K : PySem.W.Frag} {H H' : Hp} {a C dx : Addr} {fs : List (Str × V)} {x : V} {nm : Str} (s : SameX a H H') (ha : H a = some (.ins C dx fs)) (hn : fs.lookup ("name" : Str) = none) (h : Named K H x nm) : Named K H' x nm := by
  obtain ⟨b, D, dy, gs, h1, h2, h3, h4, h5⟩ := h
  refine ⟨b, D, dy, gs, h1, s _ _ (fun z => ?_) h2, h3, h4, h5⟩
  rw [z, ha] at h2
  injection h2 with h2
  injection h2 with z1 z2 z3
  rw [← z3, hn] at h5
  cases h5
theorem NamesAt.sameX {K : PySem.W.Frag} {CL : Addr} {H H' : Hp} {a : Addr} {ws : List Str} {r : Nat} {th : Addr} {i : Nat} {ns : List Str} (h : NamesAt K H th i ns) (hL : LnAt CL H a ws r) (s : SameX a H H') : NamesAt K H' th i ns := by
  obtain ⟨ls, l, xs, h1, h2, h3, h4, h5⟩ := h
  obtain ⟨dx, n, wl, c, g1, g2⟩ := hL.ex
  exact ⟨ls, l, xs, s.sqT g1 h1, h2, s.sqL g1 h3, Paired.mapP h4 fun _ _ z => s.named g1 (lnF_no (by decide +kernel) (by decide +kernel) (by decide +kernel) (by decide +kernel)) z, h5⟩
theorem le_min2 {n i j : Int} (h1 : n ≤ i) (h2 : n ≤ j) : n ≤ (if j < i then j else i) := by split <;> assumption
theorem LnAt.no {C : Addr} {H : Hp} {a : Addr} {ws : List Str} {r : Nat} (h : LnAt C H a ws r) {m : Str} (z1 : (m == ("number" : Str)) = false) (z2 : (m == ("words" : Str)) = false) (z3 : (m == ("read" : Str)) = false) (z4 : (m == ("column" : Str)) = false) :
    ∃ dx fs, H a = some (.ins C dx fs) ∧ fs.lookup m = none := by
  obtain ⟨dx, n, wl, c, h1, h2⟩ := h.ex
  exact ⟨dx, _, h1, lnF_no z1 z2 z3 z4⟩
theorem SameX.free {a x : Addr} {H H' : Hp} {o : HO} (s : SameX a H H') (ha : H' a = some o) (h : H' x = none) : H x = none := by
  cases q : H x with
  | none => rfl
  | some u =>
    by_cases e : x = a
    · rw [e, ha] at h; cases h
    · rw [s x u e q] at h; cases h
theorem LnAt.there {C : Addr} {H : Hp} {a : Addr} {ws : List Str} {r : Nat} (h : LnAt C H a ws r) : ∃ o, H a = some o := by
  obtain ⟨dx, n, wl, c, h1, h2⟩ := h.ex
  exact ⟨_, h1⟩
theorem same_made {H : Hp} {x dx : Addr} {o u v : HO} (hx : H x = none) (hd : H dx = none) : Same H (upd (upd (upd H dx o) x u) x v) := fun b z e => by
  have n1 : b ≠ x := ne_of_none e hx
  rw [upd_ne n1, upd_ne n1, upd_ne (ne_of_none e hd)]
  exact e
def spRdSat (K : PySem.W.Frag) (CL CS : Addr) : Sp := fun vs H Q _ => ∃ (a : Addr) (h : Int) (th : Addr) (s : SatD) (ns : List Str), vs = [.ref a, .int h, .ref th] ∧ LnAt CL H a (wSat s) 1 ∧ NamesAt K H th 0 ns ∧ s.name ∉ ns ∧ SatOk h s ∧ 1 ≤ h ∧ h ≤ 500 ∧
  ∀ b H', H b = none → SameX a H H' → LnAt CL H' a (wSat s) (wSat s).length → SatAt K CS H' (.ref b) s → Q (.ref b) H'
theorem d_read_satellite (T : TxtW K mg CL CS CT CR CP CW aS aR fS fT fR fP) (D_names_of : DefOk P w K mg base CX0 1 "names_of" ["things"] (spNames K)) (D_Line_read_new_name : MDef P w K mg base CX0 4 CL "read_new_name" ["self", "used"] [] (spNewName K CL))
    (D_Line_read_field : MDef P w K mg base CX0 4 CL "read_field" ["self", "word", "least", "most"] [] (spField CL)) (D_Line_read_choice : MDef P w K mg base CX0 3 CL "read_choice" ["self", "choices"] [] (spChoice K CL))
    (D_read_light : DefOk P w K mg base CX0 4 "read_light" ["line", "horizon"] (spLight K CL)) (DI_Satellite : MDef P w K mg base CX0 1 CS "__init__" ["self", "name", "store", "battery", "start_level", "reserve", "charge", "settle", "light"] [] (spI_Satellite CS))
    (A : At K mg "read_satellite" s_read_satellite ["line", "horizon", "things"]) : DefOk P w K mg base CX0 5 "read_satellite" ["line", "horizon", "things"] (spRdSat K CL CS) := by
  have B := T.L.B
  refine A.ok sc_read_satellite (fun vs H Q E h => ?_) (fun f cdv A outer s H vs Q E hr h => ?_)
  · obtain ⟨a, h, th, s, ns, rfl, _⟩ := h
    rfl
  obtain ⟨a, h, th, sd, ns, rfl, hL, hN, hno, ok, hh, hh5, q⟩ := h
  refine ⟨_, pss_cons (ps_set (i := 3) sc_read_satellite.nd rfl (Or.inl rfl) (pe_m D_Line_read_new_name T.c_Line.cl (hr.mono (by omega)) pass0 (pv 0) (pa_cons (pe_f D_names_of (hr.mono (by omega)) pass0 (pa_cons (pe_ix ix_tup (pv 2) (pe_gi T.g_SATELLITES) (fun _ _ => rfl)) pa_nil)) pa_nil)))
  (pss_cons (ps_set (i := 4) sc_read_satellite.nd rfl (Or.inl rfl) (pe_m D_Line_read_field T.c_Line.cl (hr.mono (by omega)) pass0 (pv 0) (pa_cons pe_str (pa_cons pe_int (pa_cons (pe_gi T.g_MOST_UNITS) pa_nil)))))
  (pss_cons (ps_set (i := 5) sc_read_satellite.nd rfl (Or.inl rfl) (pe_m D_Line_read_field T.c_Line.cl (hr.mono (by omega)) pass0 (pv 0) (pa_cons pe_str (pa_cons pe_int (pa_cons (pe_gi T.g_MOST_UNITS) pa_nil)))))
  (pss_cons (ps_set (i := 6) sc_read_satellite.nd rfl (Or.inl rfl) (pe_m D_Line_read_field T.c_Line.cl (hr.mono (by omega)) pass0 (pv 0) (pa_cons pe_str (pa_cons pe_int (pa_cons (pv 5) pa_nil)))))
  (pss_cons (ps_set (i := 7) sc_read_satellite.nd rfl (Or.inl rfl) (pe_m D_Line_read_field T.c_Line.cl (hr.mono (by omega)) pass0 (pv 0) (pa_cons pe_str (pa_cons pe_int (pa_cons (pv 6) pa_nil)))))
  (pss_cons (ps_set (i := 8) sc_read_satellite.nd rfl (Or.inl rfl) (pe_m D_Line_read_field T.c_Line.cl (hr.mono (by omega)) pass0 (pv 0) (pa_cons pe_str (pa_cons pe_int (pa_cons (pe_gi T.g_MOST_CHARGE) pa_nil)))))
  (pss_cons (ps_set (i := 9) sc_read_satellite.nd rfl (Or.inl rfl) (pe_m D_Line_read_field T.c_Line.cl (hr.mono (by omega)) pass0 (pv 0) (pa_cons pe_str (pa_cons pe_int (pa_cons (pe_gi T.g_MOST_DELAY) pa_nil)))))
  (pss_cons (ps_expr (pe_m D_Line_read_choice T.c_Line.cl (hr.mono (by omega)) pass0 (pv 0) (pa_cons (pe_tup (pa_cons pe_str pa_nil)) pa_nil)))
  (pss_cons (ps_set (i := 10) sc_read_satellite.nd rfl (Or.inl rfl) (pe_f D_read_light (hr.mono (by omega)) pass0 (pa_cons (pv 0) (pa_cons (pv 1) pa_nil))))
  (pss_one (ps_ret (pe_mk DI_Satellite T.c_Satellite (hr.mono (by omega)) pass0 (pa_cons (pv 3) (pa_cons (pv 4) (pa_cons (pv 5) (pa_cons (pv 6) (pa_cons (pv 7) (pa_cons (pv 8) (pa_cons (pv 9) (pa_cons (pv 10) pa_nil)))))))))))))))))))
    , ?_⟩
  have b1 := ok.store; have b2 := ok.battery; have b3 := ok.level; have b4 := ok.reserve; have b5 := ok.charge; have b6 := ok.settle
  obtain ⟨ls, l, xs, t1, t2, t3, t4, t5⟩ := hN
  obtain ⟨_, _, g0, z0⟩ := LnAt.no hL (m := "read_new_name") (by decide +kernel) (by decide +kernel) (by decide +kernel) (by decide +kernel)
  refine ⟨_, rfl, a, _, _, rfl, g0, z0, _, rfl, th, _, _, .ref l, rfl, rfl, t1, atI_nat (j := 0) (by rw [List.getElem?_map, t2]; rfl), l, xs, ns, rfl, t3, t4, t5, fun p H1 s1 np hp => ?_⟩
  refine ⟨a, _, 1, p, ns, sd.name, rfl, hL.same s1, SqL.of hp, rfl, ok.name, hno, fun H2 s2 L2 => ?_⟩
  (obtain ⟨_, _, g2, z2⟩ := LnAt.no L2 (m := "read_field") (by decide +kernel) (by decide +kernel) (by decide +kernel) (by decide +kernel); refine ⟨_, rfl, a, _, _, rfl, g2, z2, a, _, 2, _, _, _, sd.store, rfl, L2, rfl, rfl, by omega, by omega, by omega, by omega, fun H3 s3 L3 => ?_⟩)
  (obtain ⟨_, _, g3, z3⟩ := LnAt.no L3 (m := "read_field") (by decide +kernel) (by decide +kernel) (by decide +kernel) (by decide +kernel); refine ⟨_, rfl, a, _, _, rfl, g3, z3, a, _, 4, _, _, _, sd.battery, rfl, L3, rfl, rfl, by omega, by omega, by omega, by omega, fun H4 s4 L4 => ?_⟩)
  (obtain ⟨_, _, g4, z4⟩ := LnAt.no L4 (m := "read_field") (by decide +kernel) (by decide +kernel) (by decide +kernel) (by decide +kernel); refine ⟨_, rfl, a, _, _, rfl, g4, z4, _, rfl, a, _, 6, _, _, _, sd.level, rfl, L4, rfl, rfl, by omega, by omega, by omega, by omega, fun H5 s5 L5 => ?_⟩)
  (obtain ⟨_, _, g5, z5⟩ := LnAt.no L5 (m := "read_field") (by decide +kernel) (by decide +kernel) (by decide +kernel) (by decide +kernel); refine ⟨_, rfl, a, _, _, rfl, g5, z5, _, rfl, a, _, 8, _, _, _, sd.reserve, rfl, L5, rfl, rfl, by omega, by omega, by omega, by omega, fun H6 s6 L6 => ?_⟩)
  (obtain ⟨_, _, g6, z6⟩ := LnAt.no L6 (m := "read_field") (by decide +kernel) (by decide +kernel) (by decide +kernel) (by decide +kernel); refine ⟨_, rfl, a, _, _, rfl, g6, z6, a, _, 10, _, _, _, sd.charge, rfl, L6, rfl, rfl, by omega, by omega, by omega, by omega, fun H7 s7 L7 => ?_⟩)
  (obtain ⟨_, _, g7, z7⟩ := LnAt.no L7 (m := "read_field") (by decide +kernel) (by decide +kernel) (by decide +kernel) (by decide +kernel); refine ⟨_, rfl, a, _, _, rfl, g7, z7, a, _, 12, _, _, _, sd.settle, rfl, L7, rfl, rfl, by omega, by omega, by omega, by omega, fun H8 s8 L8 => ?_⟩)
  obtain ⟨_, _, g8, z8⟩ := LnAt.no L8 (m := "read_choice") (by decide +kernel) (by decide +kernel) (by decide +kernel) (by decide +kernel)
  refine ⟨_, rfl, a, _, _, rfl, g8, z8, (by show 1 ≤ sizeLine; decide), fun t ht => ?_⟩
  refine ⟨a, _, 14, t, [Str.ofString "light"], Str.ofString "light", rfl, L8.same (same_new ht _), SqT.of upd_same, rfl, List.mem_cons_self, fun H9 s9 L9 => ?_⟩
  refine ⟨_, rfl, _, rfl, a, _, 15, h, sd.light, rfl, L9, by unfold wSat; rw [List.length_append]; exact Nat.le_add_right 15 _, rfl, ok.light, hh5, by omega, fun t ls' H10 s10 L10 htt hsp => ?_⟩
  refine ⟨_, rfl, _, rfl, _, rfl, _, rfl, _, rfl, _, rfl, _, rfl, _, rfl, fun x dx hx hdx ne => ?_⟩
  refine ⟨x, dx, _, _, _, _, _, _, _, _, rfl, upd_same, rfl, ?_⟩
  have sA : SameX a H H10 := (((((((((SameX.of s1).trans s2).trans s3).trans s4).trans s5).trans s6).trans s7).trans s8).trans (SameX.of (same_new ht _))).trans (s9.trans s10)
  have sB := same_made (o := .own x) (u := .ins CS dx []) (v := .ins CS dx (satF sd t)) hx hdx
  obtain ⟨o, ho⟩ := L10.there
  refine q x _ (sA.free ho hx) (sA.trans (SameX.of sB)) (L10.same sB) ⟨x, dx, t, ls', rfl, upd_same, SqT.of (sB _ _ htt), hsp.same sB⟩
def spRdSta (K : PySem.W.Frag) (CL CT : Addr) : Sp := fun vs H Q _ => ∃ (a : Addr) (h : Int) (th : Addr) (s : StaD) (ns : List Str), vs = [.ref a, .int h, .ref th] ∧ LnAt CL H a (wSta s) 1 ∧ NamesAt K H th 1 ns ∧ s.name ∉ ns ∧ StaOk s ∧
  ∀ b H', H b = none → SameX a H H' → LnAt CL H' a (wSta s) (wSta s).length → StaAt CT H' (.ref b) s → Q (.ref b) H'
theorem d_read_station (T : TxtW K mg CL CS CT CR CP CW aS aR fS fT fR fP) (D_names_of : DefOk P w K mg base CX0 1 "names_of" ["things"] (spNames K)) (D_Line_read_new_name : MDef P w K mg base CX0 4 CL "read_new_name" ["self", "used"] [] (spNewName K CL))
    (D_Line_read_field : MDef P w K mg base CX0 4 CL "read_field" ["self", "word", "least", "most"] [] (spField CL)) (DI_Station : MDef P w K mg base CX0 1 CT "__init__" ["self", "name", "antennas", "turn"] [] (spI_Station CT))
    (A : At K mg "read_station" s_read_station ["line", "_", "things"]) : DefOk P w K mg base CX0 5 "read_station" ["line", "_", "things"] (spRdSta K CL CT) := by
  have B := T.L.B
  refine A.ok sc_read_station (fun vs H Q E h => ?_) (fun f cdv A outer s H vs Q E hr h => ?_)
  · obtain ⟨a, h, th, s, ns, rfl, _⟩ := h
    rfl
  obtain ⟨a, h, th, sd, ns, rfl, hL, hN, hno, ok, q⟩ := h
  refine ⟨_, pss_cons (ps_set (i := 3) sc_read_station.nd rfl (Or.inl rfl) (pe_m D_Line_read_new_name T.c_Line.cl (hr.mono (by omega)) pass0 (pv 0) (pa_cons (pe_f D_names_of (hr.mono (by omega)) pass0 (pa_cons (pe_ix ix_tup (pv 2) (pe_gi T.g_STATIONS) (fun _ _ => rfl)) pa_nil)) pa_nil)))
  (pss_cons (ps_set (i := 4) sc_read_station.nd rfl (Or.inl rfl) (pe_m D_Line_read_field T.c_Line.cl (hr.mono (by omega)) pass0 (pv 0) (pa_cons pe_str (pa_cons pe_int (pa_cons (pe_gi T.g_MOST_ANTENNAS) pa_nil)))))
  (pss_cons (ps_set (i := 5) sc_read_station.nd rfl (Or.inl rfl) (pe_m D_Line_read_field T.c_Line.cl (hr.mono (by omega)) pass0 (pv 0) (pa_cons pe_str (pa_cons pe_int (pa_cons (pe_gi T.g_MOST_DELAY) pa_nil)))))
  (pss_one (ps_ret (pe_mk DI_Station T.c_Station (hr.mono (by omega)) pass0 (pa_cons (pv 3) (pa_cons (pv 4) (pa_cons (pv 5) pa_nil))))))))
    , ?_⟩
  have b1 := ok.antennas; have b2 := ok.turn
  obtain ⟨ls, l, xs, t1, t2, t3, t4, t5⟩ := hN
  obtain ⟨_, _, g0, z0⟩ := LnAt.no hL (m := "read_new_name") (by decide +kernel) (by decide +kernel) (by decide +kernel) (by decide +kernel)
  refine ⟨_, rfl, a, _, _, rfl, g0, z0, _, rfl, th, _, _, .ref l, rfl, rfl, t1, atI_nat (j := 1) (by rw [List.getElem?_map, t2]; rfl), l, xs, ns, rfl, t3, t4, t5, fun p H1 s1 np hp => ?_⟩
  refine ⟨a, _, 1, p, ns, sd.name, rfl, hL.same s1, SqL.of hp, rfl, ok.name, hno, fun H2 s2 L2 => ?_⟩
  (obtain ⟨_, _, g2, z2⟩ := LnAt.no L2 (m := "read_field") (by decide +kernel) (by decide +kernel) (by decide +kernel) (by decide +kernel); refine ⟨_, rfl, a, _, _, rfl, g2, z2, a, _, 2, _, _, _, sd.antennas, rfl, L2, rfl, rfl, by omega, by omega, by omega, by omega, fun H3 s3 L3 => ?_⟩)
  (obtain ⟨_, _, g3, z3⟩ := LnAt.no L3 (m := "read_field") (by decide +kernel) (by decide +kernel) (by decide +kernel) (by decide +kernel); refine ⟨_, rfl, a, _, _, rfl, g3, z3, a, _, 4, _, _, _, sd.turn, rfl, L3, rfl, rfl, by omega, by omega, by omega, by omega, fun H10 s4 L10 => ?_⟩)
  refine ⟨_, rfl, _, rfl, _, rfl, fun x dx hx hdx ne => ?_⟩
  refine ⟨x, dx, _, _, _, rfl, upd_same, rfl, ?_⟩
  have sA : SameX a H H10 := (((SameX.of s1).trans s2).trans s3).trans s4
  have sB := same_made (o := .own x) (u := .ins CT dx []) (v := .ins CT dx (staF sd)) hx hdx
  obtain ⟨o, ho⟩ := L10.there
  exact q x _ (sA.free ho hx) (sA.trans (SameX.of sB)) (L10.same sB) ⟨x, dx, rfl, upd_same⟩
def spRdRec (K : PySem.W.Frag) (CL CR : Addr) : Sp := fun vs H Q _ => ∃ (a : Addr) (th : Addr) (W : WorldD) (s : RecD) (ns : List Str), vs = [.ref a, .int W.horizon, .ref th] ∧ LnAt CL H a (wRec W s) 1 ∧ NamesAt K H th 2 ns ∧ NamesAt K H th 0 (W.sats.map (·.name)) ∧ s.name ∉ ns ∧ WorldOk W ∧ RecOk W s ∧
  ∀ b H', H b = none → SameX a H H' → LnAt CL H' a (wRec W s) (wRec W s).length → RecAt CR H' (.ref b) s → Q (.ref b) H'
theorem d_read_recording (T : TxtW K mg CL CS CT CR CP CW aS aR fS fT fR fP) (D_names_of : DefOk P w K mg base CX0 1 "names_of" ["things"] (spNames K)) (D_Line_read_new_name : MDef P w K mg base CX0 4 CL "read_new_name" ["self", "used"] [] (spNewName K CL))
    (D_Line_read_field : MDef P w K mg base CX0 4 CL "read_field" ["self", "word", "least", "most"] [] (spField CL)) (D_Line_read_choice : MDef P w K mg base CX0 3 CL "read_choice" ["self", "choices"] [] (spChoice K CL))
    (D_Line_read_known_name : MDef P w K mg base CX0 4 CL "read_known_name" ["self", "names", "least"] [.int 0] (spKnownName K CL))
    (DI_Recording : MDef P w K mg base CX0 1 CR "__init__" ["self", "name", "satellite", "earliest", "latest", "length", "size", "energy", "worth", "rank", "deadline"] [] (spI_Recording CR))
    (A : At K mg "read_recording" s_read_recording ["line", "horizon", "things"]) : DefOk P w K mg base CX0 5 "read_recording" ["line", "horizon", "things"] (spRdRec K CL CR) := by
  have B := T.L.B
  refine A.ok sc_read_recording (fun vs H Q E h => ?_) (fun f cdv A outer s H vs Q E hr h => ?_)
  · obtain ⟨a, th, W, s, ns, rfl, _⟩ := h
    rfl
  obtain ⟨a, th, W, sd, ns, rfl, hL, hN, hS, hno, wok, ok, q⟩ := h
  refine ⟨_, pss_cons (ps_set (i := 3) sc_read_recording.nd rfl (Or.inl rfl) (pe_m D_Line_read_new_name T.c_Line.cl (hr.mono (by omega)) pass0 (pv 0) (pa_cons (pe_f D_names_of (hr.mono (by omega)) pass0 (pa_cons (pe_ix ix_tup (pv 2) (pe_gi T.g_RECORDINGS) (fun _ _ => rfl)) pa_nil)) pa_nil)))
  (pss_cons (ps_expr (pe_m D_Line_read_choice T.c_Line.cl (hr.mono (by omega)) pass0 (pv 0) (pa_cons (pe_tup (pa_cons pe_str pa_nil)) pa_nil)))
  (pss_cons (ps_set (i := 4) sc_read_recording.nd rfl (Or.inl rfl) (pe_m D_Line_read_known_name T.c_Line.cl (hr.mono (by omega)) pass0 (pv 0) (pa_cons (pe_f D_names_of (hr.mono (by omega)) pass0 (pa_cons (pe_ix ix_tup (pv 2) (pe_gi T.g_SATELLITES) (fun _ _ => rfl)) pa_nil)) pa_nil)))
  (pss_cons (ps_set (i := 5) sc_read_recording.nd rfl (Or.inl rfl) (pe_m D_Line_read_field T.c_Line.cl (hr.mono (by omega)) pass0 (pv 0) (pa_cons pe_str (pa_cons pe_int (pa_cons (pe_op op_sub (pv 1) pe_int) pa_nil)))))
  (pss_cons (ps_set (i := 6) sc_read_recording.nd rfl (Or.inl rfl) (pe_m D_Line_read_field T.c_Line.cl (hr.mono (by omega)) pass0 (pv 0) (pa_cons pe_str (pa_cons (pv 5) (pa_cons (pe_callB (call_min2 rfl) (by rfl) B.min (by decide +kernel) (pa_cons (pe_op op_add (pv 5) (ClX.pe_cval (pe_ga T.c_World.gC) rfl)) (pa_cons (pe_op op_sub (pv 1) pe_int) pa_nil))) pa_nil)))))
  (pss_cons (ps_set (i := 7) sc_read_recording.nd rfl (Or.inl rfl) (pe_m D_Line_read_field T.c_Line.cl (hr.mono (by omega)) pass0 (pv 0) (pa_cons pe_str (pa_cons pe_int (pa_cons (pe_op op_sub (pv 1) (pv 6)) pa_nil)))))
  (pss_cons (ps_set (i := 8) sc_read_recording.nd rfl (Or.inl rfl) (pe_m D_Line_read_field T.c_Line.cl (hr.mono (by omega)) pass0 (pv 0) (pa_cons pe_str (pa_cons pe_int (pa_cons (pe_gi T.g_MOST_UNITS) pa_nil)))))
  (pss_cons (ps_set (i := 9) sc_read_recording.nd rfl (Or.inl rfl) (pe_m D_Line_read_field T.c_Line.cl (hr.mono (by omega)) pass0 (pv 0) (pa_cons pe_str (pa_cons pe_int (pa_cons (pe_gi T.g_MOST_UNITS) pa_nil)))))
  (pss_cons (ps_set (i := 10) sc_read_recording.nd rfl (Or.inl rfl) (pe_m D_Line_read_field T.c_Line.cl (hr.mono (by omega)) pass0 (pv 0) (pa_cons pe_str (pa_cons pe_int (pa_cons (pe_gi T.g_MOST_WORTH) pa_nil)))))
  (pss_cons (ps_set (i := 11) sc_read_recording.nd rfl (Or.inl rfl) (pe_m D_Line_read_field T.c_Line.cl (hr.mono (by omega)) pass0 (pv 0) (pa_cons pe_str (pa_cons pe_int (pa_cons (pe_gi T.g_MOST_RANK) pa_nil)))))
  (pss_cons (ps_set (i := 12) sc_read_recording.nd rfl (Or.inl rfl) (pe_m D_Line_read_field T.c_Line.cl (hr.mono (by omega)) pass0 (pv 0) (pa_cons pe_str (pa_cons pe_int (pa_cons (pv 1) pa_nil)))))
  (pss_one (ps_ret (pe_mk DI_Recording T.c_Recording (hr.mono (by omega)) pass0 (pa_cons (pv 3) (pa_cons (pv 4) (pa_cons (pv 5) (pa_cons (pv 6) (pa_cons (pv 7) (pa_cons (pv 8) (pa_cons (pv 9) (pa_cons (pv 10) (pa_cons (pv 11) (pa_cons (pv 12) pa_nil)))))))))))))))))))))))
    , ?_⟩
  have b0 := wok.horizon; have b1 := ok.earliest; have b2 := ok.latest; have b3 := ok.length; have b4 := ok.size; have b5 := ok.energy; have b6 := ok.worth; have b7 := ok.rank; have b8 := ok.deadline
  obtain ⟨ls, l, xs, t1, t2, t3, t4, t5⟩ := hN
  obtain ⟨_, _, g0, z0⟩ := LnAt.no hL (m := "read_new_name") (by decide +kernel) (by decide +kernel) (by decide +kernel) (by decide +kernel)
  refine ⟨_, rfl, a, _, _, rfl, g0, z0, _, rfl, th, _, _, .ref l, rfl, rfl, t1, atI_nat (j := 2) (by rw [List.getElem?_map, t2]; rfl), l, xs, ns, rfl, t3, t4, t5, fun p H1 s1 np hp => ?_⟩
  refine ⟨a, _, 1, p, ns, sd.name, rfl, hL.same s1, SqL.of hp, rfl, ok.name, hno, fun H2 s2 L2 => ?_⟩
  obtain ⟨_, _, g2, z2⟩ := LnAt.no L2 (m := "read_choice") (by decide +kernel) (by decide +kernel) (by decide +kernel) (by decide +kernel)
  refine ⟨_, rfl, a, _, _, rfl, g2, z2, (by show 1 ≤ sizeLine; decide), fun t ht => ?_⟩
  refine ⟨a, _, 2, t, [Str.ofString "by"], Str.ofString "by", rfl, L2.same (same_new ht _), SqT.of upd_same, rfl, List.mem_cons_self, fun H3 s3 L3 => ?_⟩
  have s03 : SameX a H H3 := (((SameX.of s1).trans s2).trans (SameX.of (same_new ht _))).trans s3
  obtain ⟨ls', l', xs', u1, u2, u3, u4, u5⟩ := hS.sameX hL s03
  obtain ⟨_, _, g3, z3⟩ := LnAt.no L3 (m := "read_known_name") (by decide +kernel) (by decide +kernel) (by decide +kernel) (by decide +kernel)
  refine ⟨_, rfl, a, _, _, rfl, g3, z3, _, rfl, th, _, _, .ref l', rfl, rfl, u1, atI_nat (j := 0) (by rw [List.getElem?_map, u2]; rfl), l', xs', _, rfl, u3, u4, u5, fun p2 H4 s4 np2 hp2 => ?_⟩
  refine ⟨a, _, 3, p2, _, satN W sd.sat, sd.sat, 0, rfl, L3.same s4, SqL.of hp2, rfl, satN_ok wok ok.sat, satN_at ok.sat, wok.dSats, by omega, fun H5 s5 L5 => ?_⟩
  (obtain ⟨_, _, g5, z5⟩ := LnAt.no L5 (m := "read_field") (by decide +kernel) (by decide +kernel) (by decide +kernel) (by decide +kernel); refine ⟨_, rfl, a, _, _, rfl, g5, z5, _, rfl, _, _, rfl, rfl, a, _, 4, _, _, _, sd.earliest, rfl, L5, rfl, rfl, by omega, by omega, by omega, by omega, fun H6 s6 L6 => ?_⟩)
  obtain ⟨tk, hv⟩ := T.v_MOST_SHIFT
  (obtain ⟨_, _, g6, z6⟩ := LnAt.no L6 (m := "read_field") (by decide +kernel) (by decide +kernel) (by decide +kernel) (by decide +kernel); refine ⟨_, rfl, a, _, _, rfl, g6, z6, _, rfl, _, rfl, CW, _, _, _, rfl, T.rdW, hv, _, _, rfl, rfl, _, rfl, _, _, rfl, rfl, _, _, rfl, a, _, 6, _, _, _, sd.latest, rfl, L6, rfl, rfl, by omega, by omega, by omega, le_min2 (by omega) (by omega), fun H7 s7 L7 => ?_⟩)
  (obtain ⟨_, _, g7, z7⟩ := LnAt.no L7 (m := "read_field") (by decide +kernel) (by decide +kernel) (by decide +kernel) (by decide +kernel); refine ⟨_, rfl, a, _, _, rfl, g7, z7, _, rfl, _, rfl, _, _, rfl, rfl, a, _, 8, _, _, _, sd.length, rfl, L7, rfl, rfl, by omega, by omega, by omega, by omega, fun H8 s8 L8 => ?_⟩)
  (obtain ⟨_, _, g8, z8⟩ := LnAt.no L8 (m := "read_field") (by decide +kernel) (by decide +kernel) (by decide +kernel) (by decide +kernel); refine ⟨_, rfl, a, _, _, rfl, g8, z8, a, _, 10, _, _, _, sd.size, rfl, L8, rfl, rfl, by omega, by omega, by omega, by omega, fun H9 s9 L9 => ?_⟩)
  (obtain ⟨_, _, g9, z9⟩ := LnAt.no L9 (m := "read_field") (by decide +kernel) (by decide +kernel) (by decide +kernel) (by decide +kernel); refine ⟨_, rfl, a, _, _, rfl, g9, z9, a, _, 12, _, _, _, sd.energy, rfl, L9, rfl, rfl, by omega, by omega, by omega, by omega, fun H10 s10 L10 => ?_⟩)
  (obtain ⟨_, _, g10, z10⟩ := LnAt.no L10 (m := "read_field") (by decide +kernel) (by decide +kernel) (by decide +kernel) (by decide +kernel); refine ⟨_, rfl, a, _, _, rfl, g10, z10, a, _, 14, _, _, _, sd.worth, rfl, L10, rfl, rfl, by omega, by omega, by omega, by omega, fun H11 s11 L11 => ?_⟩)
  (obtain ⟨_, _, g11, z11⟩ := LnAt.no L11 (m := "read_field") (by decide +kernel) (by decide +kernel) (by decide +kernel) (by decide +kernel); refine ⟨_, rfl, a, _, _, rfl, g11, z11, a, _, 16, _, _, _, sd.rank, rfl, L11, rfl, rfl, by omega, by omega, by omega, by omega, fun H12 s12 L12 => ?_⟩)
  (obtain ⟨_, _, g12, z12⟩ := LnAt.no L12 (m := "read_field") (by decide +kernel) (by decide +kernel) (by decide +kernel) (by decide +kernel); refine ⟨_, rfl, a, _, _, rfl, g12, z12, _, rfl, a, _, 18, _, _, _, sd.deadline, rfl, L12, rfl, rfl, by omega, by omega, by omega, by omega, fun H13 s13 L13 => ?_⟩)
  refine ⟨_, rfl, _, rfl, _, rfl, _, rfl, _, rfl, _, rfl, _, rfl, _, rfl, _, rfl, _, rfl, fun x dx hx hdx ne => ?_⟩
  refine ⟨x, dx, _, _, _, _, _, _, _, _, _, _, rfl, upd_same, rfl, ?_⟩
  have sA : SameX a H H13 := (((((((((s03.trans (SameX.of s4)).trans s5).trans s6).trans s7).trans s8).trans s9).trans s10).trans s11).trans s12).trans s13
  have sB := same_made (o := .own x) (u := .ins CR dx []) (v := .ins CR dx (recF sd)) hx hdx
  obtain ⟨o, ho⟩ := L13.there
  exact q x _ (sA.free ho hx) (sA.trans (SameX.of sB)) (L13.same sB) ⟨x, dx, rfl, upd_same⟩
def spRdPas (K : PySem.W.Frag) (CL CP : Addr) : Sp := fun vs H Q _ => ∃ (a : Addr) (th : Addr) (W : WorldD) (s : PasD) (ns : List Str), vs = [.ref a, .int W.horizon, .ref th] ∧ LnAt CL H a (wPas W s) 1 ∧ NamesAt K H th 3 ns ∧ NamesAt K H th 0 (W.sats.map (·.name)) ∧ NamesAt K H th 1 (W.stas.map (·.name)) ∧ s.name ∉ ns ∧ WorldOk W ∧ PasOk W s ∧
  ∀ b H', H b = none → SameX a H H' → LnAt CL H' a (wPas W s) (wPas W s).length → PasAt K CP H' (.ref b) s → Q (.ref b) H'
theorem d_read_pass (T : TxtW K mg CL CS CT CR CP CW aS aR fS fT fR fP) (D_names_of : DefOk P w K mg base CX0 1 "names_of" ["things"] (spNames K)) (D_Line_read_new_name : MDef P w K mg base CX0 4 CL "read_new_name" ["self", "used"] [] (spNewName K CL))
    (D_Line_read_field : MDef P w K mg base CX0 4 CL "read_field" ["self", "word", "least", "most"] [] (spField CL)) (D_Line_read_choice : MDef P w K mg base CX0 3 CL "read_choice" ["self", "choices"] [] (spChoice K CL))
    (D_Line_read_known_name : MDef P w K mg base CX0 4 CL "read_known_name" ["self", "names", "least"] [.int 0] (spKnownName K CL))
    (DI_Pass : MDef P w K mg base CX0 1 CP "__init__" ["self", "name", "satellite", "station", "span", "room", "energy", "fee"] [] (spI_Pass CP))
    (A : At K mg "read_pass" s_read_pass ["line", "horizon", "things"]) : DefOk P w K mg base CX0 5 "read_pass" ["line", "horizon", "things"] (spRdPas K CL CP) := by
  have B := T.L.B
  refine A.ok sc_read_pass (fun vs H Q E h => ?_) (fun f cdv A outer s H vs Q E hr h => ?_)
  · obtain ⟨a, th, W, s, ns, rfl, _⟩ := h
    rfl
  obtain ⟨a, th, W, sd, ns, rfl, hL, hN, hS, hT, hno, wok, ok, q⟩ := h
  refine ⟨_, pss_cons (ps_set (i := 3) sc_read_pass.nd rfl (Or.inl rfl) (pe_m D_Line_read_new_name T.c_Line.cl (hr.mono (by omega)) pass0 (pv 0) (pa_cons (pe_f D_names_of (hr.mono (by omega)) pass0 (pa_cons (pe_ix ix_tup (pv 2) (pe_gi T.g_PASSES) (fun _ _ => rfl)) pa_nil)) pa_nil)))
  (pss_cons (ps_expr (pe_m D_Line_read_choice T.c_Line.cl (hr.mono (by omega)) pass0 (pv 0) (pa_cons (pe_tup (pa_cons pe_str pa_nil)) pa_nil)))
  (pss_cons (ps_set (i := 4) sc_read_pass.nd rfl (Or.inl rfl) (pe_m D_Line_read_known_name T.c_Line.cl (hr.mono (by omega)) pass0 (pv 0) (pa_cons (pe_f D_names_of (hr.mono (by omega)) pass0 (pa_cons (pe_ix ix_tup (pv 2) (pe_gi T.g_SATELLITES) (fun _ _ => rfl)) pa_nil)) pa_nil)))
  (pss_cons (ps_expr (pe_m D_Line_read_choice T.c_Line.cl (hr.mono (by omega)) pass0 (pv 0) (pa_cons (pe_tup (pa_cons pe_str pa_nil)) pa_nil)))
  (pss_cons (ps_set (i := 5) sc_read_pass.nd rfl (Or.inl rfl) (pe_m D_Line_read_known_name T.c_Line.cl (hr.mono (by omega)) pass0 (pv 0) (pa_cons (pe_f D_names_of (hr.mono (by omega)) pass0 (pa_cons (pe_ix ix_tup (pv 2) (pe_gi T.g_STATIONS) (fun _ _ => rfl)) pa_nil)) pa_nil)))
  (pss_cons (ps_set (i := 6) sc_read_pass.nd rfl (Or.inl rfl) (pe_m D_Line_read_field T.c_Line.cl (hr.mono (by omega)) pass0 (pv 0) (pa_cons pe_str (pa_cons pe_int (pa_cons (pe_op op_sub (pv 1) pe_int) pa_nil)))))
  (pss_cons (ps_set (i := 7) sc_read_pass.nd rfl (Or.inl rfl) (pe_m D_Line_read_field T.c_Line.cl (hr.mono (by omega)) pass0 (pv 0) (pa_cons pe_str (pa_cons (pe_op op_add (pv 6) pe_int) (pa_cons (pv 1) pa_nil)))))
  (pss_cons (ps_set (i := 8) sc_read_pass.nd rfl (Or.inl rfl) (pe_m D_Line_read_field T.c_Line.cl (hr.mono (by omega)) pass0 (pv 0) (pa_cons pe_str (pa_cons pe_int (pa_cons (pe_gi T.g_MOST_UNITS) pa_nil)))))
  (pss_cons (ps_set (i := 9) sc_read_pass.nd rfl (Or.inl rfl) (pe_m D_Line_read_field T.c_Line.cl (hr.mono (by omega)) pass0 (pv 0) (pa_cons pe_str (pa_cons pe_int (pa_cons (pe_gi T.g_MOST_UNITS) pa_nil)))))
  (pss_cons (ps_set (i := 10) sc_read_pass.nd rfl (Or.inl rfl) (pe_m D_Line_read_field T.c_Line.cl (hr.mono (by omega)) pass0 (pv 0) (pa_cons pe_str (pa_cons pe_int (pa_cons (pe_gi T.g_MOST_FEE) pa_nil)))))
  (pss_one (ps_ret (pe_mk DI_Pass T.c_Pass (hr.mono (by omega)) pass0 (pa_cons (pv 3) (pa_cons (pv 4) (pa_cons (pv 5) (pa_cons (pe_tup (pa_cons (pv 6) (pa_cons (pv 7) pa_nil))) (pa_cons (pv 8) (pa_cons (pv 9) (pa_cons (pv 10) pa_nil)))))))))))))))))))
    , ?_⟩
  have b0 := wok.horizon; have b1 := ok.first; have b2 := ok.fin; have b3 := ok.room; have b4 := ok.energy; have b5 := ok.fee
  obtain ⟨ls, l, xs, t1, t2, t3, t4, t5⟩ := hN
  obtain ⟨_, _, g0, z0⟩ := LnAt.no hL (m := "read_new_name") (by decide +kernel) (by decide +kernel) (by decide +kernel) (by decide +kernel)
  refine ⟨_, rfl, a, _, _, rfl, g0, z0, _, rfl, th, _, _, .ref l, rfl, rfl, t1, atI_nat (j := 3) (by rw [List.getElem?_map, t2]; rfl), l, xs, ns, rfl, t3, t4, t5, fun p H1 s1 np hp => ?_⟩
  refine ⟨a, _, 1, p, ns, sd.name, rfl, hL.same s1, SqL.of hp, rfl, ok.name, hno, fun H2 s2 L2 => ?_⟩
  obtain ⟨_, _, g2, z2⟩ := LnAt.no L2 (m := "read_choice") (by decide +kernel) (by decide +kernel) (by decide +kernel) (by decide +kernel)
  refine ⟨_, rfl, a, _, _, rfl, g2, z2, (by show 1 ≤ sizeLine; decide), fun t ht => ?_⟩
  refine ⟨a, _, 2, t, [Str.ofString "by"], Str.ofString "by", rfl, L2.same (same_new ht _), SqT.of upd_same, rfl, List.mem_cons_self, fun H3 s3 L3 => ?_⟩
  have s03 : SameX a H H3 := (((SameX.of s1).trans s2).trans (SameX.of (same_new ht _))).trans s3
  obtain ⟨ls', l', xs', u1, u2, u3, u4, u5⟩ := hS.sameX hL s03
  obtain ⟨_, _, g3, z3⟩ := LnAt.no L3 (m := "read_known_name") (by decide +kernel) (by decide +kernel) (by decide +kernel) (by decide +kernel)
  refine ⟨_, rfl, a, _, _, rfl, g3, z3, _, rfl, th, _, _, .ref l', rfl, rfl, u1, atI_nat (j := 0) (by rw [List.getElem?_map, u2]; rfl), l', xs', _, rfl, u3, u4, u5, fun p2 H4 s4 np2 hp2 => ?_⟩
  refine ⟨a, _, 3, p2, _, satN W sd.sat, sd.sat, 0, rfl, L3.same s4, SqL.of hp2, rfl, satN_ok wok ok.sat, satN_at ok.sat, wok.dSats, by omega, fun H5 s5 L5 => ?_⟩
  obtain ⟨_, _, g5, z5⟩ := LnAt.no L5 (m := "read_choice") (by decide +kernel) (by decide +kernel) (by decide +kernel) (by decide +kernel)
  refine ⟨_, rfl, a, _, _, rfl, g5, z5, (by show 1 ≤ sizeLine; decide), fun t3 ht3 => ?_⟩
  refine ⟨a, _, 4, t3, [Str.ofString "over"], Str.ofString "over", rfl, L5.same (same_new ht3 _), SqT.of upd_same, rfl, List.mem_cons_self, fun H6 s6 L6 => ?_⟩
  have s06 : SameX a H H6 := (((s03.trans (SameX.of s4)).trans s5).trans (SameX.of (same_new ht3 _))).trans s6
  obtain ⟨ls6, l6, xs6, v1, v2, v3, v4, v5⟩ := hT.sameX hL s06
  obtain ⟨_, _, g6, z6⟩ := LnAt.no L6 (m := "read_known_name") (by decide +kernel) (by decide +kernel) (by decide +kernel) (by decide +kernel)
  refine ⟨_, rfl, a, _, _, rfl, g6, z6, _, rfl, th, _, _, .ref l6, rfl, rfl, v1, atI_nat (j := 1) (by rw [List.getElem?_map, v2]; rfl), l6, xs6, _, rfl, v3, v4, v5, fun p7 H7 s7 np7 hp7 => ?_⟩
  refine ⟨a, _, 5, p7, _, staN W sd.sta, sd.sta, 0, rfl, L6.same s7, SqL.of hp7, rfl, staN_ok wok ok.sta, staN_at ok.sta, wok.dStas, by omega, fun H8 s8 L8 => ?_⟩
  (obtain ⟨_, _, g8, z8⟩ := LnAt.no L8 (m := "read_field") (by decide +kernel) (by decide +kernel) (by decide +kernel) (by decide +kernel); refine ⟨_, rfl, a, _, _, rfl, g8, z8, _, rfl, _, _, rfl, rfl, a, _, 6, _, _, _, sd.first, rfl, L8, rfl, rfl, by omega, by omega, by omega, by omega, fun H9 s9 L9 => ?_⟩)
  (obtain ⟨_, _, g9, z9⟩ := LnAt.no L9 (m := "read_field") (by decide +kernel) (by decide +kernel) (by decide +kernel) (by decide +kernel); refine ⟨_, rfl, a, _, _, rfl, g9, z9, _, rfl, _, _, rfl, rfl, _, rfl, a, _, 8, _, _, _, sd.fin, rfl, L9, rfl, rfl, by omega, by omega, by omega, by omega, fun H10 s10 L10 => ?_⟩)
  (obtain ⟨_, _, g10, z10⟩ := LnAt.no L10 (m := "read_field") (by decide +kernel) (by decide +kernel) (by decide +kernel) (by decide +kernel); refine ⟨_, rfl, a, _, _, rfl, g10, z10, a, _, 10, _, _, _, sd.room, rfl, L10, rfl, rfl, by omega, by omega, by omega, by omega, fun H11 s11 L11 => ?_⟩)
  (obtain ⟨_, _, g11, z11⟩ := LnAt.no L11 (m := "read_field") (by decide +kernel) (by decide +kernel) (by decide +kernel) (by decide +kernel); refine ⟨_, rfl, a, _, _, rfl, g11, z11, a, _, 12, _, _, _, sd.energy, rfl, L11, rfl, rfl, by omega, by omega, by omega, by omega, fun H12 s12 L12 => ?_⟩)
  (obtain ⟨_, _, g12, z12⟩ := LnAt.no L12 (m := "read_field") (by decide +kernel) (by decide +kernel) (by decide +kernel) (by decide +kernel); refine ⟨_, rfl, a, _, _, rfl, g12, z12, a, _, 14, _, _, _, sd.fee, rfl, L12, rfl, rfl, by omega, by omega, by omega, by omega, fun H13 s13 L13 => ?_⟩)
  refine ⟨_, rfl, _, rfl, _, rfl, _, rfl, _, rfl, (by show 2 ≤ sizeLine; decide), fun sp hsp => ⟨_, rfl, _, rfl, _, rfl, fun x dx hx hdx ne => ?_⟩⟩
  refine ⟨x, dx, _, _, _, _, _, _, _, rfl, upd_same, rfl, ?_⟩
  have sA : SameX a H (upd H13 sp (.tup [.int sd.first, .int sd.fin])) := (((((((s06.trans (SameX.of s7)).trans s8).trans s9).trans s10).trans s11).trans s12).trans s13).trans (SameX.of (same_new hsp _))
  have sB := same_made (o := .own x) (u := .ins CP dx []) (v := .ins CP dx (pasF sd sp)) hx hdx
  have L14 := L13.same (same_new hsp (.tup [.int sd.first, .int sd.fin]))
  obtain ⟨o, ho⟩ := L14.there
  exact q x _ (sA.free ho hx) (sA.trans (SameX.of sB)) (L14.same sB) ⟨x, dx, sp, rfl, upd_same, SqT.of (sB _ _ upd_same)⟩
end
end DP
/-! the things of a world, line by line -/
namespace DP
open PySem PySem.Spec PyProof.Rows L2
/-! ### what stays -/
section
variable {K : PySem.W.Frag} {CL CS CT CR CP : Addr} {H H' : Hp} {a L : Addr} {ws : List Str} {r : Nat} {x : V} {ys : List V} {o : HO}
theorem SatAt.same {s : SatD} (h : SatAt K CS H x s) (z : Same H H') : SatAt K CS H' x s := by
  obtain ⟨b, dx, t, ls, h1, h2, h3, h4⟩ := h
  exact ⟨b, dx, t, ls, h1, z _ _ h2, Same.tup z h3, h4.same z⟩
theorem StaAt.same {s : StaD} (h : StaAt CT H x s) (z : Same H H') : StaAt CT H' x s := by
  obtain ⟨b, dx, h1, h2⟩ := h
  exact ⟨b, dx, h1, z _ _ h2⟩
theorem RecAt.same {s : RecD} (h : RecAt CR H x s) (z : Same H H') : RecAt CR H' x s := by
  obtain ⟨b, dx, h1, h2⟩ := h
  exact ⟨b, dx, h1, z _ _ h2⟩
theorem PasAt.same {s : PasD} (h : PasAt K CP H x s) (z : Same H H') : PasAt K CP H' x s := by
  obtain ⟨b, dx, t, h1, h2, h3⟩ := h
  exact ⟨b, dx, t, h1, z _ _ h2, Same.tup z h3⟩
theorem SatAt.sx {s : SatD} (h : SatAt K CS H x s) (hL : LnAt CL H a ws r) (z : SameX a H H') : SatAt K CS H' x s := by
  obtain ⟨dx', n, wl, c, g1, g2⟩ := hL.ex
  obtain ⟨b, dx, t, ls, h1, h2, h3, h4⟩ := h
  exact ⟨b, dx, t, ls, h1, z.ins g1 h2 (by show 8 ≠ 4; decide), z.sqT g1 h3, z.spans g1 h4⟩
theorem StaAt.sx {s : StaD} (h : StaAt CT H x s) (hL : LnAt CL H a ws r) (z : SameX a H H') : StaAt CT H' x s := by
  obtain ⟨dx', n, wl, c, g1, g2⟩ := hL.ex
  obtain ⟨b, dx, h1, h2⟩ := h
  exact ⟨b, dx, h1, z.ins g1 h2 (by show 3 ≠ 4; decide)⟩
theorem RecAt.sx {s : RecD} (h : RecAt CR H x s) (hL : LnAt CL H a ws r) (z : SameX a H H') : RecAt CR H' x s := by
  obtain ⟨dx', n, wl, c, g1, g2⟩ := hL.ex
  obtain ⟨b, dx, h1, h2⟩ := h
  exact ⟨b, dx, h1, z.ins g1 h2 (by show 10 ≠ 4; decide)⟩
theorem PasAt.sx {s : PasD} (h : PasAt K CP H x s) (hL : LnAt CL H a ws r) (z : SameX a H H') : PasAt K CP H' x s := by
  obtain ⟨dx', n, wl, c, g1, g2⟩ := hL.ex
  obtain ⟨b, dx, t, h1, h2, h3⟩ := h
  exact ⟨b, dx, t, h1, z.ins g1 h2 (by show 7 ≠ 4; decide), z.sqT g1 h3⟩
theorem SatAt.up {s : SatD} (h : SatAt K CS H x s) (e : H L = some (.lst ys)) : SatAt K CS (L2.upd H L o) x s := by
  obtain ⟨b, dx, t, ls, h1, h2, h3, h4⟩ := h
  exact ⟨b, dx, t, ls, h1, by rw [upd_ne (ne_of h2 e (fun z => nomatch z))]; exact h2, sqT_upd h3 e, h4.upd e⟩
theorem StaAt.up {s : StaD} (h : StaAt CT H x s) (e : H L = some (.lst ys)) : StaAt CT (L2.upd H L o) x s := by
  obtain ⟨b, dx, h1, h2⟩ := h
  exact ⟨b, dx, h1, by rw [upd_ne (ne_of h2 e (fun z => nomatch z))]; exact h2⟩
theorem RecAt.up {s : RecD} (h : RecAt CR H x s) (e : H L = some (.lst ys)) : RecAt CR (L2.upd H L o) x s := by
  obtain ⟨b, dx, h1, h2⟩ := h
  exact ⟨b, dx, h1, by rw [upd_ne (ne_of h2 e (fun z => nomatch z))]; exact h2⟩
theorem PasAt.up {s : PasD} (h : PasAt K CP H x s) (e : H L = some (.lst ys)) : PasAt K CP (L2.upd H L o) x s := by
  obtain ⟨b, dx, t, h1, h2, h3⟩ := h
  exact ⟨b, dx, t, h1, by rw [upd_ne (ne_of h2 e (fun z => nomatch z))]; exact h2, sqT_upd h3 e⟩
/-- a line stays where a list of objects is changed -/
theorem LnAt.up (h : LnAt CL H a ws r) (hne : ws ≠ []) (e : H L = some (.lst ys)) (hr : ∀ y ∈ ys, ∃ t, y = V.ref t) : LnAt CL (L2.upd H L o) a ws r := by
  obtain ⟨dx, n, wl, c, h1, h2⟩ := h.ex
  refine ⟨⟨dx, n, wl, c, by rw [upd_ne (ne_of h1 e (fun z => nomatch z))]; exact h1, ?_⟩, h.ok⟩
  rw [upd_ne]
  · exact h2
  · intro z
    rw [z, e] at h2
    have e2 : ys = ws.map V.str := HO.lst.inj (Option.some.inj h2)
    cases ws with
    | nil => exact hne rfl
    | cons w wr =>
      obtain ⟨t, ht⟩ := hr (.str w) (by rw [e2]; exact List.mem_cons_self)
      cases ht
theorem LnAt.sx {b : Addr} {vs : List Str} {q : Nat} (h : LnAt CL H a ws r) (hL : LnAt CL H b vs q) (n : a ≠ b) (z : SameX b H H') : LnAt CL H' a ws r := by
  obtain ⟨dx', n', wl', c', g1, g2⟩ := hL.ex
  obtain ⟨dx, m, wl, c, h1, h2⟩ := h.ex
  exact ⟨⟨dx, m, wl, c, z _ _ n h1, z _ _ (ne_of h2 g1 (fun z => nomatch z)) h2⟩, h.ok⟩
end
/-- the four lists of a world's things as far as they are read -/
structure Thg (K : PySem.W.Frag) (CS CT CR CP : Addr) (H : Hp) (th l0 l1 l2 l3 : Addr) (S : List SatD) (T : List StaD) (R : List RecD) (P : List PasD) : Prop where
  tup : H th = some (.tup [.ref l0, .ref l1, .ref l2, .ref l3])
  d01 : l0 ≠ l1
  d02 : l0 ≠ l2
  d03 : l0 ≠ l3
  d12 : l1 ≠ l2
  d13 : l1 ≠ l3
  d23 : l2 ≠ l3
  sats : ∃ xs, H l0 = some (.lst xs) ∧ Paired (SatAt K CS H) xs S
  stas : ∃ xs, H l1 = some (.lst xs) ∧ Paired (StaAt CT H) xs T
  recs : ∃ xs, H l2 = some (.lst xs) ∧ Paired (RecAt CR H) xs R
  pass : ∃ xs, H l3 = some (.lst xs) ∧ Paired (PasAt K CP H) xs P
theorem refs_sat {K : PySem.W.Frag} {C : Addr} {H : Hp} {xs : List V} {S : List SatD} (h : Paired (SatAt K C H) xs S) : ∀ y ∈ xs, ∃ t, y = V.ref t := fun y hy => by
  obtain ⟨i, hi, e⟩ := List.mem_iff_getElem.mp hy
  obtain ⟨s, _, b, _, _, _, e1, _⟩ := paired_at h (List.getElem?_eq_getElem hi)
  exact ⟨b, by rw [← e, e1]⟩
theorem refs_sta {C : Addr} {H : Hp} {xs : List V} {S : List StaD} (h : Paired (StaAt C H) xs S) : ∀ y ∈ xs, ∃ t, y = V.ref t := fun y hy => by
  obtain ⟨i, hi, e⟩ := List.mem_iff_getElem.mp hy
  obtain ⟨s, _, b, _, e1, _⟩ := paired_at h (List.getElem?_eq_getElem hi)
  exact ⟨b, by rw [← e, e1]⟩
theorem refs_rec {C : Addr} {H : Hp} {xs : List V} {S : List RecD} (h : Paired (RecAt C H) xs S) : ∀ y ∈ xs, ∃ t, y = V.ref t := fun y hy => by
  obtain ⟨i, hi, e⟩ := List.mem_iff_getElem.mp hy
  obtain ⟨s, _, b, _, e1, _⟩ := paired_at h (List.getElem?_eq_getElem hi)
  exact ⟨b, by rw [← e, e1]⟩
theorem refs_pas {K : PySem.W.Frag} {C : Addr} {H : Hp} {xs : List V} {S : List PasD} (h : Paired (PasAt K C H) xs S) : ∀ y ∈ xs, ∃ t, y = V.ref t := fun y hy => by
  obtain ⟨i, hi, e⟩ := List.mem_iff_getElem.mp hy
  obtain ⟨s, _, b, _, _, e1, _⟩ := paired_at h (List.getElem?_eq_getElem hi)
  exact ⟨b, by rw [← e, e1]⟩
section
variable {K : PySem.W.Frag} {CL CS CT CR CP : Addr} {H H' : Hp} {a th l0 l1 l2 l3 : Addr} {ws : List Str} {r : Nat} {S : List SatD} {T : List StaD} {R : List RecD} {P : List PasD}
theorem Thg.same (h : Thg K CS CT CR CP H th l0 l1 l2 l3 S T R P) (z : Same H H') : Thg K CS CT CR CP H' th l0 l1 l2 l3 S T R P := by
  obtain ⟨x0, a0, b0⟩ := h.sats
  obtain ⟨x1, a1, b1⟩ := h.stas
  obtain ⟨x2, a2, b2⟩ := h.recs
  obtain ⟨x3, a3, b3⟩ := h.pass
  exact ⟨z _ _ h.tup, h.d01, h.d02, h.d03, h.d12, h.d13, h.d23, ⟨x0, z _ _ a0, Paired.mapP b0 fun _ _ y => y.same z⟩, ⟨x1, z _ _ a1, Paired.mapP b1 fun _ _ y => y.same z⟩, ⟨x2, z _ _ a2, Paired.mapP b2 fun _ _ y => y.same z⟩, ⟨x3, z _ _ a3, Paired.mapP b3 fun _ _ y => y.same z⟩⟩
theorem Thg.sx (h : Thg K CS CT CR CP H th l0 l1 l2 l3 S T R P) (hL : LnAt CL H a ws r) (z : SameX a H H') : Thg K CS CT CR CP H' th l0 l1 l2 l3 S T R P := by
  obtain ⟨dx', n', wl', c', g1, g2⟩ := hL.ex
  obtain ⟨x0, a0, b0⟩ := h.sats
  obtain ⟨x1, a1, b1⟩ := h.stas
  obtain ⟨x2, a2, b2⟩ := h.recs
  obtain ⟨x3, a3, b3⟩ := h.pass
  exact ⟨z _ _ (ne_of h.tup g1 (fun z => nomatch z)) h.tup, h.d01, h.d02, h.d03, h.d12, h.d13, h.d23, ⟨x0, z _ _ (ne_of a0 g1 (fun z => nomatch z)) a0, Paired.mapP b0 fun _ _ y => y.sx hL z⟩, ⟨x1, z _ _ (ne_of a1 g1 (fun z => nomatch z)) a1, Paired.mapP b1 fun _ _ y => y.sx hL z⟩,
    ⟨x2, z _ _ (ne_of a2 g1 (fun z => nomatch z)) a2, Paired.mapP b2 fun _ _ y => y.sx hL z⟩, ⟨x3, z _ _ (ne_of a3 g1 (fun z => nomatch z)) a3, Paired.mapP b3 fun _ _ y => y.sx hL z⟩⟩
theorem Thg.push0 {xs : List V} {b : Addr} {s : SatD} (h : Thg K CS CT CR CP H th l0 l1 l2 l3 S T R P) (e : H l0 = some (.lst xs)) (k : SatAt K CS H (.ref b) s) : Thg K CS CT CR CP (L2.upd H l0 (.lst (xs ++ [.ref b]))) th l0 l1 l2 l3 (S ++ [s]) T R P := by
  obtain ⟨x0, a0, b0⟩ := h.sats
  obtain ⟨x1, a1, b1⟩ := h.stas
  obtain ⟨x2, a2, b2⟩ := h.recs
  obtain ⟨x3, a3, b3⟩ := h.pass
  have ex : x0 = xs := HO.lst.inj (Option.some.inj (a0.symm.trans e))
  subst ex
  exact ⟨by rw [upd_ne (ne_of h.tup e (fun z => nomatch z))]; exact h.tup, h.d01, h.d02, h.d03, h.d12, h.d13, h.d23, ⟨_, upd_same, paired_snoc (Paired.mapP b0 fun _ _ y => y.up e) (k.up e)⟩, ⟨x1, by rw [upd_ne h.d01.symm]; exact a1, Paired.mapP b1 fun _ _ y => y.up e⟩,
    ⟨x2, by rw [upd_ne h.d02.symm]; exact a2, Paired.mapP b2 fun _ _ y => y.up e⟩, ⟨x3, by rw [upd_ne h.d03.symm]; exact a3, Paired.mapP b3 fun _ _ y => y.up e⟩⟩
theorem Thg.push1 {xs : List V} {b : Addr} {s : StaD} (h : Thg K CS CT CR CP H th l0 l1 l2 l3 S T R P) (e : H l1 = some (.lst xs)) (k : StaAt CT H (.ref b) s) : Thg K CS CT CR CP (L2.upd H l1 (.lst (xs ++ [.ref b]))) th l0 l1 l2 l3 S (T ++ [s]) R P := by
  obtain ⟨x0, a0, b0⟩ := h.sats
  obtain ⟨x1, a1, b1⟩ := h.stas
  obtain ⟨x2, a2, b2⟩ := h.recs
  obtain ⟨x3, a3, b3⟩ := h.pass
  have ex : x1 = xs := HO.lst.inj (Option.some.inj (a1.symm.trans e))
  subst ex
  exact ⟨by rw [upd_ne (ne_of h.tup e (fun z => nomatch z))]; exact h.tup, h.d01, h.d02, h.d03, h.d12, h.d13, h.d23, ⟨x0, by rw [upd_ne h.d01]; exact a0, Paired.mapP b0 fun _ _ y => y.up e⟩, ⟨_, upd_same, paired_snoc (Paired.mapP b1 fun _ _ y => y.up e) (k.up e)⟩,
    ⟨x2, by rw [upd_ne h.d12.symm]; exact a2, Paired.mapP b2 fun _ _ y => y.up e⟩, ⟨x3, by rw [upd_ne h.d13.symm]; exact a3, Paired.mapP b3 fun _ _ y => y.up e⟩⟩
theorem Thg.push2 {xs : List V} {b : Addr} {s : RecD} (h : Thg K CS CT CR CP H th l0 l1 l2 l3 S T R P) (e : H l2 = some (.lst xs)) (k : RecAt CR H (.ref b) s) : Thg K CS CT CR CP (L2.upd H l2 (.lst (xs ++ [.ref b]))) th l0 l1 l2 l3 S T (R ++ [s]) P := by
  obtain ⟨x0, a0, b0⟩ := h.sats
  obtain ⟨x1, a1, b1⟩ := h.stas
  obtain ⟨x2, a2, b2⟩ := h.recs
  obtain ⟨x3, a3, b3⟩ := h.pass
  have ex : x2 = xs := HO.lst.inj (Option.some.inj (a2.symm.trans e))
  subst ex
  exact ⟨by rw [upd_ne (ne_of h.tup e (fun z => nomatch z))]; exact h.tup, h.d01, h.d02, h.d03, h.d12, h.d13, h.d23, ⟨x0, by rw [upd_ne h.d02]; exact a0, Paired.mapP b0 fun _ _ y => y.up e⟩, ⟨x1, by rw [upd_ne h.d12]; exact a1, Paired.mapP b1 fun _ _ y => y.up e⟩,
    ⟨_, upd_same, paired_snoc (Paired.mapP b2 fun _ _ y => y.up e) (k.up e)⟩, ⟨x3, by rw [upd_ne h.d23.symm]; exact a3, Paired.mapP b3 fun _ _ y => y.up e⟩⟩
theorem Thg.push3 {xs : List V} {b : Addr} {s : PasD} (h : Thg K CS CT CR CP H th l0 l1 l2 l3 S T R P) (e : H l3 = some (.lst xs)) (k : PasAt K CP H (.ref b) s) : Thg K CS CT CR CP (L2.upd H l3 (.lst (xs ++ [.ref b]))) th l0 l1 l2 l3 S T R (P ++ [s]) := by
  obtain ⟨x0, a0, b0⟩ := h.sats
  obtain ⟨x1, a1, b1⟩ := h.stas
  obtain ⟨x2, a2, b2⟩ := h.recs
  obtain ⟨x3, a3, b3⟩ := h.pass
  have ex : x3 = xs := HO.lst.inj (Option.some.inj (a3.symm.trans e))
  subst ex
  exact ⟨by rw [upd_ne (ne_of h.tup e (fun z => nomatch z))]; exact h.tup, h.d01, h.d02, h.d03, h.d12, h.d13, h.d23, ⟨x0, by rw [upd_ne h.d03]; exact a0, Paired.mapP b0 fun _ _ y => y.up e⟩, ⟨x1, by rw [upd_ne h.d13]; exact a1, Paired.mapP b1 fun _ _ y => y.up e⟩,
    ⟨x2, by rw [upd_ne h.d23]; exact a2, Paired.mapP b2 fun _ _ y => y.up e⟩, ⟨_, upd_same, paired_snoc (Paired.mapP b3 fun _ _ y => y.up e) (k.up e)⟩⟩
end
theorem paired_map {α β γ : Type} {F : α → β → Prop} {G : α → γ → Prop} {f : β → γ} (h : ∀ a b, F a b → G a (f b)) : ∀ {xs : List α} {ys : List β}, Paired F xs ys → Paired G xs (ys.map f)
  | _, _, .nil => .nil
  | _, _, .cons a t => .cons (h _ _ a) (paired_map h t)
section
variable {K : PySem.W.Frag} {mg : Str → Option Value} {CL CS CT CR CP CW aS aR fS fT fR fP : Addr} {H : Hp} {th l0 l1 l2 l3 : Addr} {S : List SatD} {T : List StaD} {R : List RecD} {P : List PasD}
theorem Thg.list (h : Thg K CS CT CR CP H th l0 l1 l2 l3 S T R P) : SqT K H th (([l0, l1, l2, l3]).map V.ref) := SqT.of h.tup
theorem Thg.n0 (X : TxtW K mg CL CS CT CR CP CW aS aR fS fT fR fP) (h : Thg K CS CT CR CP H th l0 l1 l2 l3 S T R P) (hl : S.length ≤ 100) : NamesAt K H th 0 (S.map (·.name)) := by
  obtain ⟨xs, a, b⟩ := h.sats
  exact ⟨[l0, l1, l2, l3], l0, xs, h.list, rfl, SqL.of a, paired_map (fun _ _ ⟨b, dx, t, ls, h1, h2, _⟩ => ⟨b, CS, dx, _, h1, h2, X.c_Satellite.cl, X.n_Satellite_name, lk_hit⟩) b, by rw [List.length_map]; exact hl⟩
theorem Thg.n1 (X : TxtW K mg CL CS CT CR CP CW aS aR fS fT fR fP) (h : Thg K CS CT CR CP H th l0 l1 l2 l3 S T R P) (hl : T.length ≤ 100) : NamesAt K H th 1 (T.map (·.name)) := by
  obtain ⟨xs, a, b⟩ := h.stas
  exact ⟨[l0, l1, l2, l3], l1, xs, h.list, rfl, SqL.of a, paired_map (fun _ _ ⟨b, dx, h1, h2⟩ => ⟨b, CT, dx, _, h1, h2, X.c_Station.cl, X.n_Station_name, lk_hit⟩) b, by rw [List.length_map]; exact hl⟩
theorem Thg.n2 (X : TxtW K mg CL CS CT CR CP CW aS aR fS fT fR fP) (h : Thg K CS CT CR CP H th l0 l1 l2 l3 S T R P) (hl : R.length ≤ 100) : NamesAt K H th 2 (R.map (·.name)) := by
  obtain ⟨xs, a, b⟩ := h.recs
  exact ⟨[l0, l1, l2, l3], l2, xs, h.list, rfl, SqL.of a, paired_map (fun _ _ ⟨b, dx, h1, h2⟩ => ⟨b, CR, dx, _, h1, h2, X.c_Recording.cl, X.n_Recording_name, lk_hit⟩) b, by rw [List.length_map]; exact hl⟩
theorem Thg.n3 (X : TxtW K mg CL CS CT CR CP CW aS aR fS fT fR fP) (h : Thg K CS CT CR CP H th l0 l1 l2 l3 S T R P) (hl : P.length ≤ 100) : NamesAt K H th 3 (P.map (·.name)) := by
  obtain ⟨xs, a, b⟩ := h.pass
  exact ⟨[l0, l1, l2, l3], l3, xs, h.list, rfl, SqL.of a, paired_map (fun _ _ ⟨b, dx, t, h1, h2, _⟩ => ⟨b, CP, dx, _, h1, h2, X.c_Pass.cl, X.n_Pass_name, lk_hit⟩) b, by rw [List.length_map]; exact hl⟩
end
end DP
/-! a world's lines in their order, and the whole text -/
namespace DP
open PySem PySem.Spec PyProof.Rows L2
/-- what is read ahead of the i-th line behind the first one -/
def preS (W : WorldD) (i : Nat) : List SatD := W.sats.take i
def preT (W : WorldD) (i : Nat) : List StaD := W.stas.take (i - W.sats.length)
def preR (W : WorldD) (i : Nat) : List RecD := W.recs.take (i - W.sats.length - W.stas.length)
def preP (W : WorldD) (i : Nat) : List PasD := W.pass.take (i - W.sats.length - W.stas.length - W.recs.length)
/-- the lines behind the first one -/
def restW (W : WorldD) : List (List Str) := W.sats.map wSat ++ W.stas.map wSta ++ W.recs.map (wRec W) ++ W.pass.map (wPas W)
/-- the sort of the i-th -/
def kindW (W : WorldD) (i : Nat) : Nat := if i < W.sats.length then 0 else if i < W.sats.length + W.stas.length then 1 else if i < W.sats.length + W.stas.length + W.recs.length then 2 else 3
theorem restW_len (W : WorldD) : (restW W).length = W.sats.length + W.stas.length + W.recs.length + W.pass.length := by
  unfold restW
  rw [List.length_append, List.length_append, List.length_append, List.length_map, List.length_map, List.length_map, List.length_map]
theorem take_snoc {α : Type} {l : List α} {i : Nat} {x : α} (h : l[i]? = some x) : l.take (i + 1) = l.take i ++ [x] := by
  rw [List.take_add_one, h]
  rfl
/-- the i-th line, by its sort -/
theorem restW_at (W : WorldD) {i : Nat} (hi : i < (restW W).length) :
    (∃ s, kindW W i = 0 ∧ s ∈ W.sats ∧ (restW W)[i]? = some (wSat s) ∧ W.sats[i]? = some s ∧ preS W (i + 1) = preS W i ++ [s] ∧ preT W (i + 1) = preT W i ∧ preR W (i + 1) = preR W i ∧ preP W (i + 1) = preP W i) ∨
    (∃ s, kindW W i = 1 ∧ s ∈ W.stas ∧ (restW W)[i]? = some (wSta s) ∧ W.stas[i - W.sats.length]? = some s ∧ preS W (i + 1) = preS W i ∧ preT W (i + 1) = preT W i ++ [s] ∧ preR W (i + 1) = preR W i ∧ preP W (i + 1) = preP W i ∧ preS W i = W.sats) ∨
    (∃ s, kindW W i = 2 ∧ s ∈ W.recs ∧ (restW W)[i]? = some (wRec W s) ∧ W.recs[i - W.sats.length - W.stas.length]? = some s ∧ preS W (i + 1) = preS W i ∧ preT W (i + 1) = preT W i ∧ preR W (i + 1) = preR W i ++ [s] ∧ preP W (i + 1) = preP W i ∧ preS W i = W.sats ∧ preT W i = W.stas) ∨
    (∃ s, kindW W i = 3 ∧ s ∈ W.pass ∧ (restW W)[i]? = some (wPas W s) ∧ W.pass[i - W.sats.length - W.stas.length - W.recs.length]? = some s ∧ preS W (i + 1) = preS W i ∧ preT W (i + 1) = preT W i ∧ preR W (i + 1) = preR W i ∧ preP W (i + 1) = preP W i ++ [s] ∧ preS W i = W.sats ∧ preT W i = W.stas) := by
  rw [restW_len] at hi
  by_cases c0 : i < W.sats.length
  · have e : W.sats[i]? = some W.sats[i] := List.getElem?_eq_getElem c0
    refine .inl ⟨W.sats[i], by unfold kindW; rw [if_pos c0], List.getElem_mem c0, ?_, e, take_snoc e, ?_, ?_, ?_⟩
    · unfold restW
      rw [List.append_assoc, List.append_assoc, List.getElem?_append_left (by rw [List.length_map]; exact c0), List.getElem?_map, e]
      rfl
    · unfold preT; rw [show i + 1 - W.sats.length = i - W.sats.length by omega]
    · unfold preR; rw [show i + 1 - W.sats.length = i - W.sats.length by omega]
    · unfold preP; rw [show i + 1 - W.sats.length = i - W.sats.length by omega]
  have aS : ∀ j, W.sats.length ≤ j → preS W j = W.sats := fun j hj => List.take_of_length_le hj
  by_cases c1 : i < W.sats.length + W.stas.length
  · have hj : i - W.sats.length < W.stas.length := by omega
    have e : W.stas[i - W.sats.length]? = some W.stas[i - W.sats.length] := List.getElem?_eq_getElem hj
    refine .inr (.inl ⟨_, by unfold kindW; rw [if_neg c0, if_pos c1], List.getElem_mem hj, ?_, e, by rw [aS _ (by omega), aS _ (by omega)], ?_, ?_, ?_, aS _ (by omega)⟩)
    · unfold restW
      rw [List.append_assoc, List.append_assoc, List.getElem?_append_right (by rw [List.length_map]; omega), List.length_map, List.getElem?_append_left (by rw [List.length_map]; exact hj), List.getElem?_map, e]
      rfl
    · unfold preT; rw [show i + 1 - W.sats.length = (i - W.sats.length) + 1 by omega]; exact take_snoc e
    · unfold preR; rw [show i + 1 - W.sats.length - W.stas.length = i - W.sats.length - W.stas.length by omega]
    · unfold preP; rw [show i + 1 - W.sats.length - W.stas.length = i - W.sats.length - W.stas.length by omega]
  have aT : ∀ j, W.sats.length + W.stas.length ≤ j → preT W j = W.stas := fun j hj => List.take_of_length_le (by omega)
  by_cases c2 : i < W.sats.length + W.stas.length + W.recs.length
  · have hj : i - W.sats.length - W.stas.length < W.recs.length := by omega
    have e : W.recs[i - W.sats.length - W.stas.length]? = some W.recs[i - W.sats.length - W.stas.length] := List.getElem?_eq_getElem hj
    refine .inr (.inr (.inl ⟨_, by unfold kindW; rw [if_neg c0, if_neg c1, if_pos c2], List.getElem_mem hj, ?_, e, by rw [aS _ (by omega), aS _ (by omega)], by rw [aT _ (by omega), aT _ (by omega)], ?_, ?_, aS _ (by omega), aT _ (by omega)⟩))
    · unfold restW
      rw [List.append_assoc, List.append_assoc, List.getElem?_append_right (by rw [List.length_map]; omega), List.length_map, List.getElem?_append_right (by rw [List.length_map]; omega), List.length_map, List.getElem?_append_left (by rw [List.length_map]; exact hj), List.getElem?_map, e]
      rfl
    · unfold preR; rw [show i + 1 - W.sats.length - W.stas.length = (i - W.sats.length - W.stas.length) + 1 by omega]; exact take_snoc e
    · unfold preP; rw [show i + 1 - W.sats.length - W.stas.length - W.recs.length = i - W.sats.length - W.stas.length - W.recs.length by omega]
  have hj : i - W.sats.length - W.stas.length - W.recs.length < W.pass.length := by omega
  have e : W.pass[i - W.sats.length - W.stas.length - W.recs.length]? = some W.pass[i - W.sats.length - W.stas.length - W.recs.length] := List.getElem?_eq_getElem hj
  have aR : ∀ j, W.sats.length + W.stas.length + W.recs.length ≤ j → preR W j = W.recs := fun j hj => List.take_of_length_le (by omega)
  refine .inr (.inr (.inr ⟨_, by unfold kindW; rw [if_neg c0, if_neg c1, if_neg c2], List.getElem_mem hj, ?_, e, by rw [aS _ (by omega), aS _ (by omega)], by rw [aT _ (by omega), aT _ (by omega)], by rw [aR _ (by omega), aR _ (by omega)], ?_, aS _ (by omega), aT _ (by omega)⟩))
  · unfold restW
    rw [List.append_assoc, List.append_assoc, List.getElem?_append_right (by rw [List.length_map]; omega), List.length_map, List.getElem?_append_right (by rw [List.length_map]; omega), List.length_map, List.getElem?_append_right (by rw [List.length_map]; omega), List.length_map, List.getElem?_map, e]
    rfl
  · unfold preP; rw [show i + 1 - W.sats.length - W.stas.length - W.recs.length = (i - W.sats.length - W.stas.length - W.recs.length) + 1 by omega]; exact take_snoc e
theorem kindW_mono (W : WorldD) (i : Nat) : kindW W i ≤ kindW W (i + 1) := by
  unfold kindW
  by_cases c0 : i < W.sats.length
  · rw [if_pos c0]; exact Nat.zero_le _
  rw [if_neg c0, if_neg (show ¬ i + 1 < W.sats.length by omega)]
  by_cases c1 : i < W.sats.length + W.stas.length
  · rw [if_pos c1]
    split
    · exact Nat.le_refl _
    · split <;> omega
  rw [if_neg c1, if_neg (show ¬ i + 1 < W.sats.length + W.stas.length by omega)]
  by_cases c2 : i < W.sats.length + W.stas.length + W.recs.length
  · rw [if_pos c2]
    split <;> omega
  · rw [if_neg c2, if_neg (show ¬ i + 1 < W.sats.length + W.stas.length + W.recs.length by omega)]
    exact Nat.le_refl _
/-- a name is not among those ahead of it -/
theorem fresh_name {α : Type} {f : α → Str} {l : List α} {i : Nat} {s : α} (hd : (l.map f).Nodup) (h : l[i]? = some s) : f s ∉ (l.take i).map f := fun z => by
  obtain ⟨t, ht, e⟩ := List.mem_map.mp z
  obtain ⟨j, hj, ej⟩ := List.mem_iff_getElem.mp ht
  rw [List.getElem_take] at ej
  rw [List.length_take] at hj
  obtain ⟨hi, es⟩ := List.getElem?_eq_some_iff.mp h
  have h1 : (l.map f)[j]'(by rw [List.length_map]; omega) = (l.map f)[i]'(by rw [List.length_map]; exact hi) := by
    rw [List.getElem_map, List.getElem_map, ej, es]
    exact e
  have := (List.getElem_inj hd).mp h1
  omega
def sortsL : List Str := ["satellite", "station", "recording", "pass"]
section
variable {P : Program} {w : World} {K : PySem.W.Frag} {mg : Str → Option Value} {base : Heap} {CL CS CT CR CP CW aS aR fS fT fR fP : Addr}
def mostK : List Int := [3, 3, 10, 10]
def spMost : Sp := fun vs H Q _ => ∃ (i : Nat) (m : Int), vs = [.int (i : Int)] ∧ mostK[i]? = some m ∧ ∀ H', Same H H' → Q (.int m) H'
theorem d_most_things (T : TxtW K mg CL CS CT CR CP CW aS aR fS fT fR fP) (A : At K mg "most_things" s_most_things ["sort"]) : DefOk P w K mg base CX0 1 "most_things" ["sort"] spMost := by
  have B := T.L.B
  refine A.ok sc_most_things (fun vs H Q E h => ?_) (fun f cdv A outer s H vs Q E hr h => ?_)
  · obtain ⟨i, m, rfl, _⟩ := h
    rfl
  obtain ⟨i, m, rfl, hi, q⟩ := h
  refine ⟨_, pss_cons (ps_set (i := 1) sc_most_things.nd rfl (Or.inl rfl) (pe_tup (pa_cons (ClX.pe_cval (pe_ga T.c_World.gC) rfl) (pa_cons (ClX.pe_cval (pe_ga T.c_World.gC) rfl) (pa_cons (ClX.pe_cval (pe_ga T.c_World.gC) rfl) (pa_cons (ClX.pe_cval (pe_ga T.c_World.gC) rfl) pa_nil))))))
  (pss_one (ps_ret (pe_ix ix_tup (pv 1) (pv 0) (fun _ _ => rfl))))
    , ?_⟩
  obtain ⟨k1, h1⟩ := T.v_MOST_SATELLITES
  obtain ⟨k2, h2⟩ := T.v_MOST_STATIONS
  obtain ⟨k3, h3⟩ := T.v_MOST_RECORDINGS
  obtain ⟨k4, h4⟩ := T.v_MOST_PASSES
  refine ⟨CW, _, _, _, rfl, T.rdW, h1, CW, _, _, _, rfl, T.rdW, h2, CW, _, _, _, rfl, T.rdW, h3, CW, _, _, _, rfl, T.rdW, h4, (by show 4 ≤ sizeLine; decide), fun p hp => ?_⟩
  refine ⟨_, rfl, _, rfl, p, _, _, .int m, rfl, rfl, SqT.of upd_same, atI_nat ?_, q _ (same_new hp _)⟩
  have e : ([V.int 3, V.int 3, V.int 10, V.int 10] : List V) = mostK.map V.int := rfl
  rw [e, List.getElem?_map, hi]
  rfl
def spSort (K : PySem.W.Frag) (CL : Addr) : Sp := fun vs H Q _ => ∃ (a : Addr) (ws : List Str) (ahead : Int) (th : Addr) (ls : List Addr) (l : Addr) (xs : List V) (i : Nat) (u : Str) (m : Int), vs = [.ref a, .int ahead, .ref th] ∧ LnAt CL H a ws 0 ∧ ws[0]? = some u ∧ sortsL[i]? = some u ∧ ahead ≤ (i : Int) ∧
  SqT K H th (ls.map V.ref) ∧ ls[i]? = some l ∧ SqL K H l xs ∧ mostK[i]? = some m ∧ (xs.length : Int) < m ∧ ∀ H', SameX a H H' → LnAt CL H' a ws 1 → Q (.int (i : Int)) H'
theorem sorts_first {u : Str} : ∀ {i : Nat}, sortsL[i]? = some u → ∀ m, m < i → sortsL[m]? ≠ some u := by
  have nd : sortsL.Nodup := by decide +kernel
  intro i h m hm z
  obtain ⟨h1, e1⟩ := List.getElem?_eq_some_iff.mp h
  obtain ⟨h2, e2⟩ := List.getElem?_eq_some_iff.mp z
  have := (List.getElem_inj nd).mp (e1.trans e2.symm)
  omega
theorem d_read_sort (T : TxtW K mg CL CS CT CR CP CW aS aR fS fT fR fP) (D_Line_due : MDef P w K mg base CX0 2 CL "due" ["self"] [] (spDue CL)) (D_Line_step : MDef P w K mg base CX0 1 CL "step" ["self"] [] (spStep CL)) (D_most_things : DefOk P w K mg base CX0 1 "most_things" ["sort"] spMost)
    (A : At K mg "read_sort" s_read_sort ["line", "ahead", "things"]) : DefOk P w K mg base CX0 3 "read_sort" ["line", "ahead", "things"] (spSort K CL) := by
  have B := T.L.B
  refine A.ok sc_read_sort (fun vs H Q E h => ?_) (fun f cdv A outer s H vs Q E hr h => ?_)
  · obtain ⟨a, ws, ahead, th, ls, l, xs, i, u, m, rfl, _⟩ := h
    rfl
  obtain ⟨a, ws, ahead, th, ls, l, xs, i, u, m, rfl, hL, hu, hi, hah, h1, h2, h3, h4, h5, q⟩ := h
  refine ⟨_, pss_cons (ps_set (i := 3) sc_read_sort.nd rfl (Or.inl rfl) (pe_m0 D_Line_due T.c_Line.cl (hr.mono (by omega)) pass0 (pv 0)))
  (pss_cons (ps_if (pt_cmpR op_notIn_seq (pv 3) (pe_ga T.g_SORTS) (by rfl))
      (pss_one (ps_never))
      (pss_nil))
  (pss_cons (ps_set (i := 4) sc_read_sort.nd rfl (Or.inl rfl) (pe_bm PySem.F.plainAttrs_tuple PySem.F.slot_tuple_index PySem.F.type_tuple_index mt_tup_index (pe_ga T.g_SORTS) (pa_cons (pv 3) pa_nil)))
  (pss_cons (ps_if (pt_cmpR op_lt (pv 4) (pv 1) (nomark _))
      (pss_one (ps_never))
      (pss_nil))
  (pss_cons (ps_if (pt_cmpR op_eq (pe_callB (call_len_seq) (by rfl) B.len (by decide +kernel) (pa_cons (pe_ix ix_tup (pv 2) (pv 4) (fun _ _ => rfl)) pa_nil)) (pe_f D_most_things (hr.mono (by omega)) pass0 (pa_cons (pv 4) pa_nil)) (nomark _))
      (pss_one (ps_never))
      (pss_nil))
  (pss_cons (ps_expr (pe_m0 D_Line_step T.c_Line.cl (hr.mono (by omega)) pass0 (pv 0)))
  (pss_one (ps_ret (pv 4))))))))
    , ?_⟩
  have hm : u ∈ sortsL := List.mem_of_getElem? hi
  have hr' : 0 < ws.length := (List.getElem?_eq_some_iff.mp hu).1
  obtain ⟨dx, fs, g0, z0⟩ := LnAt.no hL (m := "due") (by decide +kernel) (by decide +kernel) (by decide +kernel) (by decide +kernel)
  refine ⟨_, rfl, a, _, _, rfl, g0, z0, a, ws, 0, u, rfl, hL, hu, ?_⟩
  refine ⟨_, rfl, aS, _, rfl, .inr (T.t_SORTS H), rfl, flat_strs, _, rfl, iteF' (by rw [show (([("satellite" : Str), "station", "recording", "pass"]).map V.str) = sortsL.map V.str from rfl, inV_str, decide_eq_true hm]; rfl) ?_⟩
  obtain ⟨o, ho1, ho2, ho3⟩ := T.k_SORTS
  refine ⟨.inr (.inl ⟨rfl, o, ho1, ho2, ho3⟩), _, rfl, aS, sortsL, u, i, rfl, rfl, T.t_SORTS H, hi, sorts_first hi, ?_⟩
  refine ⟨_, rfl, _, rfl, _, _, rfl, rfl, _, rfl, iteF' (decide_eq_false (by omega)) ?_⟩
  refine ⟨_, rfl, _, rfl, th, _, _, .ref l, rfl, rfl, h1, atI_nat (by rw [List.getElem?_map, h2]; rfl), l, xs, rfl, .inl h3, _, rfl, i, m, rfl, h4, fun H1 s1 => ?_⟩
  refine ⟨rfl, _, rfl, iteF' (decide_eq_false fun z => by have := V.int.inj z; omega) ?_⟩
  obtain ⟨dx, fs, g1, z1⟩ := LnAt.no (hL.same s1) (m := "step") (by decide +kernel) (by decide +kernel) (by decide +kernel) (by decide +kernel)
  refine ⟨_, rfl, a, _, _, rfl, g1, z1, a, ws, 0, rfl, hL.same s1, hr', fun H2 s2 L2 => ?_⟩
  exact ⟨_, rfl, q H2 ((SameX.of s1).trans s2) L2⟩
end
end DP
/-! the lines of a world read into its things -/
namespace DP
open PySem PySem.Spec PyProof.Rows L2
def SameA (as : List Addr) (H H' : Hp) : Prop := ∀ b o, b ∉ as → H b = some o → H' b = some o
theorem SameA.trans {as : List Addr} {H H1 H2 : Hp} (x : SameA as H H1) (y : SameA as H1 H2) : SameA as H H2 := fun b o n h => y b o n (x b o n h)
theorem SameA.of {as : List Addr} {H H' : Hp} (s : Same H H') : SameA as H H' := fun b o _ h => s b o h
theorem SameA.ofX {as : List Addr} {a : Addr} {H H' : Hp} (s : SameX a H H') (h : a ∈ as) : SameA as H H' := fun b o n q => s b o (fun z => n (z ▸ h)) q
theorem SameA.new {as : List Addr} {H H' : Hp} {L : Addr} {o : HO} (hL : H L = none) (s : SameA as H H') : SameA as H (upd H' L o) := fun b u n h => by
  rw [upd_ne (ne_of_none h hL)]
  exact s b u n h
theorem at_ne {K : PySem.W.Frag} {mg : Str → Option Value} {x y : Str} {st st' : Stmt} {ps ps' : List Str} {f g : Addr} (A : At K mg x st ps) (B : At K mg y st' ps') (hf : mg x = some (.ref f)) (hg : mg y = some (.ref g)) (n : x ≠ y) : f ≠ g := fun z => by
  obtain ⟨f', fd, F, e1, _⟩ := A.ex
  obtain ⟨g', gd, G, e2, _⟩ := B.ex
  rw [hf] at e1
  rw [hg] at e2
  cases e1
  cases e2
  obtain ⟨_, _, _, _, _, _, _, _, _, e3, l1, _⟩ := F.ex
  obtain ⟨_, _, _, _, _, _, _, _, _, e4, l2, _⟩ := G.ex
  rw [← z, l1] at l2
  have e : fd = gd := by
    injection Option.some.inj l2 with _ _ h _
    injection h
  have e5 := congrArg FuncData.name (e3.symm.trans (e.trans e4))
  exact n e5
section
variable {P : Program} {w : World} {K : PySem.W.Frag} {mg : Str → Option Value} {base : Heap} {CL CS CT CR CP CW aS aR fS fT fR fP : Addr}
def rdS (K : PySem.W.Frag) (CL CS CT CR CP fS fT fR fP : Addr) (f : Addr) : Option Sp := if f = fS then some (spRdSat K CL CS) else if f = fT then some (spRdSta K CL CT) else if f = fR then some (spRdRec K CL CR) else if f = fP then some (spRdPas K CL CP) else none
theorem held_of {x : Str} {ps : List Str} {sp : Sp} {k : Nat} {f : Addr} (D : DefOk P w K mg base CX0 k x ps sp) (h : mg x = some (.ref f)) : Held P w K mg base k f sp := by
  obtain ⟨g, fd, G, m, kp, b, _⟩ := D.ex
  rw [h] at m
  cases m
  exact ⟨fd, ps, G, kp, b⟩
def spThings (K : PySem.W.Frag) (CL CS CT CR CP : Addr) : Sp := fun vs H Q _ => ∃ (p : Addr) (as : List Addr) (W : WorldD), vs = [.ref p, .int W.horizon] ∧ SqL K H p (as.map V.ref) ∧ as.Nodup ∧ WorldOk W ∧ Paired (fun a l => LnAt CL H a l 0) as (restW W) ∧
  ∀ th l0 l1 l2 l3 H', SameA as H H' → Thg K CS CT CR CP H' th l0 l1 l2 l3 W.sats W.stas W.recs W.pass → Q (.ref th) H'
set_option maxHeartbeats 8000000 in
theorem d_read_things (T : TxtW K mg CL CS CT CR CP CW aS aR fS fT fR fP) (D_read_sort : DefOk P w K mg base CX0 3 "read_sort" ["line", "ahead", "things"] (spSort K CL))
    (D1 : DefOk P w K mg base CX0 5 "read_satellite" ["line", "horizon", "things"] (spRdSat K CL CS)) (D2 : DefOk P w K mg base CX0 5 "read_station" ["line", "_", "things"] (spRdSta K CL CT))
    (D3 : DefOk P w K mg base CX0 5 "read_recording" ["line", "horizon", "things"] (spRdRec K CL CR)) (D4 : DefOk P w K mg base CX0 5 "read_pass" ["line", "horizon", "things"] (spRdPas K CL CP))
    (n1 : fT ≠ fS) (n2 : fR ≠ fS) (n3 : fR ≠ fT) (n4 : fP ≠ fS) (n5 : fP ≠ fT) (n6 : fP ≠ fR)
    (D_Line_finish : MDef P w K mg base CX0 3 CL "finish" ["self"] [] (spFinish CL)) (A : At K mg "read_things" s_read_things ["lines", "horizon"]) : DefOk P w K mg base CX0 6 "read_things" ["lines", "horizon"] (spThings K CL CS CT CR CP) := by
  have B := T.L.B
  have HA : ∀ f sp, rdS K CL CS CT CR CP fS fT fR fP f = some sp → Held P w K mg base 5 f sp := fun f sp h => by
    unfold rdS at h
    by_cases c1 : f = fS
    · rw [if_pos c1] at h
      cases h
      rw [c1]
      exact held_of D1 T.r_satellite
    rw [if_neg c1] at h
    by_cases c2 : f = fT
    · rw [if_pos c2] at h
      cases h
      rw [c2]
      exact held_of D2 T.r_station
    rw [if_neg c2] at h
    by_cases c3 : f = fR
    · rw [if_pos c3] at h
      cases h
      rw [c3]
      exact held_of D3 T.r_recording
    rw [if_neg c3] at h
    by_cases c4 : f = fP
    · rw [if_pos c4] at h
      cases h
      rw [c4]
      exact held_of D4 T.r_pass
    rw [if_neg c4] at h
    cases h
  have S0 : rdS K CL CS CT CR CP fS fT fR fP fS = some (spRdSat K CL CS) := by unfold rdS; rw [if_pos rfl]
  have S1 : rdS K CL CS CT CR CP fS fT fR fP fT = some (spRdSta K CL CT) := by unfold rdS; rw [if_neg n1, if_pos rfl]
  have S2 : rdS K CL CS CT CR CP fS fT fR fP fR = some (spRdRec K CL CR) := by unfold rdS; rw [if_neg n2, if_neg n3, if_pos rfl]
  have S3 : rdS K CL CS CT CR CP fS fT fR fP fP = some (spRdPas K CL CP) := by unfold rdS; rw [if_neg n4, if_neg n5, if_neg n6, if_pos rfl]
  refine A.ok sc_read_things (fun vs H Q E h => ?_) (fun f cdv A outer s H vs Q E hr h => ?_)
  · obtain ⟨p, as, W, rfl, _⟩ := h
    rfl
  obtain ⟨p, as, W, rfl, hp, hnd, wok, hpr, q⟩ := h
  have hlen := paired_len hpr
  refine ⟨_, pss_cons (ps_set (i := 2) sc_read_things.nd rfl (Or.inl rfl) (pe_tup (pa_cons (pe_lst pa_nil) (pa_cons (pe_lst pa_nil) (pa_cons (pe_lst pa_nil) (pa_cons (pe_lst pa_nil) pa_nil))))))
  (pss_cons (ps_set (i := 3) sc_read_things.nd rfl (Or.inl rfl) pe_int)
  (pss_cons (ps_for PassesOwn.never rfl (pi_list (pv 0)) (pg_name (i := 4) sc_read_things.nd rfl (Or.inl rfl))
      (pss_cons (ps_set (i := 3) sc_read_things.nd rfl (Or.inl rfl) (pe_f D_read_sort (hr.mono (by omega)) pass0 (pa_cons (pv 4) (pa_cons (pv 3) (pa_cons (pv 2) pa_nil)))))
      (pss_cons (ps_set (i := 5) sc_read_things.nd rfl (Or.inl rfl) (pe_ix ix_tup (pe_ga T.g_READERS) (pv 3) (fun _ _ => rfl)))
      (pss_cons (ps_expr (pe_bm PySem.F.plainAttrs_list PySem.F.slot_list_append PySem.F.type_list_append mt_append (pe_ix ix_tup (pv 2) (pv 3) (fun _ _ => rfl)) (pa_cons (pe_callA (i := 5) (S := rdS K CL CS CT CR CP fS fT fR fP) HA (hr.mono (by omega)) rfl (Or.inl rfl) (pa_cons (pv 4) (pa_cons (pv 1) (pa_cons (pv 2) pa_nil)))) pa_nil)))
      (pss_one (ps_expr (pe_m0 D_Line_finish T.c_Line.cl (hr.mono (by omega)) pass0 (pv 4))))))))
  (pss_one (ps_ret (pv 2)))))
    , ?_⟩
  refine ⟨Nat.zero_le _, fun l0 h0 => ⟨Nat.zero_le _, fun l1 h1 => ⟨Nat.zero_le _, fun l2 h2 => ⟨Nat.zero_le _, fun l3 h3 => ⟨(by show 4 ≤ sizeLine; decide), fun th hth => ?_⟩⟩⟩⟩⟩
  have d01 : l0 ≠ l1 := fun z => by rw [← z, upd_same] at h1; cases h1
  have h1' : H l1 = none := by rw [upd_ne d01.symm] at h1; exact h1
  have d12 : l1 ≠ l2 := fun z => by rw [← z, upd_same] at h2; cases h2
  have d02 : l0 ≠ l2 := fun z => by rw [← z, upd_ne d01, upd_same] at h2; cases h2
  have h2' : H l2 = none := by rw [upd_ne d12.symm, upd_ne d02.symm] at h2; exact h2
  have d23 : l2 ≠ l3 := fun z => by rw [← z, upd_same] at h3; cases h3
  have d13 : l1 ≠ l3 := fun z => by rw [← z, upd_ne d12, upd_same] at h3; cases h3
  have d03 : l0 ≠ l3 := fun z => by rw [← z, upd_ne d02, upd_ne d01, upd_same] at h3; cases h3
  have h3' : H l3 = none := by rw [upd_ne d23.symm, upd_ne d13.symm, upd_ne d03.symm] at h3; exact h3
  have t3 : l3 ≠ th := fun z => by rw [← z, upd_same] at hth; cases hth
  have t2 : l2 ≠ th := fun z => by rw [← z, upd_ne d23, upd_same] at hth; cases hth
  have t1 : l1 ≠ th := fun z => by rw [← z, upd_ne d13, upd_ne d12, upd_same] at hth; cases hth
  have t0 : l0 ≠ th := fun z => by rw [← z, upd_ne d03, upd_ne d02, upd_ne d01, upd_same] at hth; cases hth
  have hth' : H th = none := by rw [upd_ne t3.symm, upd_ne t2.symm, upd_ne t1.symm, upd_ne t0.symm] at hth; exact hth
  have sS : Same H (upd (upd (upd (upd (upd H l0 (.lst [])) l1 (.lst [])) l2 (.lst [])) l3 (.lst [])) th (.tup [.ref l0, .ref l1, .ref l2, .ref l3])) := same_at hth' (same_at h3' (same_at h2' (same_at h1' (same_new h0 _) _) _) _) _
  refine ⟨_, rfl, p, rfl, ⟨_, sS.seq hp⟩, for_list (K := K) (a := p) (xs := as.map V.ref) (fun i σ H' => ∃ (k : Int) (y4 y5 : Option V), σ = [some (.ref p), some (.int W.horizon), some (.ref th), some (.int k), y4, y5] ∧ k ≤ (kindW W i : Int) ∧
      Thg K CS CT CR CP H' th l0 l1 l2 l3 (preS W i) (preT W i) (preR W i) (preP W i) ∧ (∀ j a l, i ≤ j → as[j]? = some a → (restW W)[j]? = some l → LnAt CL H' a l 0) ∧ SameA as H H') ⟨0, none, none, rfl, by omega, ?_, ?_, SameA.of sS⟩ (fun i σ H' _ hI => ?_) (fun i x σ H1 hx hI => ?_) (fun σ H1 hI => ?_)⟩
  · have e0 : preS W 0 = [] := rfl
    have e1 : preT W 0 = [] := by unfold preT; rw [Nat.zero_sub]; rfl
    have e2 : preR W 0 = [] := by unfold preR; rw [Nat.zero_sub, Nat.zero_sub]; rfl
    have e3 : preP W 0 = [] := by unfold preP; rw [Nat.zero_sub, Nat.zero_sub, Nat.zero_sub]; rfl
    rw [e0, e1, e2, e3]
    exact ⟨upd_same, d01, d02, d03, d12, d13, d23, ⟨[], by rw [upd_ne t0, upd_ne d03, upd_ne d02, upd_ne d01, upd_same], .nil⟩, ⟨[], by rw [upd_ne t1, upd_ne d13, upd_ne d12, upd_same], .nil⟩, ⟨[], by rw [upd_ne t2, upd_ne d23, upd_same], .nil⟩, ⟨[], by rw [upd_ne t3, upd_same], .nil⟩⟩
  · intro j a l _ ha hl
    obtain ⟨l', hl', hL⟩ := paired_at hpr ha
    rw [hl] at hl'
    cases hl'
    exact hL.same sS
  · obtain ⟨k, y4, y5, rfl, _, _, _, hs⟩ := hI
    rcases hp with (hp | ⟨o, hp⟩) | hp
    · exact .inl (.inl (hs _ _ (fun z => by
        obtain ⟨j, hj, ej⟩ := List.mem_iff_getElem.mp z
        obtain ⟨l, _, hL⟩ := paired_at hpr (List.getElem?_eq_getElem hj)
        rw [ej] at hL
        obtain ⟨dx, n, wl, c, g1, g2⟩ := hL.ex
        rw [hp] at g1
        cases g1) hp))
    · exact .inl (.inr ⟨o, hs _ _ (fun z => by
        obtain ⟨j, hj, ej⟩ := List.mem_iff_getElem.mp z
        obtain ⟨l, _, hL⟩ := paired_at hpr (List.getElem?_eq_getElem hj)
        rw [ej] at hL
        obtain ⟨dx, n, wl, c, g1, g2⟩ := hL.ex
        rw [hp] at g1
        cases g1) hp⟩)
    · exact .inr hp
  · obtain ⟨k, y4, y5, rfl, hk, hT, hLs, hs⟩ := hI
    rw [List.getElem?_map] at hx
    cases ha : as[i]? with
    | none => rw [ha] at hx; cases hx
    | some a =>
    rw [ha] at hx
    have ex : V.ref a = x := Option.some.inj hx
    subst ex
    have hmem : a ∈ as := List.mem_of_getElem? ha
    have hi : i < (restW W).length := by
      rw [← hlen]
      exact (List.getElem?_eq_some_iff.mp ha).1
    have far : ∀ j b, i + 1 ≤ j → as[j]? = some b → b ≠ a := fun j b hj hb z => by
      subst z
      obtain ⟨q1, e1⟩ := List.getElem?_eq_some_iff.mp ha
      obtain ⟨q2, e2⟩ := List.getElem?_eq_some_iff.mp hb
      have := (List.getElem_inj hnd).mp (e1.trans e2.symm)
      omega
    have neR : ∀ j l, (restW W)[j]? = some l → l ≠ [] := fun j l hl => by
      have hm : l ∈ restW W := List.mem_of_getElem? hl
      exact (linesW_ok wok l (List.mem_cons_of_mem _ hm)).1
    have nS := wok.nSats
    have nT := wok.nStas
    have nR := wok.nRecs
    have nP := wok.nPass
    have lS : (preS W i).length ≤ W.sats.length := by unfold preS; rw [List.length_take]; omega
    have lT : (preT W i).length ≤ W.stas.length := by unfold preT; rw [List.length_take]; omega
    have lR : (preR W i).length ≤ W.recs.length := by unfold preR; rw [List.length_take]; omega
    have lP : (preP W i).length ≤ W.pass.length := by unfold preP; rw [List.length_take]; omega
    have km := kindW_mono W i
    rcases restW_at W hi with ⟨s, hkd, hsm, hw, hat, e1, e2, e3, e4⟩ | ⟨s, hkd, hsm, hw, hat, e1, e2, e3, e4, eS⟩ | ⟨s, hkd, hsm, hw, hat, e1, e2, e3, e4, eS, eT⟩ | ⟨s, hkd, hsm, hw, hat, e1, e2, e3, e4, eS, eT⟩
    · have hL := hLs i a _ (Nat.le_refl _) ha hw
      obtain ⟨xs, ax, bx⟩ := hT.sats
      have lx := paired_len bx
      have hlt : (preS W i).length < W.sats.length := by
        have z := (List.getElem?_eq_some_iff.mp hat).1
        unfold preS
        rw [List.length_take]
        omega
      refine ⟨_, rfl, _, rfl, _, rfl, a, _, k, th, [l0, l1, l2, l3], l0, xs, 0, "satellite", 3, rfl, hL, rfl, rfl, by omega, hT.list, rfl, SqL.of ax, rfl, by omega, fun H2 s1 L1 => ?_⟩
      have hT1 := hT.sx hL s1
      refine ⟨_, rfl, aR, _, _, .ref fS, rfl, rfl, T.t_READERS _, atI_nat (j := 0) rfl, ?_⟩
      obtain ⟨dx0, n0, wl0, c0, g1, g2⟩ := hL.ex
      have ax1 : H2 l0 = some (.lst xs) := s1 _ _ (ne_of ax g1 (fun z => nomatch z)) ax
      refine ⟨_, rfl, _, rfl, th, _, _, .ref l0, rfl, rfl, hT1.list, atI_nat (j := 0) rfl, .inl ⟨rfl, _, SqL.of ax1⟩, fS, _, rfl, S0, _, rfl, _, rfl, _, rfl, ?_⟩
      refine ⟨a, W.horizon, th, s, _, rfl, L1, (hT.n0 T (by omega)).sameX hL s1, (fresh_name (f := (·.name)) wok.dSats hat), wok.sats s hsm, wok.horizon.1, wok.horizon.2, fun b H3 nb s2 L2 o2 => ?_⟩
      have hT2 := hT1.sx L1 s2
      obtain ⟨dx1, n1', wl1, c1, g3, g4⟩ := L1.ex
      have ax2 : H3 l0 = some (.lst xs) := s2 _ _ (ne_of ax1 g3 (fun z => nomatch z)) ax1
      refine ⟨l0, xs, .ref b, rfl, rfl, ax2, small1000 (by omega), ?_⟩
      have rf := refs_sat bx
      have L3 := L2.up (o := .lst (xs ++ [.ref b])) (neR i _ hw) ax2 rf
      obtain ⟨dx2, fs2, g5, z5⟩ := LnAt.no L3 (m := "finish") (by decide +kernel) (by decide +kernel) (by decide +kernel) (by decide +kernel)
      refine ⟨_, rfl, a, _, _, rfl, g5, z5, a, _, rfl, L3, ?_⟩
      refine ⟨(0 : Int), some (.ref a), some (.ref fS), rfl, by omega, ?_, fun j d l hj hd hl => ?_, SameA.new h0 ((hs.trans (SameA.ofX s1 hmem)).trans (SameA.ofX s2 hmem))⟩
      · rw [e1, e2, e3, e4]
        exact hT2.push0 ax2 o2
      · have nd := far j d hj hd
        exact (((hLs j d l (by omega) hd hl).sx hL nd s1).sx L1 nd s2).up (neR j l hl) ax2 rf
    · have hL := hLs i a _ (Nat.le_refl _) ha hw
      obtain ⟨xs, ax, bx⟩ := hT.stas
      have lx := paired_len bx
      have hlt : (preT W i).length < W.stas.length := by
        have z := (List.getElem?_eq_some_iff.mp hat).1
        unfold preT
        rw [List.length_take]
        omega
      refine ⟨_, rfl, _, rfl, _, rfl, a, _, k, th, [l0, l1, l2, l3], l1, xs, 1, "station", 3, rfl, hL, rfl, rfl, by omega, hT.list, rfl, SqL.of ax, rfl, by omega, fun H2 s1 L1 => ?_⟩
      have hT1 := hT.sx hL s1
      refine ⟨_, rfl, aR, _, _, .ref fT, rfl, rfl, T.t_READERS _, atI_nat (j := 1) rfl, ?_⟩
      obtain ⟨dx0, n0, wl0, c0, g1, g2⟩ := hL.ex
      have ax1 : H2 l1 = some (.lst xs) := s1 _ _ (ne_of ax g1 (fun z => nomatch z)) ax
      refine ⟨_, rfl, _, rfl, th, _, _, .ref l1, rfl, rfl, hT1.list, atI_nat (j := 1) rfl, .inl ⟨rfl, _, SqL.of ax1⟩, fT, _, rfl, S1, _, rfl, _, rfl, _, rfl, ?_⟩
      refine ⟨a, W.horizon, th, s, _, rfl, L1, (hT.n1 T (by omega)).sameX hL s1, (fresh_name (f := (·.name)) wok.dStas hat), wok.stas s hsm, fun b H3 nb s2 L2 o2 => ?_⟩
      have hT2 := hT1.sx L1 s2
      obtain ⟨dx1, n1', wl1, c1, g3, g4⟩ := L1.ex
      have ax2 : H3 l1 = some (.lst xs) := s2 _ _ (ne_of ax1 g3 (fun z => nomatch z)) ax1
      refine ⟨l1, xs, .ref b, rfl, rfl, ax2, small1000 (by omega), ?_⟩
      have rf := refs_sta bx
      have L3 := L2.up (o := .lst (xs ++ [.ref b])) (neR i _ hw) ax2 rf
      obtain ⟨dx2, fs2, g5, z5⟩ := LnAt.no L3 (m := "finish") (by decide +kernel) (by decide +kernel) (by decide +kernel) (by decide +kernel)
      refine ⟨_, rfl, a, _, _, rfl, g5, z5, a, _, rfl, L3, ?_⟩
      refine ⟨(1 : Int), some (.ref a), some (.ref fT), rfl, by omega, ?_, fun j d l hj hd hl => ?_, SameA.new h1' ((hs.trans (SameA.ofX s1 hmem)).trans (SameA.ofX s2 hmem))⟩
      · rw [e1, e2, e3, e4]
        exact hT2.push1 ax2 o2
      · have nd := far j d hj hd
        exact (((hLs j d l (by omega) hd hl).sx hL nd s1).sx L1 nd s2).up (neR j l hl) ax2 rf
    · have hL := hLs i a _ (Nat.le_refl _) ha hw
      obtain ⟨xs, ax, bx⟩ := hT.recs
      have lx := paired_len bx
      have hlt : (preR W i).length < W.recs.length := by
        have z := (List.getElem?_eq_some_iff.mp hat).1
        unfold preR
        rw [List.length_take]
        omega
      refine ⟨_, rfl, _, rfl, _, rfl, a, _, k, th, [l0, l1, l2, l3], l2, xs, 2, "recording", 10, rfl, hL, rfl, rfl, by omega, hT.list, rfl, SqL.of ax, rfl, by omega, fun H2 s1 L1 => ?_⟩
      have hT1 := hT.sx hL s1
      refine ⟨_, rfl, aR, _, _, .ref fR, rfl, rfl, T.t_READERS _, atI_nat (j := 2) rfl, ?_⟩
      obtain ⟨dx0, n0, wl0, c0, g1, g2⟩ := hL.ex
      have ax1 : H2 l2 = some (.lst xs) := s1 _ _ (ne_of ax g1 (fun z => nomatch z)) ax
      refine ⟨_, rfl, _, rfl, th, _, _, .ref l2, rfl, rfl, hT1.list, atI_nat (j := 2) rfl, .inl ⟨rfl, _, SqL.of ax1⟩, fR, _, rfl, S2, _, rfl, _, rfl, _, rfl, ?_⟩
      refine ⟨a, th, W, s, _, rfl, L1, (hT.n2 T (by omega)).sameX hL s1, (by rw [← eS]; exact (hT.n0 T (by omega)).sameX hL s1), (fresh_name (f := (·.name)) wok.dRecs hat), wok, wok.recs s hsm, fun b H3 nb s2 L2 o2 => ?_⟩
      have hT2 := hT1.sx L1 s2
      obtain ⟨dx1, n1', wl1, c1, g3, g4⟩ := L1.ex
      have ax2 : H3 l2 = some (.lst xs) := s2 _ _ (ne_of ax1 g3 (fun z => nomatch z)) ax1
      refine ⟨l2, xs, .ref b, rfl, rfl, ax2, small1000 (by omega), ?_⟩
      have rf := refs_rec bx
      have L3 := L2.up (o := .lst (xs ++ [.ref b])) (neR i _ hw) ax2 rf
      obtain ⟨dx2, fs2, g5, z5⟩ := LnAt.no L3 (m := "finish") (by decide +kernel) (by decide +kernel) (by decide +kernel) (by decide +kernel)
      refine ⟨_, rfl, a, _, _, rfl, g5, z5, a, _, rfl, L3, ?_⟩
      refine ⟨(2 : Int), some (.ref a), some (.ref fR), rfl, by omega, ?_, fun j d l hj hd hl => ?_, SameA.new h2' ((hs.trans (SameA.ofX s1 hmem)).trans (SameA.ofX s2 hmem))⟩
      · rw [e1, e2, e3, e4]
        exact hT2.push2 ax2 o2
      · have nd := far j d hj hd
        exact (((hLs j d l (by omega) hd hl).sx hL nd s1).sx L1 nd s2).up (neR j l hl) ax2 rf
    · have hL := hLs i a _ (Nat.le_refl _) ha hw
      obtain ⟨xs, ax, bx⟩ := hT.pass
      have lx := paired_len bx
      have hlt : (preP W i).length < W.pass.length := by
        have z := (List.getElem?_eq_some_iff.mp hat).1
        unfold preP
        rw [List.length_take]
        omega
      refine ⟨_, rfl, _, rfl, _, rfl, a, _, k, th, [l0, l1, l2, l3], l3, xs, 3, "pass", 10, rfl, hL, rfl, rfl, by omega, hT.list, rfl, SqL.of ax, rfl, by omega, fun H2 s1 L1 => ?_⟩
      have hT1 := hT.sx hL s1
      refine ⟨_, rfl, aR, _, _, .ref fP, rfl, rfl, T.t_READERS _, atI_nat (j := 3) rfl, ?_⟩
      obtain ⟨dx0, n0, wl0, c0, g1, g2⟩ := hL.ex
      have ax1 : H2 l3 = some (.lst xs) := s1 _ _ (ne_of ax g1 (fun z => nomatch z)) ax
      refine ⟨_, rfl, _, rfl, th, _, _, .ref l3, rfl, rfl, hT1.list, atI_nat (j := 3) rfl, .inl ⟨rfl, _, SqL.of ax1⟩, fP, _, rfl, S3, _, rfl, _, rfl, _, rfl, ?_⟩
      refine ⟨a, th, W, s, _, rfl, L1, (hT.n3 T (by omega)).sameX hL s1, (by rw [← eS]; exact (hT.n0 T (by omega)).sameX hL s1), (by rw [← eT]; exact (hT.n1 T (by omega)).sameX hL s1), (fresh_name (f := (·.name)) wok.dPass hat), wok, wok.pass s hsm, fun b H3 nb s2 L2 o2 => ?_⟩
      have hT2 := hT1.sx L1 s2
      obtain ⟨dx1, n1', wl1, c1, g3, g4⟩ := L1.ex
      have ax2 : H3 l3 = some (.lst xs) := s2 _ _ (ne_of ax1 g3 (fun z => nomatch z)) ax1
      refine ⟨l3, xs, .ref b, rfl, rfl, ax2, small1000 (by omega), ?_⟩
      have rf := refs_pas bx
      have L3 := L2.up (o := .lst (xs ++ [.ref b])) (neR i _ hw) ax2 rf
      obtain ⟨dx2, fs2, g5, z5⟩ := LnAt.no L3 (m := "finish") (by decide +kernel) (by decide +kernel) (by decide +kernel) (by decide +kernel)
      refine ⟨_, rfl, a, _, _, rfl, g5, z5, a, _, rfl, L3, ?_⟩
      refine ⟨(3 : Int), some (.ref a), some (.ref fP), rfl, by omega, ?_, fun j d l hj hd hl => ?_, SameA.new h3' ((hs.trans (SameA.ofX s1 hmem)).trans (SameA.ofX s2 hmem))⟩
      · rw [e1, e2, e3, e4]
        exact hT2.push3 ax2 o2
      · have nd := far j d hj hd
        exact (((hLs j d l (by omega) hd hl).sx hL nd s1).sx L1 nd s2).up (neR j l hl) ax2 rf
  · obtain ⟨k, y4, y5, rfl, hk, hT, hLs, hs⟩ := hI
    rw [List.length_map, hlen] at hT
    have f1 : preS W (restW W).length = W.sats := List.take_of_length_le (by rw [restW_len]; omega)
    have f2 : preT W (restW W).length = W.stas := List.take_of_length_le (by rw [restW_len]; omega)
    have f3 : preR W (restW W).length = W.recs := List.take_of_length_le (by rw [restW_len]; omega)
    have f4 : preP W (restW W).length = W.pass := List.take_of_length_le (by rw [restW_len]; omega)
    rw [f1, f2, f3, f4] at hT
    exact ⟨_, rfl, q th l0 l1 l2 l3 H1 hs hT⟩
end
end DP
/-! a world made of its text -/
namespace DP
open PySem PySem.Spec PyProof.Rows L2
/-- a staticmethod of a class -/
structure SMet (K : PySem.W.Frag) (C : Addr) (m : Str) (g : Addr) : Prop where
  ex : ∃ p rest, PySem.W.findCls K (.ref C) (.type "type") m = some (.get (.builtin "staticmethod.__get__") (.ref p) .none (.ref C)) ∧ PySem.W.recIn K p "staticmethod" = some (.ref g :: rest)
structure SAt (K : PySem.W.Frag) (C : Addr) (m qual : Str) (st : Stmt) (ps : List Str) : Prop where
  ex : ∃ f fd, Fun K m qual st f fd ∧ SMet K C m f ∧ Binds K fd ps []
structure SDef (P : Program) (w : World) (K : PySem.W.Frag) (mg : Str → Option Value) (base : Heap) (CX : CXT) (k : Nat) (C : Addr) (m : Str) (ps : List Str) (sp : Sp) : Prop where
  ex : ∃ f fd, FnOk P w K mg base CX k f fd ps sp ∧ SMet K C m f ∧ PySem.W.keepIn K (.ref f) = true ∧ Binds K fd ps []
def tSMeth (C : Addr) (sp : Sp) (E : XK) (ta : TE) (t : TA) : TE := fun σ H Q => ta σ H fun x H1 => x = .ref C ∧ t σ H1 fun vs H2 => sp vs H2 Q E
theorem pe_smeth {X : Cx} {CX : CXT} {k : Nat} {C : Addr} {m : Str} {ps : List Str} {sp : Sp} {E : XK} {o e : Expr} {es : List Expr} {ta : TE} {t : TA} {pos apos : Pos} {pl : Sem Bool}
    (D : SDef X.prog X.w X.K X.mg X.base CX k C m ps sp) (rd : ClX.CRead X.K C (.type "type")) (hr : Room k X.A) (hx : Passes CX X E) (he : PE X o ta) (ha : PA X (e :: es) t)
    (hst : starEach (e :: es) X.env = (false, eval e X.env) :: starEach es X.env := by rfl) (hpl : (backTo pos (starEach es X.env)).any (·.1) = false := by rfl)
    (ht : eval (.Call (.Attribute o m apos) (e :: es) [] pos) X.env = (do
      let ov ← eval o X.env
      standAt apos.atName
      let (f, first) ← holding [ov] (getMethod ov m pl)
      callWith pos f first (backTo pos (starEach (e :: es) X.env)) (backToKw pos (keywordEach [] X.env))) := by rfl) :
    PE X (.Call (.Attribute o m apos) (e :: es) [] pos) (tSMeth C sp E ta t) := by
  obtain ⟨f, fd, G, ⟨p, rest, e1, e2⟩, kp, b⟩ := D.ex
  refine ⟨fun pins s σ H Q I h => ?_⟩
  refine PySem.W.methodCall_KW (pl := pl) (thn (he.run pins s σ H _ I h) fun u s1 ⟨x, H1, I1, rx, ex, q⟩ => ?_) ht
  subst ex
  obtain rfl : u = Value.ref C := rx
  have I2 := I1.tok (s1.toks + 1)
  refine PySem.W.method_cls I1.kIn rd.ga (PySem.W.cls_bind I1.kIn rd.rd e1 (wpAny_call (PySem.W.sm_get (s := { s1 with toks := s1.toks + 1 }) I2.kIn e2 (PySem.W.handed_on (handed_of (v := .ref f) rfl) ?_))))
  refine PySem.W.callWith_K (h₀ := X.base) I.ok.mod.kin kp (thn (ha.run pos pins _ σ H1 _ I2 q) fun us s3 ⟨vs, H2, I3, r, q2⟩ => ⟨I3.kIn, ?_⟩) hst hpl
  rw [← List.append_nil vs] at q2
  exact run_fn (dvs := []) (ds := []) G hr b .nil hx I3 r q2
section
variable {P : Program} {w : World} {K : PySem.W.Frag} {mg : Str → Option Value} {base : Heap} {C : Addr} {m qual : Str} {st : Stmt} {ps N : List Str} {k : Nat} {sp : Sp}
theorem SAt.ok (F : SAt K C m qual st ps) (S : FnScope N ps (defScope st)) (len : ∀ vs H Q E, sp vs H Q E → vs.length = ps.length)
    (hbody : ∀ (f : Addr) (cdv : Value) (A : Around) (outer : List Env) (s : Shared) (H : Hp) (vs : List V) (Q : VK) (E : XK), Room k (A.deeper (envOfC qual (defScope st) s.heap.objs.size f cdv)) → sp vs H Q E →
      ∃ t, PSs (cxOf CX0 P w K mg base N qual (defScope st) f cdv A outer s H E).nox (defBody st) t ∧ t { nx := fun _ H' => Q .non H', rt := Q } (start N vs) H) : SDef P w K mg base CX0 (k + 1) C m ps sp := by
  obtain ⟨f, fd, G, M, b⟩ := F.ex
  exact ⟨f, fd, G.ok S len (fun cdv A outer s H vs Q E hr h => hbody f cdv A outer s H vs Q E hr h), M, G.kp, b⟩
end
/-! ### the world's object -/
def worF (u : Str) (h : Int) (t0 t1 t2 t3 : Addr) : List (Str × V) := [("text", .str u), ("horizon", .int h), ("satellites", .ref t0), ("stations", .ref t1), ("recordings", .ref t2), ("passes", .ref t3)]
structure WorldAt (K : PySem.W.Frag) (CS CT CR CP CW : Addr) (H : Hp) (a : Addr) (W : WorldD) : Prop where
  ex : ∃ dx t0 t1 t2 t3 x0 x1 x2 x3, H a = some (.ins CW dx (worF (textW W) W.horizon t0 t1 t2 t3)) ∧ SqT K H t0 x0 ∧ Paired (SatAt K CS H) x0 W.sats ∧ SqT K H t1 x1 ∧ Paired (StaAt CT H) x1 W.stas ∧
    SqT K H t2 x2 ∧ Paired (RecAt CR H) x2 W.recs ∧ SqT K H t3 x3 ∧ Paired (PasAt K CP H) x3 W.pass
theorem WorldAt.same {K : PySem.W.Frag} {CS CT CR CP CW : Addr} {H H' : Hp} {a : Addr} {W : WorldD} (h : WorldAt K CS CT CR CP CW H a W) (z : Same H H') : WorldAt K CS CT CR CP CW H' a W := by
  obtain ⟨dx, t0, t1, t2, t3, x0, x1, x2, x3, g, a0, b0, a1, b1, a2, b2, a3, b3⟩ := h.ex
  exact ⟨dx, t0, t1, t2, t3, x0, x1, x2, x3, z _ _ g, Same.tup z a0, Paired.mapP b0 fun _ _ y => y.same z, Same.tup z a1, Paired.mapP b1 fun _ _ y => y.same z, Same.tup z a2, Paired.mapP b2 fun _ _ y => y.same z, Same.tup z a3, Paired.mapP b3 fun _ _ y => y.same z⟩
section
variable {K : PySem.W.Frag} {CS CT CR CP C : Addr} {H H' : Hp} {x dx th l0 l1 l2 l3 : Addr} {y : V} {S : List SatD} {T : List StaD} {R : List RecD} {P : List PasD}
theorem ne_bare {b D dy : Addr} {fs : List (Str × V)} (hx : H x = some (.ins C dx [])) (hb : H b = some (.ins D dy fs)) (n : fs.length ≠ 0) : b ≠ x := ins_ne hb hx n
/-- the things stay where a new object is filled -/
theorem Thg.bare (h : Thg K CS CT CR CP H th l0 l1 l2 l3 S T R P) (hx : H x = some (.ins C dx [])) (z : SameX x H H') : Thg K CS CT CR CP H' th l0 l1 l2 l3 S T R P := by
  obtain ⟨x0, a0, b0⟩ := h.sats
  obtain ⟨x1, a1, b1⟩ := h.stas
  obtain ⟨x2, a2, b2⟩ := h.recs
  obtain ⟨x3, a3, b3⟩ := h.pass
  refine ⟨z _ _ (ne_of h.tup hx (fun z => nomatch z)) h.tup, h.d01, h.d02, h.d03, h.d12, h.d13, h.d23, ⟨x0, z _ _ (ne_of a0 hx (fun z => nomatch z)) a0, Paired.mapP b0 fun _ _ q => ?_⟩, ⟨x1, z _ _ (ne_of a1 hx (fun z => nomatch z)) a1, Paired.mapP b1 fun _ _ q => ?_⟩,
    ⟨x2, z _ _ (ne_of a2 hx (fun z => nomatch z)) a2, Paired.mapP b2 fun _ _ q => ?_⟩, ⟨x3, z _ _ (ne_of a3 hx (fun z => nomatch z)) a3, Paired.mapP b3 fun _ _ q => ?_⟩⟩
  · obtain ⟨b, dx, t, ls, h1, h2, h3, h4⟩ := q
    exact ⟨b, dx, t, ls, h1, z _ _ (ne_bare hx h2 (by show 8 ≠ 0; decide)) h2, z.sqT hx h3, z.spans hx h4⟩
  · obtain ⟨b, dx, h1, h2⟩ := q
    exact ⟨b, dx, h1, z _ _ (ne_bare hx h2 (by show 3 ≠ 0; decide)) h2⟩
  · obtain ⟨b, dx, h1, h2⟩ := q
    exact ⟨b, dx, h1, z _ _ (ne_bare hx h2 (by show 10 ≠ 0; decide)) h2⟩
  · obtain ⟨b, dx, t, h1, h2, h3⟩ := q
    exact ⟨b, dx, t, h1, z _ _ (ne_bare hx h2 (by show 7 ≠ 0; decide)) h2, z.sqT hx h3⟩
end
section
variable {P : Program} {w : World} {K : PySem.W.Frag} {mg : Str → Option Value} {base : Heap} {CL CS CT CR CP CW aS aR fS fT fR fP : Addr}
def spWInit (K : PySem.W.Frag) (CS CT CR CP CW : Addr) : Sp := fun vs H Q _ => ∃ (x dx : Addr) (W : WorldD) (th l0 l1 l2 l3 : Addr), vs = [.ref x, .str (textW W), .int W.horizon, .ref th] ∧ H x = some (.ins CW dx []) ∧
  Thg K CS CT CR CP H th l0 l1 l2 l3 W.sats W.stas W.recs W.pass ∧ ∀ H', SameX x H H' → WorldAt K CS CT CR CP CW H' x W → Q .non H'
theorem dI_World (T : TxtW K mg CL CS CT CR CP CW aS aR fS fT fR fP) (A : MAt K CW "__init__" "World.__init__" s_World___init__ ["self", "text", "horizon", "things"]) : MDef P w K mg base CX0 1 CW "__init__" ["self", "text", "horizon", "things"] [] (spWInit K CS CT CR CP CW) := by
  have B := T.L.B
  refine A.ok sc_World___init__ (fun vs H Q E h => ?_) (fun f cdv A outer s H vs Q E hr h => ?_)
  · obtain ⟨x, dx, W, th, l0, l1, l2, l3, rfl, _⟩ := h
    rfl
  obtain ⟨x, dx, W, th, l0, l1, l2, l3, rfl, hx, hT, q⟩ := h
  refine ⟨_, pss_cons (ps_asg (pv 3) (pg_tup (by rfl) (pgs_cons (pg_name (i := 4) sc_World___init__.nd rfl (Or.inl rfl)) (pgs_cons (pg_name (i := 5) sc_World___init__.nd rfl (Or.inl rfl)) (pgs_cons (pg_name (i := 6) sc_World___init__.nd rfl (Or.inl rfl)) (pgs_cons (pg_name (i := 7) sc_World___init__.nd rfl (Or.inl rfl)) (pgs_nil)))))))
  (pss_cons (ps_fld (pv 0) (pv 1) rfl)
  (pss_cons (ps_fld (pv 0) (pv 2) rfl)
  (pss_cons (ps_fld (pv 0) (pe_callTy (call_tuple_of) (by rfl) B.tuple (by decide +kernel) (pa_cons (pv 4) pa_nil)) rfl)
  (pss_cons (ps_fld (pv 0) (pe_callTy (call_tuple_of) (by rfl) B.tuple (by decide +kernel) (pa_cons (pv 5) pa_nil)) rfl)
  (pss_cons (ps_fld (pv 0) (pe_callTy (call_tuple_of) (by rfl) B.tuple (by decide +kernel) (pa_cons (pv 6) pa_nil)) rfl)
  (pss_one (ps_fld (pv 0) (pe_callTy (call_tuple_of) (by rfl) B.tuple (by decide +kernel) (pa_cons (pv 7) pa_nil)) rfl)))))))
    , ?_⟩
  have cl := T.c_World.cl
  refine ⟨_, rfl, th, _, rfl, SqT.of hT.tup, rfl, _, _, rfl, _, _, rfl, _, _, rfl, _, _, rfl, rfl, ?_⟩
  refine ⟨_, rfl, _, rfl, x, CW, dx, _, rfl, hx, cl, T.n_World_text, (by show 0 < 1000; decide), ?_⟩
  rw [put_nil]
  refine ⟨_, rfl, _, rfl, x, CW, dx, _, rfl, upd_same, cl, T.n_World_horizon, (by show 1 < 1000; decide), ?_⟩
  rw [upd_upd, put_miss (by decide +kernel), put_nil]
  have z1 : SameX x H (upd H x (.ins CW dx [("text", .str (textW W)), ("horizon", .int W.horizon)])) := SameX.upd
  obtain ⟨x0, a0, b0⟩ := (hT.bare hx z1).sats
  refine ⟨_, rfl, l0, x0, rfl, .inl ⟨SqL.of a0, fun t0 ht0 => ?_⟩⟩
  have e0 : x ≠ t0 := fun z => by rw [← z, upd_same] at ht0; cases ht0
  refine ⟨_, rfl, x, CW, dx, _, rfl, (upd_ne e0).trans upd_same, cl, T.n_World_satellites, (by show 2 < 1000; decide), ?_⟩
  rw [put_miss (by decide +kernel), put_miss (by decide +kernel), put_nil]
  have z2 : SameX x H (upd (upd (upd H x (.ins CW dx [("text", .str (textW W)), ("horizon", .int W.horizon)])) t0 (.tup x0)) x (.ins CW dx [("text", .str (textW W)), ("horizon", .int W.horizon), ("satellites", .ref t0)])) := (z1.trans (SameX.of (same_new ht0 _))).trans SameX.upd
  generalize hH2 : (upd (upd (upd H x (.ins CW dx [("text", .str (textW W)), ("horizon", .int W.horizon)])) t0 (.tup x0)) x (.ins CW dx [("text", .str (textW W)), ("horizon", .int W.horizon), ("satellites", .ref t0)])) = H2 at z2
  have g2 : H2 x = some (.ins CW dx [("text", .str (textW W)), ("horizon", .int W.horizon), ("satellites", .ref t0)]) := by rw [← hH2, upd_same]
  have k0 : H2 t0 = some (.tup x0) := by rw [← hH2, upd_ne e0.symm, upd_same]
  obtain ⟨x1, a1, b1⟩ := (hT.bare hx z2).stas
  refine ⟨_, rfl, l1, x1, rfl, .inl ⟨SqL.of a1, fun t1 ht1 => ?_⟩⟩
  have e1 : x ≠ t1 := ne_of_none g2 ht1
  refine ⟨_, rfl, x, CW, dx, _, rfl, (upd_ne e1).trans g2, cl, T.n_World_stations, (by show 3 < 1000; decide), ?_⟩
  rw [put_miss (by decide +kernel), put_miss (by decide +kernel), put_miss (by decide +kernel), put_nil]
  have z3 : SameX x H2 (upd (upd H2 t1 (.tup x1)) x (.ins CW dx [("text", .str (textW W)), ("horizon", .int W.horizon), ("satellites", .ref t0), ("stations", .ref t1)])) := (SameX.of (same_new ht1 _)).trans SameX.upd
  generalize hH3 : (upd (upd H2 t1 (.tup x1)) x (.ins CW dx [("text", .str (textW W)), ("horizon", .int W.horizon), ("satellites", .ref t0), ("stations", .ref t1)])) = H3 at z3
  have g3 : H3 x = some (.ins CW dx [("text", .str (textW W)), ("horizon", .int W.horizon), ("satellites", .ref t0), ("stations", .ref t1)]) := by rw [← hH3, upd_same]
  have k1 : H3 t1 = some (.tup x1) := by rw [← hH3, upd_ne e1.symm, upd_same]
  obtain ⟨x2, a2, b2⟩ := (hT.bare hx (z2.trans z3)).recs
  refine ⟨_, rfl, l2, x2, rfl, .inl ⟨SqL.of a2, fun t2 ht2 => ?_⟩⟩
  have e2 : x ≠ t2 := ne_of_none g3 ht2
  refine ⟨_, rfl, x, CW, dx, _, rfl, (upd_ne e2).trans g3, cl, T.n_World_recordings, (by show 4 < 1000; decide), ?_⟩
  rw [put_miss (by decide +kernel), put_miss (by decide +kernel), put_miss (by decide +kernel), put_miss (by decide +kernel), put_nil]
  have z4 : SameX x H3 (upd (upd H3 t2 (.tup x2)) x (.ins CW dx [("text", .str (textW W)), ("horizon", .int W.horizon), ("satellites", .ref t0), ("stations", .ref t1), ("recordings", .ref t2)])) := (SameX.of (same_new ht2 _)).trans SameX.upd
  generalize hH4 : (upd (upd H3 t2 (.tup x2)) x (.ins CW dx [("text", .str (textW W)), ("horizon", .int W.horizon), ("satellites", .ref t0), ("stations", .ref t1), ("recordings", .ref t2)])) = H4 at z4
  have g4 : H4 x = some (.ins CW dx [("text", .str (textW W)), ("horizon", .int W.horizon), ("satellites", .ref t0), ("stations", .ref t1), ("recordings", .ref t2)]) := by rw [← hH4, upd_same]
  have k2 : H4 t2 = some (.tup x2) := by rw [← hH4, upd_ne e2.symm, upd_same]
  obtain ⟨x3, a3, b3⟩ := (hT.bare hx ((z2.trans z3).trans z4)).pass
  refine ⟨_, rfl, l3, x3, rfl, .inl ⟨SqL.of a3, fun t3 ht3 => ?_⟩⟩
  have e3 : x ≠ t3 := ne_of_none g4 ht3
  refine ⟨_, rfl, x, CW, dx, _, rfl, (upd_ne e3).trans g4, cl, T.n_World_passes, (by show 5 < 1000; decide), ?_⟩
  rw [put_miss (by decide +kernel), put_miss (by decide +kernel), put_miss (by decide +kernel), put_miss (by decide +kernel), put_miss (by decide +kernel), put_nil]
  have z5 : SameX x H4 (upd (upd H4 t3 (.tup x3)) x (.ins CW dx (worF (textW W) W.horizon t0 t1 t2 t3))) := (SameX.of (same_new ht3 _)).trans SameX.upd
  have zz := (((z2.trans z3).trans z4).trans z5)
  have hTT := hT.bare hx zz
  have c0 : ∀ {y0 : List V}, Paired (SatAt K CS H) y0 W.sats → True := fun _ => True.intro
  obtain ⟨y0, q0, r0⟩ := hT.sats
  obtain ⟨y1, q1, r1⟩ := hT.stas
  obtain ⟨y2, q2, r2⟩ := hT.recs
  obtain ⟨y3, q3, r3⟩ := hT.pass
  obtain ⟨w0, u0, v0⟩ := hTT.sats
  obtain ⟨w1, u1, v1⟩ := hTT.stas
  obtain ⟨w2, u2, v2⟩ := hTT.recs
  obtain ⟨w3, u3, v3⟩ := hTT.pass
  have n0 : l0 ≠ x := ne_of q0 hx (fun z => nomatch z)
  have n1 : l1 ≠ x := ne_of q1 hx (fun z => nomatch z)
  have n2 : l2 ≠ x := ne_of q2 hx (fun z => nomatch z)
  have n3 : l3 ≠ x := ne_of q3 hx (fun z => nomatch z)
  have j0 : w0 = x0 := HO.lst.inj (Option.some.inj (u0.symm.trans ((((z2.trans z3).trans z4).trans z5) _ _ n0 q0 |>.trans (by rw [← (z1 _ _ n0 q0).symm.trans a0]))))
  have j1 : w1 = x1 := HO.lst.inj (Option.some.inj (u1.symm.trans ((((z2.trans z3).trans z4).trans z5) _ _ n1 q1 |>.trans (by rw [← (z2 _ _ n1 q1).symm.trans a1]))))
  have j2 : w2 = x2 := HO.lst.inj (Option.some.inj (u2.symm.trans ((((z2.trans z3).trans z4).trans z5) _ _ n2 q2 |>.trans (by rw [← ((z2.trans z3) _ _ n2 q2).symm.trans a2]))))
  have j3 : w3 = x3 := HO.lst.inj (Option.some.inj (u3.symm.trans ((((z2.trans z3).trans z4).trans z5) _ _ n3 q3 |>.trans (by rw [← (((z2.trans z3).trans z4) _ _ n3 q3).symm.trans a3]))))
  subst j0 j1 j2 j3
  exact q _ zz ⟨dx, t0, t1, t2, t3, w0, w1, w2, w3, upd_same, SqT.of (z5 _ _ e0.symm (z4 _ _ e0.symm (z3 _ _ e0.symm k0))), v0, SqT.of (z5 _ _ e1.symm (z4 _ _ e1.symm k1)), v1, SqT.of (z5 _ _ e2.symm k2), v2, SqT.of (by rw [upd_ne e3.symm, upd_same]), v3⟩
end
end DP
/-! World.parse -/
namespace DP
open PySem PySem.Spec PyProof.Rows L2
section
variable {P : Program} {w : World} {K : PySem.W.Frag} {mg : Str → Option Value} {base : Heap} {CL CS CT CR CP CW aS aR fS fT fR fP : Addr}
def spParse (K : PySem.W.Frag) (CS CT CR CP CW : Addr) : Sp := fun vs H Q _ => ∃ W : WorldD, vs = [.str (textW W)] ∧ WorldOk W ∧ ∀ a H', H a = none → Same H H' → WorldAt K CS CT CR CP CW H' a W → Q (.ref a) H'
theorem d_parse (T : TxtW K mg CL CS CT CR CP CW aS aR fS fT fR fP) (D_lines_of : DefOk P w K mg base CX0 3 "lines_of" ["text"] (spLines CL)) (D_Line_read_field : MDef P w K mg base CX0 4 CL "read_field" ["self", "word", "least", "most"] [] (spField CL))
    (D_Line_finish : MDef P w K mg base CX0 3 CL "finish" ["self"] [] (spFinish CL)) (D_read_things : DefOk P w K mg base CX0 6 "read_things" ["lines", "horizon"] (spThings K CL CS CT CR CP))
    (DI_World : MDef P w K mg base CX0 1 CW "__init__" ["self", "text", "horizon", "things"] [] (spWInit K CS CT CR CP CW)) (A : SAt K CW "parse" "World.parse" s_World_parse ["text"]) : SDef P w K mg base CX0 7 CW "parse" ["text"] (spParse K CS CT CR CP CW) := by
  have B := T.L.B
  refine A.ok sc_World_parse (fun vs H Q E h => ?_) (fun f cdv A outer s H vs Q E hr h => ?_)
  · obtain ⟨W, rfl, _⟩ := h
    rfl
  obtain ⟨W, rfl, wok, q⟩ := h
  refine ⟨_, pss_cons (ps_set (i := 1) sc_World_parse.nd rfl (Or.inl rfl) (pe_f D_lines_of (hr.mono (by omega)) pass0 (pa_cons (pv 0) pa_nil)))
  (pss_cons (ps_if (pt_cmpR op_eq (pe_callB (call_len_seq) (by rfl) B.len (by decide +kernel) (pa_cons (pv 1) pa_nil)) pe_int (nomark _))
      (pss_one (ps_never))
      (pss_nil))
  (pss_cons (ps_set (i := 2) sc_World_parse.nd rfl (Or.inl rfl) (pe_m D_Line_read_field T.c_Line.cl (hr.mono (by omega)) pass0 (pe_ix ix_list (pv 1) pe_int (fun _ _ => rfl)) (pa_cons pe_str (pa_cons pe_int (pa_cons (ClX.pe_cval (pe_ga T.c_World.gC) rfl) pa_nil)))))
  (pss_cons (ps_expr (pe_m0 D_Line_finish T.c_Line.cl (hr.mono (by omega)) pass0 (pe_ix ix_list (pv 1) pe_int (fun _ _ => rfl))))
  (pss_one (ps_ret (pe_mk DI_World T.c_World (hr.mono (by omega)) pass0 (pa_cons (pv 0) (pa_cons (pv 2) (pa_cons (pe_f D_read_things (hr.mono (by omega)) pass0 (pa_cons (pe_slice sl_list (pv 1) (po_some pe_int) po_none) (pa_cons (pv 2) pa_nil))) pa_nil)))))))))
    , ?_⟩
  refine ⟨_, rfl, linesW W, rfl, linesW_ok wok, Nat.le_trans (linesW_len wok) (by decide), textW_len wok, fun p as H1 s1 hp hfr hnd hpp hpr => ?_⟩
  obtain ⟨a0, ar, rfl⟩ : ∃ a0 ar, as = a0 :: ar := by
    cases hpr with
    | cons _ _ => exact ⟨_, _, rfl⟩
  obtain ⟨L0, hpr2⟩ : LnAt CL H1 a0 (wHor W.horizon) 0 ∧ Paired (fun a l => LnAt CL H1 a l 0) ar (restW W) := by
    cases hpr with
    | cons x y => exact ⟨x, y⟩
  have hl0 : a0 ≠ p := by
    obtain ⟨dx, n, wl, c, g1, g2⟩ := L0.ex
    exact ne_of g1 hpp (fun z => nomatch z)
  refine ⟨_, rfl, p, _, rfl, .inl (SqL.of hpp), rfl, _, rfl, iteF' (decide_eq_false fun z => by
    have z2 := V.int.inj z
    rw [List.length_map, List.length_cons] at z2
    omega) ?_⟩
  obtain ⟨tk, hv⟩ := T.v_MOST_HORIZON
  have hh := wok.horizon
  obtain ⟨dx0, fs0, g0, z0⟩ := LnAt.no L0 (m := "read_field") (by decide +kernel) (by decide +kernel) (by decide +kernel) (by decide +kernel)
  refine ⟨_, rfl, p, _, _, .ref a0, rfl, rfl, SqL.of hpp, atI_nat (j := 0) rfl, a0, _, _, rfl, g0, z0, CW, _, _, _, rfl, T.rdW, hv, a0, _, 0, _, _, _, W.horizon, rfl, L0, rfl, rfl, by omega, by omega, by omega, by omega, fun H2 s2 L2 => ?_⟩
  have hpp2 := s2 _ _ hl0.symm hpp
  obtain ⟨dx1, fs1, g1, z1⟩ := LnAt.no L2 (m := "finish") (by decide +kernel) (by decide +kernel) (by decide +kernel) (by decide +kernel)
  refine ⟨_, rfl, p, _, _, .ref a0, rfl, rfl, SqL.of hpp2, atI_nat (j := 0) rfl, a0, _, _, rfl, g1, z1, a0, _, rfl, L2, ?_⟩
  have sl : cutV ((a0 :: ar).map V.ref) (some 1) none = ar.map V.ref := by
    unfold cutV
    rw [show HT.sIx ((a0 :: ar).map V.ref).length 0 (some 1) = min 1 ((a0 :: ar).map V.ref).length from HT.sIx_nat _ 0 1, HT.sIx_none]
    rw [List.map_cons, List.length_cons, show min 1 ((ar.map V.ref).length + 1) = 1 by omega]
    show List.take ((ar.map V.ref).length + 1 - 1) (ar.map V.ref) = ar.map V.ref
    rw [Nat.add_sub_cancel, List.take_length]
  refine ⟨_, rfl, _, rfl, _, rfl, 1, rfl, p, _, rfl, SqL.of hpp2, fun p2 hp2 => ?_⟩
  rw [sl]
  have nd2 := List.nodup_cons.mp hnd
  refine ⟨_, rfl, p2, ar, W, rfl, SqL.of upd_same, nd2.2, wok, ?_, fun th l0 l1 l2 l3 H3 s3 hT => ?_⟩
  · -- the lines stay
    have key : ∀ {as : List Addr} {ls : List (List Str)}, a0 ∉ as → Paired (fun a l => LnAt CL H1 a l 0) as ls → Paired (fun a l => LnAt CL (upd H2 p2 (.lst (ar.map V.ref))) a l 0) as ls := by
      intro as ls hn hp
      induction hp with
      | nil => exact .nil
      | cons x _ ih =>
        refine .cons ?_ (ih fun z => hn (List.mem_cons_of_mem _ z))
        exact (x.sx L0 (fun z => hn (z ▸ List.mem_cons_self)) s2).same (same_new hp2 _)
    exact key nd2.1 hpr2
  refine fun x dx hx hdx ne => ?_
  have sm : Same H3 (upd (upd H3 dx (.own x)) x (.ins CW dx [])) := fun b o e => by
    rw [upd_ne (ne_of_none e hx), upd_ne (ne_of_none e hdx)]
    exact e
  refine ⟨x, dx, W, th, l0, l1, l2, l3, rfl, upd_same, hT.same sm, fun H4 s4 hW => ⟨rfl, ?_⟩⟩
  have all : Same H H3 := fun b o e => by
    have n0 : b ≠ a0 := ne_of_none e (hfr a0 List.mem_cons_self)
    refine s3 b o (fun z => ?_) (same_new hp2 _ b o (s2 b o n0 (s1 b o e)))
    exact ne_of_none e (hfr b (List.mem_cons_of_mem _ z)) rfl
  refine q x H4 (all.free hx) (fun b o e => ?_) hW
  have e3 := all b o e
  exact s4 b o (ne_of_none e3 hx) (sm b o e3)
end
end DP
/-! worlds of cells: the law's draws, a line of each sort -/
namespace DP
open PySem PySem.Spec PyProof.Rows L2
abbrev s__law_cell : Stmt := topS 50
theorem sc__law_cell : FnScope ["script", "k"] ["script", "k"] (defScope s__law_cell) := ⟨rfl, rfl, rfl, by decide +kernel, rfl, by decide +kernel, by decide +kernel⟩
abbrev s__law_draws : Stmt := topS 51
theorem sc__law_draws : FnScope ["cell", "count", "result", "rest", "k", "mixed"] ["cell", "count"] (defScope s__law_draws) := ⟨rfl, rfl, rfl, by decide +kernel, rfl, by decide +kernel, by decide +kernel⟩
abbrev s__law_satellite : Stmt := topS 52
theorem sc__law_satellite : FnScope ["cell", "k", "n", "battery", "level", "reserve", "text", "first"] ["cell", "k"] (defScope s__law_satellite) := ⟨rfl, rfl, rfl, by decide +kernel, rfl, by decide +kernel, by decide +kernel⟩
abbrev s__law_recording : Stmt := topS 53
theorem sc__law_recording : FnScope ["cell", "k", "satellites", "n", "earliest", "text"] ["cell", "k", "satellites"] (defScope s__law_recording) := ⟨rfl, rfl, rfl, by decide +kernel, rfl, by decide +kernel, by decide +kernel⟩
abbrev s__law_pass : Stmt := topS 54
theorem sc__law_pass : FnScope ["cell", "k", "satellites", "stations", "n", "first", "text"] ["cell", "k", "satellites", "stations"] (defScope s__law_pass) := ⟨rfl, rfl, rfl, by decide +kernel, rfl, by decide +kernel, by decide +kernel⟩
theorem tl_app (x y : Str) : tl (x ++ y) = tl x ++ tl y := TL.tl_append x y
theorem len_app (a b : Str) : (a ++ b).length = a.length + b.length := by
  rw [TL.len_tl, TL.len_tl, TL.len_tl, show TL.tl (a ++ b) = TL.tl a ++ TL.tl b from TL.tl_append a b, List.length_append]
theorem lit_len (s : String) : (Str.ofString s).length = s.length := by
  rw [TL.len_tl, TL.tl_ofString, List.length_map]
  rfl
theorem log_ok {n : Int} (h0 : 0 ≤ n) (h1 : n < 10000000) : n.natAbs.log2 < 1920 := by
  by_cases c : n.natAbs = 0
  · rw [c]; decide
  · refine (Nat.log2_lt c).mpr ?_
    have : n.natAbs < 2 ^ 24 := by omega
    exact Nat.lt_of_lt_of_le this (Nat.pow_le_pow_right (by decide) (by decide))
theorem num_len {n : Int} (h0 : 0 ≤ n) (h1 : n < 10000000) : (num n).length ≤ 7 := by
  rw [TL.len_tl, show TL.tl (num n) = tl (num n) from rfl, num_nat h0]
  exact numL_len7 (by omega)
theorem tos_len {n : Int} (h0 : 0 ≤ n) (h1 : n < 10000000) : (toString n).length ≤ 7 := by
  have h := num_len h0 h1
  unfold num at h
  rw [lit_len] at h
  exact h
theorem ll0 : ("satellite s" : String).length = 11 := by decide +kernel
theorem ll1 : (" store " : String).length = 7 := by decide +kernel
theorem ll2 : (" battery " : String).length = 9 := by decide +kernel
theorem ll3 : (" level " : String).length = 7 := by decide +kernel
theorem ll4 : (" reserve " : String).length = 9 := by decide +kernel
theorem ll5 : (" charge " : String).length = 8 := by decide +kernel
theorem ll6 : (" settle " : String).length = 8 := by decide +kernel
theorem ll7 : (" light" : String).length = 6 := by decide +kernel
theorem ll8 : (" " : String).length = 1 := by decide +kernel
theorem ll9 : ("\n" : String).length = 1 := by decide +kernel
theorem ll10 : ("recording r" : String).length = 11 := by decide +kernel
theorem ll11 : (" by s" : String).length = 5 := by decide +kernel
theorem ll12 : (" from " : String).length = 6 := by decide +kernel
theorem ll13 : (" to " : String).length = 4 := by decide +kernel
theorem ll14 : (" length " : String).length = 8 := by decide +kernel
theorem ll15 : (" size " : String).length = 6 := by decide +kernel
theorem ll16 : (" energy " : String).length = 8 := by decide +kernel
theorem ll17 : (" worth " : String).length = 7 := by decide +kernel
theorem ll18 : (" rank " : String).length = 6 := by decide +kernel
theorem ll19 : (" until " : String).length = 7 := by decide +kernel
theorem ll20 : ("pass p" : String).length = 6 := by decide +kernel
theorem ll21 : (" over t" : String).length = 7 := by decide +kernel
theorem ll22 : (" room " : String).length = 6 := by decide +kernel
theorem ll23 : (" fee " : String).length = 5 := by decide +kernel
theorem ll24 : ("station t" : String).length = 9 := by decide +kernel
theorem ll25 : (" antennas " : String).length = 10 := by decide +kernel
theorem ll26 : (" turn " : String).length = 6 := by decide +kernel
theorem glue_snoc (l : List Str) (r : Str) : glue (l ++ [r]) = glue l ++ (r ++ nl) := by
  refine TL.ext_tl ?_
  show tl (glue (l ++ [r])) = tl (glue l ++ (r ++ nl))
  rw [tl_app, tl_app, tl_nl, glue_tl, glue_tl, List.map_append, List.flatten_append]
  simp
theorem lightW_app : ∀ (l : List (Int × Int)) (p : Int × Int), lightW (l ++ [p]) = lightW l ++ [num p.1, num p.2]
  | [], p => rfl
  | q :: r, p => by
    show num q.1 :: num q.2 :: lightW (r ++ [p]) = num q.1 :: num q.2 :: (lightW r ++ [num p.1, num p.2])
    rw [lightW_app r p]
theorem big {m : Nat} (h : m ≤ 16000000) : m ≤ sizeLine := Nat.le_trans h (by decide)
/-! ### names: a letter and a number -/
def nameC (c : Str) (k : Int) : Str := c ++ num k
theorem nameC_ok {c : Str} {x k : Nat} (hc : tl c = [x]) (hx : isL x = true) (hk : k < 10) : NameOk (nameC c (k : Int)) := by
  refine ⟨x, [48 + k], ?_, hx, fun y hy => ?_, by show 1 ≤ 14; decide⟩
  · unfold nameC
    rw [tl_app, hc, num_nat (by omega), show ((k : Int)).toNat = k by omega, TL.numL_lt hk]
    rfl
  · rw [List.mem_singleton.mp hy]
    have : isD (48 + k) = true := by
      unfold isD
      rw [decide_eq_true (by omega : 48 ≤ 48 + k), decide_eq_true (by omega : 48 + k ≤ 57)]
      rfl
    rw [this, Bool.or_true]
theorem nameC_inj {c : Str} {j k : Int} (hj : 0 ≤ j) (hk : 0 ≤ k) (h : nameC c j = nameC c k) : j = k := by
  have e : tl (nameC c j) = tl (nameC c k) := congrArg tl h
  unfold nameC at e
  rw [tl_app, tl_app] at e
  have e2 := List.append_cancel_left e
  exact num_inj hj hk (TL.ext_tl e2)
/-- the names of the things of a sort, as they come -/
def Nam (c : Str) (ns : List Str) : Prop := ns = (List.range ns.length).map fun k => nameC c (k : Nat)
theorem Nam.nil (c : Str) : Nam c [] := rfl
theorem Nam.snoc {c : Str} {ns : List Str} (h : Nam c ns) : Nam c (ns ++ [nameC c (ns.length : Nat)]) := by
  unfold Nam at h ⊢
  rw [List.length_append, List.length_singleton, List.range_succ, List.map_append, ← h]
  rfl
theorem Nam.at {c : Str} {ns : List Str} (h : Nam c ns) {i : Nat} (hi : i < ns.length) : ns[i]? = some (nameC c (i : Nat)) := by
  unfold Nam at h
  rw [h, List.getElem?_map, List.getElem?_range hi]
  rfl
theorem Nam.nodup {c : Str} {ns : List Str} (h : Nam c ns) : ns.Nodup := by
  unfold Nam at h
  rw [h]
  refine List.Pairwise.map _ (fun a b hab => ?_) List.nodup_range
  intro z
  have := nameC_inj (by omega) (by omega) z
  exact hab (by omega)
def cS : Str := Str.ofString "s"
def cT : Str := Str.ofString "t"
def cR : Str := Str.ofString "r"
def cP : Str := Str.ofString "p"
def wRecN (sn : Str) (r : RecD) : List Str := [Str.ofString "recording", r.name, Str.ofString "by", sn, Str.ofString "from", num r.earliest, Str.ofString "to", num r.latest,
  Str.ofString "length", num r.length, Str.ofString "size", num r.size, Str.ofString "energy", num r.energy, Str.ofString "worth", num r.worth, Str.ofString "rank", num r.rank, Str.ofString "until", num r.deadline]
def wPasN (sn tn : Str) (p : PasD) : List Str := [Str.ofString "pass", p.name, Str.ofString "by", sn, Str.ofString "over", tn, Str.ofString "from", num p.first, Str.ofString "to", num p.fin,
  Str.ofString "room", num p.room, Str.ofString "energy", num p.energy, Str.ofString "fee", num p.fee]
theorem row_tl (ws : List Str) : tl (row ws) = TL.joinL (tl sp) (ws.map tl) := TL.tl_join sp ws
theorem joinL_app {S : List Nat} : ∀ {a b : List (List Nat)}, a ≠ [] → b ≠ [] → TL.joinL S (a ++ b) = TL.joinL S a ++ (S ++ TL.joinL S b)
  | [], _, h, _ => absurd rfl h
  | [x], b, _, h => by
    cases b with
    | nil => exact absurd rfl h
    | cons y r => rfl
  | x :: y :: r, b, _, h => by
    show x ++ (S ++ TL.joinL S ((y :: r) ++ b)) = (x ++ (S ++ TL.joinL S (y :: r))) ++ (S ++ TL.joinL S b)
    rw [joinL_app (List.cons_ne_nil _ _) h]
    simp only [List.append_assoc]
theorem row_two {ws : List Str} (h : ws ≠ []) (x y : Str) : row ws ++ Str.ofString " " ++ x ++ Str.ofString " " ++ y = row (ws ++ [x, y]) := by
  refine TL.ext_tl ?_
  show tl _ = tl _
  simp only [tl_app, row_tl]
  rw [List.map_append, joinL_app (by simpa using h) (by simp), show tl (Str.ofString " ") = tl sp by decide +kernel]
  show _ = _ ++ (tl sp ++ (tl x ++ (tl sp ++ tl y)))
  simp only [List.append_assoc]
theorem row_sat0 (k st b l r c se : Int) : Str.ofString "satellite s" ++ num k ++ Str.ofString " store " ++ num st ++ Str.ofString " battery " ++ num b ++ Str.ofString " level " ++ num l ++ Str.ofString " reserve " ++ num r ++ Str.ofString " charge " ++ num c ++ Str.ofString " settle " ++ num se ++ Str.ofString " light" =
    row (wSat ⟨nameC cS k, st, b, l, r, c, se, []⟩) := by
  refine TL.ext_tl ?_
  show tl _ = tl _
  rw [row_tl]
  show tl _ = tl (Str.ofString "satellite") ++ (tl sp ++ (tl (cS ++ num k) ++ (tl sp ++ (tl (Str.ofString "store") ++ (tl sp ++ (tl (num st) ++ (tl sp ++ (tl (Str.ofString "battery") ++ (tl sp ++ (tl (num b) ++ (tl sp ++ (tl (Str.ofString "level") ++ (tl sp ++ (tl (num l) ++ (tl sp ++
    (tl (Str.ofString "reserve") ++ (tl sp ++ (tl (num r) ++ (tl sp ++ (tl (Str.ofString "charge") ++ (tl sp ++ (tl (num c) ++ (tl sp ++ (tl (Str.ofString "settle") ++ (tl sp ++ (tl (num se) ++ (tl sp ++ tl (Str.ofString "light"))))))))))))))))))))))))))))
  simp only [tl_app]
  rw [show tl (Str.ofString "satellite s") = tl (Str.ofString "satellite") ++ (tl sp ++ tl cS) by decide +kernel, show tl (Str.ofString " store ") = tl sp ++ (tl (Str.ofString "store") ++ tl sp) by decide +kernel, show tl (Str.ofString " battery ") = tl sp ++ (tl (Str.ofString "battery") ++ tl sp) by decide +kernel, show tl (Str.ofString " level ") = tl sp ++ (tl (Str.ofString "level") ++ tl sp) by decide +kernel, show tl (Str.ofString " reserve ") = tl sp ++ (tl (Str.ofString "reserve") ++ tl sp) by decide +kernel, show tl (Str.ofString " charge ") = tl sp ++ (tl (Str.ofString "charge") ++ tl sp) by decide +kernel, show tl (Str.ofString " settle ") = tl sp ++ (tl (Str.ofString "settle") ++ tl sp) by decide +kernel, show tl (Str.ofString " light") = tl sp ++ tl (Str.ofString "light") by decide +kernel]
  simp only [List.append_assoc]
theorem row_recC (k s e l n z en wo ra d : Int) : Str.ofString "recording r" ++ num k ++ Str.ofString " by s" ++ num s ++ Str.ofString " from " ++ num e ++ Str.ofString " to " ++ num l ++ Str.ofString " length " ++ num n ++ Str.ofString " size " ++ num z ++ Str.ofString " energy " ++ num en ++ Str.ofString " worth " ++ num wo ++ Str.ofString " rank " ++ num ra ++ Str.ofString " until " ++ num d ++ Str.ofString "\n" =
    row (wRecN (nameC cS s) ⟨nameC cR k, s.toNat, e, l, n, z, en, wo, ra, d⟩) ++ nl := by
  refine TL.ext_tl ?_
  show tl _ = tl (row _ ++ nl)
  rw [tl_app (row _), row_tl]
  show tl _ = (tl (Str.ofString "recording") ++ (tl sp ++ (tl (cR ++ num k) ++ (tl sp ++ (tl (Str.ofString "by") ++ (tl sp ++ (tl (cS ++ num s) ++ (tl sp ++ (tl (Str.ofString "from") ++ (tl sp ++ (tl (num e) ++ (tl sp ++ (tl (Str.ofString "to") ++ (tl sp ++ (tl (num l) ++ (tl sp ++ (tl (Str.ofString "length") ++ (tl sp ++ (tl (num n) ++ (tl sp ++
    (tl (Str.ofString "size") ++ (tl sp ++ (tl (num z) ++ (tl sp ++ (tl (Str.ofString "energy") ++ (tl sp ++ (tl (num en) ++ (tl sp ++ (tl (Str.ofString "worth") ++ (tl sp ++ (tl (num wo) ++ (tl sp ++ (tl (Str.ofString "rank") ++ (tl sp ++ (tl (num ra) ++ (tl sp ++ (tl (Str.ofString "until") ++ (tl sp ++ tl (num d))))))))))))))))))))))))))))))))))))))) ++ tl nl
  simp only [tl_app]
  rw [show tl (Str.ofString "recording r") = tl (Str.ofString "recording") ++ (tl sp ++ tl cR) by decide +kernel, show tl (Str.ofString " by s") = tl sp ++ (tl (Str.ofString "by") ++ (tl sp ++ tl cS)) by decide +kernel, show tl (Str.ofString " from ") = tl sp ++ (tl (Str.ofString "from") ++ tl sp) by decide +kernel, show tl (Str.ofString " to ") = tl sp ++ (tl (Str.ofString "to") ++ tl sp) by decide +kernel, show tl (Str.ofString " length ") = tl sp ++ (tl (Str.ofString "length") ++ tl sp) by decide +kernel, show tl (Str.ofString " size ") = tl sp ++ (tl (Str.ofString "size") ++ tl sp) by decide +kernel, show tl (Str.ofString " energy ") = tl sp ++ (tl (Str.ofString "energy") ++ tl sp) by decide +kernel, show tl (Str.ofString " worth ") = tl sp ++ (tl (Str.ofString "worth") ++ tl sp) by decide +kernel, show tl (Str.ofString " rank ") = tl sp ++ (tl (Str.ofString "rank") ++ tl sp) by decide +kernel, show tl (Str.ofString " until ") = tl sp ++ (tl (Str.ofString "until") ++ tl sp) by decide +kernel, show tl (Str.ofString "\n") = tl nl by decide +kernel]
  simp only [List.append_assoc]
theorem row_pasC (k s t f n ro en fe : Int) : Str.ofString "pass p" ++ num k ++ Str.ofString " by s" ++ num s ++ Str.ofString " over t" ++ num t ++ Str.ofString " from " ++ num f ++ Str.ofString " to " ++ num n ++ Str.ofString " room " ++ num ro ++ Str.ofString " energy " ++ num en ++ Str.ofString " fee " ++ num fe ++ Str.ofString "\n" =
    row (wPasN (nameC cS s) (nameC cT t) ⟨nameC cP k, s.toNat, t.toNat, f, n, ro, en, fe⟩) ++ nl := by
  refine TL.ext_tl ?_
  show tl _ = tl (row _ ++ nl)
  rw [tl_app (row _), row_tl]
  show tl _ = (tl (Str.ofString "pass") ++ (tl sp ++ (tl (cP ++ num k) ++ (tl sp ++ (tl (Str.ofString "by") ++ (tl sp ++ (tl (cS ++ num s) ++ (tl sp ++ (tl (Str.ofString "over") ++ (tl sp ++ (tl (cT ++ num t) ++ (tl sp ++ (tl (Str.ofString "from") ++ (tl sp ++ (tl (num f) ++ (tl sp ++ (tl (Str.ofString "to") ++ (tl sp ++ (tl (num n) ++ (tl sp ++
    (tl (Str.ofString "room") ++ (tl sp ++ (tl (num ro) ++ (tl sp ++ (tl (Str.ofString "energy") ++ (tl sp ++ (tl (num en) ++ (tl sp ++ (tl (Str.ofString "fee") ++ (tl sp ++ tl (num fe))))))))))))))))))))))))))))))) ++ tl nl
  simp only [tl_app]
  rw [show tl (Str.ofString "pass p") = tl (Str.ofString "pass") ++ (tl sp ++ tl cP) by decide +kernel, show tl (Str.ofString " by s") = tl sp ++ (tl (Str.ofString "by") ++ (tl sp ++ tl cS)) by decide +kernel, show tl (Str.ofString " over t") = tl sp ++ (tl (Str.ofString "over") ++ (tl sp ++ tl cT)) by decide +kernel, show tl (Str.ofString " from ") = tl sp ++ (tl (Str.ofString "from") ++ tl sp) by decide +kernel, show tl (Str.ofString " to ") = tl sp ++ (tl (Str.ofString "to") ++ tl sp) by decide +kernel, show tl (Str.ofString " room ") = tl sp ++ (tl (Str.ofString "room") ++ tl sp) by decide +kernel, show tl (Str.ofString " energy ") = tl sp ++ (tl (Str.ofString "energy") ++ tl sp) by decide +kernel, show tl (Str.ofString " fee ") = tl sp ++ (tl (Str.ofString "fee") ++ tl sp) by decide +kernel, show tl (Str.ofString "\n") = tl nl by decide +kernel]
  simp only [List.append_assoc]
theorem glue_staC (rows : List (List Str)) (k a t : Int) : glue (rows.map row) ++ Str.ofString "station t" ++ num k ++ Str.ofString " antennas " ++ num a ++ Str.ofString " turn " ++ num t ++ Str.ofString "\n" = glue ((rows ++ [wSta ⟨nameC cT k, a, t⟩]).map row) := by
  rw [List.map_append, show [wSta ⟨nameC cT k, a, t⟩].map row = [row (wSta ⟨nameC cT k, a, t⟩)] from rfl, glue_snoc]
  refine TL.ext_tl ?_
  show tl _ = tl (_ ++ (row _ ++ nl))
  rw [tl_app (glue _), tl_app (row _), row_tl]
  show tl _ = tl (glue (rows.map row)) ++ ((tl (Str.ofString "station") ++ (tl sp ++ (tl (cT ++ num k) ++ (tl sp ++ (tl (Str.ofString "antennas") ++ (tl sp ++ (tl (num a) ++ (tl sp ++ (tl (Str.ofString "turn") ++ (tl sp ++ tl (num t))))))))))) ++ tl nl)
  simp only [tl_app]
  rw [show tl (Str.ofString "station t") = tl (Str.ofString "station") ++ (tl sp ++ tl cT) by decide +kernel, show tl (Str.ofString " antennas ") = tl sp ++ (tl (Str.ofString "antennas") ++ tl sp) by decide +kernel, show tl (Str.ofString " turn ") = tl sp ++ (tl (Str.ofString "turn") ++ tl sp) by decide +kernel, show tl (Str.ofString "\n") = tl nl by decide +kernel]
  simp only [List.append_assoc]
/-- a line behind the others -/
theorem glue_add (rows : List (List Str)) (ws : List Str) : glue (rows.map row) ++ (row ws ++ nl) = glue ((rows ++ [ws]).map row) := by
  rw [List.map_append, show [ws].map row = [row ws] from rfl, glue_snoc]
end DP
namespace DP
open PySem PySem.Spec PyProof.Rows L2
section
variable {P : Program} {w : World} {K : PySem.W.Frag} {mg : Str → Option Value} {base : Heap}
/-- some int -/
def spCell (K : PySem.W.Frag) : Sp := fun vs H Q _ => ∃ (a : Addr) (ns : List Int) (k : Int), vs = [.ref a, .int k] ∧ SqL K H a (ns.map V.int) ∧ 0 ≤ k ∧ ∀ v : Int, Q (.int v) H
theorem d_cell (B : Bt mg) (A : At K mg "_law_cell" s__law_cell ["script", "k"]) : DefOk P w K mg base CX0 1 "_law_cell" ["script", "k"] (DP.spCell K) := by
  refine A.ok sc__law_cell (fun vs H Q E h => ?_) (fun f cdv A outer s H vs Q E hr h => ?_)
  · obtain ⟨a, ns, k, rfl, _⟩ := h
    rfl
  obtain ⟨a, ns, k, rfl, hS, h0, q⟩ := h
  refine ⟨_, pss_cons (ps_if (pt_cmpR op_lt (pv 1) (pe_callB (call_len_seq) (by rfl) B.len (by decide +kernel) (pa_cons (pv 0) pa_nil)) (nomark _))
      (pss_one (ps_ret (pe_ix ix_list (pv 0) (pv 1) (fun _ _ => rfl))))
      (pss_nil))
  (pss_one (ps_ret pe_int))
    , ?_⟩
  refine ⟨_, rfl, _, rfl, a, _, rfl, .inl hS, _, _, rfl, rfl, _, rfl, ?_⟩
  refine ite2 (fun c => ?_) (fun c => ?_)
  · have c' : k < (((ns.map V.int).length : Nat) : Int) := of_decide_eq_true c
    rw [List.length_map] at c'
    have hk : k.toNat < ns.length := by omega
    have ek : k = ((k.toNat : Nat) : Int) := by omega
    have g : (ns.map V.int)[k.toNat]? = some (.int ns[k.toNat]) := by rw [List.getElem?_map, List.getElem?_eq_getElem hk] <;> rfl
    have g2 : atI (ns.map V.int) k = some (.int ns[k.toNat]) := by
      have := atI_nat g
      rw [← ek] at this
      exact this
    exact ⟨_, rfl, _, rfl, a, _, _, _, rfl, rfl, hS, g2, q _⟩
  · exact q 0
/-- a new list of so many ints -/
def spDrawsC : Sp := fun vs H Q _ => ∃ (c : Int) (n : Nat), vs = [.int c, .int (n : Int)] ∧ n ≤ 60 ∧ ∀ (p : Addr) (ds : List Int) (H' : Hp), Same H H' → H p = none → ds.length = n → H' p = some (.lst (ds.map V.int)) → Q (.ref p) H'
theorem d_draws (B : Bt mg) (A : At K mg "_law_draws" s__law_draws ["cell", "count"]) : DefOk P w K mg base CX0 1 "_law_draws" ["cell", "count"] spDrawsC := by
  refine A.ok sc__law_draws (fun vs H Q E h => ?_) (fun f cdv A outer s H vs Q E hr h => ?_)
  · obtain ⟨c, n, rfl, _⟩ := h
    rfl
  obtain ⟨c, n, rfl, hn, q⟩ := h
  refine ⟨_, pss_cons (ps_set (i := 2) sc__law_draws.nd rfl (Or.inl rfl) (pe_lst pa_nil))
  (pss_cons (ps_set (i := 3) sc__law_draws.nd rfl (Or.inl rfl) (pe_callTy (call_int1) (by rfl) B.int (by decide +kernel) (pa_cons (pv 0) pa_nil)))
  (pss_cons (ps_for PassesOwn.never rfl (pi_range1 (by rfl) B.range (pa_cons (pv 1) pa_nil)) (pg_name (i := 4) sc__law_draws.nd rfl (Or.inl rfl))
      (pss_cons (ps_set (i := 5) sc__law_draws.nd rfl (Or.inl rfl) (pe_op op_mod (pe_callTy (call_int1) (by rfl) B.int (by decide +kernel) (pa_cons (pe_op op_add (pe_op op_add (pe_op op_mul (pv 0) pe_int) (pe_op op_mul (pv 4) pe_int)) pe_int) pa_nil)) pe_int))
      (pss_one (ps_if (pt_cmpR op_ge (pv 0) (pe_op op_pow pe_int pe_int) (nomark _))
          (pss_cons (ps_expr (pe_bm PySem.F.plainAttrs_list PySem.F.slot_list_append PySem.F.type_list_append mt_append (pv 2) (pa_cons (pe_op op_mod (pv 3) pe_int) pa_nil)))
          (pss_one (ps_set (i := 3) sc__law_draws.nd rfl (Or.inl rfl) (pe_op op_fdiv (pv 3) pe_int))))
          (pss_one (ps_expr (pe_bm PySem.F.plainAttrs_list PySem.F.slot_list_append PySem.F.type_list_append mt_append (pv 2) (pa_cons (pe_op op_fdiv (pe_op op_mod (pe_callTy (call_int1) (by rfl) B.int (by decide +kernel) (pa_cons (pe_op op_add (pe_op op_mul (pv 5) (pv 5)) (pe_op op_mul (pv 5) pe_int)) pa_nil)) pe_int) pe_int) pa_nil))))))))
  (pss_one (ps_ret (pv 2)))))
    , ?_⟩
  refine ⟨Nat.zero_le _, fun p hp => ?_⟩
  refine ⟨_, rfl, .inl ⟨_, rfl, ?_⟩⟩
  refine ⟨_, rfl, (n : Int), rfl, by omega, by omega, for_range (n := (n : Int).toNat) (fun i σ H' => ∃ (rest : Int) (ds : List Int) (y4 y5 : Option V), σ = [some (.int c), some (.int (n : Int)), some (.ref p), some (.int rest), y4, y5] ∧ ds.length = i ∧ H' p = some (.lst (ds.map V.int)) ∧ Same H H')
    ⟨c, [], none, none, rfl, rfl, upd_same, same_new hp _⟩ (fun i σ H1 hi hI => ?_) (fun σ H1 hI => ?_)⟩
  · obtain ⟨rest, ds, y4, y5, rfl, hl, hpp, hs⟩ := hI
    have room : (ds.map V.int).length < sizeLine := by
      rw [List.length_map, hl]
      exact small1000 (by omega)
    have put : ∀ v : Int, (upd H1 p (.lst (ds.map V.int ++ [.int v]))) p = some (.lst ((ds ++ [v]).map V.int)) := fun v => by
      rw [upd_same, List.map_append] <;> rfl
    have grow : ∀ v : Int, (ds ++ [v]).length = i + 1 := fun v => by
      rw [List.length_append, hl, List.length_singleton]
    refine ⟨_, rfl, _, _, rfl, rfl, .inr ⟨by decide, by decide⟩, _, rfl, _, _, rfl, rfl, .inr ⟨by decide, by decide⟩, _, _, rfl, rfl, _, _, rfl, rfl, .inl ⟨_, rfl, _, _, rfl, rfl, (by show (0 : Int) < _; decide), ?_⟩⟩
    generalize hm : ((c * 48271 + (0 + (i : Nat)) * 69621 + 1) % 2147483647 : Int) = m1
    have b1 : 0 ≤ m1 := by rw [← hm]; exact Int.emod_nonneg _ (by decide)
    have b2 : m1 < 2147483647 := by rw [← hm]; exact Int.emod_lt_of_pos _ (by decide)
    refine ⟨_, rfl, _, _, rfl, rfl, ⟨by decide, by decide, by decide⟩, _, _, rfl, rfl, _, rfl, ite2 (fun c1 => ?_) (fun c1 => ?_)⟩
    · refine ⟨_, rfl, .inl ⟨rfl, _, SqL.of hpp⟩, _, rfl, _, _, rfl, rfl, (by show (0 : Int) < _; decide), _, _, _, rfl, rfl, hpp, room, ?_⟩
      refine ⟨_, rfl, _, _, rfl, rfl, ⟨by decide, by decide⟩, ?_⟩
      exact ⟨_, _, _, _, rfl, grow _, put _, same_at hp hs _⟩
    · refine ⟨_, rfl, .inl ⟨rfl, _, SqL.of hpp⟩, _, rfl, _, rfl, _, _, rfl, rfl, .inl ⟨by omega, by omega⟩, _, rfl, _, _, rfl, rfl, .inr ⟨by decide, by decide⟩, _, _, rfl, rfl, .inl ⟨_, rfl, _, _, rfl, rfl, (by show (0 : Int) < _; decide), _, _, rfl, rfl, ⟨by decide, by decide⟩, _, _, _, rfl, rfl, hpp, room, ?_⟩⟩
      exact ⟨_, _, _, _, rfl, grow _, put _, same_at hp hs _⟩
  · obtain ⟨rest, ds, y4, y5, rfl, hl, hpp, hs⟩ := hI
    exact ⟨_, rfl, q p ds H1 hs hp (by omega) hpp⟩
end
end DP
/-! a satellite, a recording, a pass of a cell -/
namespace DP
open PySem PySem.Spec PyProof.Rows L2
theorem ten {ds : List Int} (h : ds.length = 10) : ∃ d0 d1 d2 d3 d4 d5 d6 d7 d8 d9, ds = [d0, d1, d2, d3, d4, d5, d6, d7, d8, d9] := match ds, h with | [_, _, _, _, _, _, _, _, _, _], _ => ⟨_, _, _, _, _, _, _, _, _, _, rfl⟩
theorem nine {ds : List Int} (h : ds.length = 9) : ∃ d0 d1 d2 d3 d4 d5 d6 d7 d8, ds = [d0, d1, d2, d3, d4, d5, d6, d7, d8] := match ds, h with | [_, _, _, _, _, _, _, _, _], _ => ⟨_, _, _, _, _, _, _, _, _, rfl⟩
theorem seven {ds : List Int} (h : ds.length = 7) : ∃ d0 d1 d2 d3 d4 d5 d6, ds = [d0, d1, d2, d3, d4, d5, d6] := match ds, h with | [_, _, _, _, _, _, _], _ => ⟨_, _, _, _, _, _, _, rfl⟩
theorem two_ {ds : List Int} (h : ds.length = 2) : ∃ d0 d1, ds = [d0, d1] := match ds, h with | [_, _], _ => ⟨_, _, rfl⟩
theorem satL0 (k st b l r c se : Int) : Str.ofString "satellite s" ++ num k ++ Str.ofString " store " ++ num st ++ Str.ofString " battery " ++ num b ++ Str.ofString " level " ++ num l ++ Str.ofString " reserve " ++ num r ++ Str.ofString " charge " ++ num c ++ Str.ofString " settle " ++ num se ++ Str.ofString " light" ++ Str.ofString "\n" =
    row (wSat ⟨nameC cS k, st, b, l, r, c, se, []⟩) ++ nl := by
  rw [row_sat0]
  rfl
theorem satL1 (k st b l r c se x y : Int) : Str.ofString "satellite s" ++ num k ++ Str.ofString " store " ++ num st ++ Str.ofString " battery " ++ num b ++ Str.ofString " level " ++ num l ++ Str.ofString " reserve " ++ num r ++ Str.ofString " charge " ++ num c ++ Str.ofString " settle " ++ num se ++ Str.ofString " light" ++ Str.ofString " " ++ num x ++ Str.ofString " " ++ num y ++ Str.ofString "\n" =
    row (wSat ⟨nameC cS k, st, b, l, r, c, se, [(x, y)]⟩) ++ nl := by
  rw [row_sat0, row_two (by exact List.cons_ne_nil _ _)]
  rfl
theorem satL2 (k st b l r c se x y x2 y2 : Int) : Str.ofString "satellite s" ++ num k ++ Str.ofString " store " ++ num st ++ Str.ofString " battery " ++ num b ++ Str.ofString " level " ++ num l ++ Str.ofString " reserve " ++ num r ++ Str.ofString " charge " ++ num c ++ Str.ofString " settle " ++ num se ++ Str.ofString " light" ++ Str.ofString " " ++ num x ++ Str.ofString " " ++ num y ++ Str.ofString " " ++ num x2 ++ Str.ofString " " ++ num y2 ++ Str.ofString "\n" =
    row (wSat ⟨nameC cS k, st, b, l, r, c, se, [(x, y), (x2, y2)]⟩) ++ nl := by
  rw [row_sat0, row_two (by exact List.cons_ne_nil _ _), row_two (by exact List.cons_ne_nil _ _)]
  rfl
section
variable {P : Program} {w : World} {K : PySem.W.Frag} {mg : Str → Option Value} {base : Heap}
def spSatC : Sp := fun vs H Q _ => ∃ (c : Int) (k : Nat), vs = [.int c, .int (k : Int)] ∧ k < 10 ∧ ∀ (z : SatD) (H' : Hp), Same H H' → SatOk 40 z → z.name = nameC cS (k : Int) → Q (.str (row (wSat z) ++ nl)) H'
set_option maxHeartbeats 16000000 in
theorem d_satC (B : Bt mg) (D_law_draws : DefOk P w K mg base CX0 1 "_law_draws" ["cell", "count"] spDrawsC) (A : At K mg "_law_satellite" s__law_satellite ["cell", "k"]) : DefOk P w K mg base CX0 2 "_law_satellite" ["cell", "k"] spSatC := by
  refine A.ok sc__law_satellite (fun vs H Q E h => ?_) (fun f cdv A outer s H vs Q E hr h => ?_)
  · obtain ⟨c, k, rfl, _⟩ := h
    rfl
  obtain ⟨c, k, rfl, hk, q⟩ := h
  refine ⟨_, pss_cons (ps_set (i := 2) sc__law_satellite.nd rfl (Or.inl rfl) (pe_f D_law_draws (hr.mono (by omega)) pass0 (pa_cons (pv 0) (pa_cons pe_int pa_nil))))
  (pss_cons (ps_set (i := 3) sc__law_satellite.nd rfl (Or.inl rfl) (pe_op op_add pe_int (pe_op op_mod (pe_ix ix_list (pv 2) pe_int (fun _ _ => rfl)) pe_int)))
  (pss_cons (ps_set (i := 4) sc__law_satellite.nd rfl (Or.inl rfl) (pe_op op_sub (pv 3) (pe_op op_mod (pe_ix ix_list (pv 2) pe_int (fun _ _ => rfl)) pe_int)))
  (pss_cons (ps_set (i := 5) sc__law_satellite.nd rfl (Or.inl rfl) (pe_op op_sub (pv 4) (pe_callB (call_min2 rfl) (by rfl) B.min (by decide +kernel) (pa_cons (pv 4) (pa_cons (pe_op op_mod (pe_ix ix_list (pv 2) pe_int (fun _ _ => rfl)) pe_int) pa_nil)))))
  (pss_cons (ps_set (i := 6) sc__law_satellite.nd rfl (Or.inl rfl) (pe_op op_add_str (pe_op op_add_str (pe_op op_add_str (pe_op op_add_str (pe_op op_add_str (pe_op op_add_str (pe_op op_add_str pe_str (pe_callTy (call_str_int) (by rfl) B.str (by decide +kernel) (pa_cons (pv 1) pa_nil))) pe_str) (pe_callTy (call_str_int) (by rfl) B.str (by decide +kernel) (pa_cons (pe_op op_mod (pe_ix ix_list (pv 2) pe_int (fun _ _ => rfl)) pe_int) pa_nil))) pe_str) (pe_callTy (call_str_int) (by rfl) B.str (by decide +kernel) (pa_cons (pv 3) pa_nil))) pe_str) (pe_callTy (call_str_int) (by rfl) B.str (by decide +kernel) (pa_cons (pv 4) pa_nil))))
  (pss_cons (ps_set (i := 6) sc__law_satellite.nd rfl (Or.inl rfl) (pe_op op_add_str (pe_op op_add_str (pe_op op_add_str (pe_op op_add_str (pe_op op_add_str (pe_op op_add_str (pe_op op_add_str (pv 6) pe_str) (pe_callTy (call_str_int) (by rfl) B.str (by decide +kernel) (pa_cons (pv 5) pa_nil))) pe_str) (pe_callTy (call_str_int) (by rfl) B.str (by decide +kernel) (pa_cons (pe_op op_mod (pe_ix ix_list (pv 2) pe_int (fun _ _ => rfl)) pe_int) pa_nil))) pe_str) (pe_callTy (call_str_int) (by rfl) B.str (by decide +kernel) (pa_cons (pe_op op_mod (pe_ix ix_list (pv 2) pe_int (fun _ _ => rfl)) pe_int) pa_nil))) pe_str))
  (pss_cons (ps_set (i := 7) sc__law_satellite.nd rfl (Or.inl rfl) (pe_op op_mod (pe_ix ix_list (pv 2) pe_int (fun _ _ => rfl)) pe_int))
  (pss_cons (ps_if (pt_cmpR op_gt (pe_op op_mod (pe_ix ix_list (pv 2) pe_int (fun _ _ => rfl)) pe_int) pe_int (nomark _))
      (pss_one (ps_set (i := 6) sc__law_satellite.nd rfl (Or.inl rfl) (pe_op op_add_str (pe_op op_add_str (pe_op op_add_str (pe_op op_add_str (pv 6) pe_str) (pe_callTy (call_str_int) (by rfl) B.str (by decide +kernel) (pa_cons (pv 7) pa_nil))) pe_str) (pe_callTy (call_str_int) (by rfl) B.str (by decide +kernel) (pa_cons (pe_op op_add (pe_op op_add (pv 7) pe_int) (pe_op op_mod (pe_ix ix_list (pv 2) pe_int (fun _ _ => rfl)) pe_int)) pa_nil)))))
      (pss_nil))
  (pss_cons (ps_if (pt_cmpR op_gt (pe_op op_mod (pe_ix ix_list (pv 2) pe_int (fun _ _ => rfl)) pe_int) pe_int (nomark _))
      (pss_one (ps_set (i := 6) sc__law_satellite.nd rfl (Or.inl rfl) (pe_op op_add_str (pe_op op_add_str (pe_op op_add_str (pe_op op_add_str (pv 6) pe_str) (pe_callTy (call_str_int) (by rfl) B.str (by decide +kernel) (pa_cons (pe_op op_add (pv 7) pe_int) pa_nil))) pe_str) (pe_callTy (call_str_int) (by rfl) B.str (by decide +kernel) (pa_cons (pe_op op_add (pe_op op_add (pv 7) pe_int) (pe_op op_mod (pe_ix ix_list (pv 2) pe_int (fun _ _ => rfl)) pe_int)) pa_nil)))))
      (pss_nil))
  (pss_one (ps_ret (pe_op op_add_str (pv 6) pe_str)))))))))))
    , ?_⟩
  refine ⟨_, rfl, c, 10, rfl, by decide, fun p ds H1 s1 np hl hp => ?_⟩
  obtain ⟨d0, d1, d2, d3, d4, d5, d6, d7, d8, d9, rfl⟩ := ten hl
  have e1 := tos_len (n := (k : Int)) (by omega) (by omega)
  have e2 := tos_len (n := d0 % 18) (by omega) (by omega)
  have e3 := tos_len (n := 8 + d1 % 20) (by omega) (by omega)
  have e4 := tos_len (n := 8 + d1 % 20 - d2 % 6) (by omega) (by omega)
  have hm : 0 ≤ (if d3 % 14 < 8 + d1 % 20 - d2 % 6 then d3 % 14 else 8 + d1 % 20 - d2 % 6) ∧ (if d3 % 14 < 8 + d1 % 20 - d2 % 6 then d3 % 14 else 8 + d1 % 20 - d2 % 6) ≤ 8 + d1 % 20 - d2 % 6 := by split <;> omega
  have e5 := tos_len (n := 8 + d1 % 20 - d2 % 6 - (if d3 % 14 < 8 + d1 % 20 - d2 % 6 then d3 % 14 else 8 + d1 % 20 - d2 % 6)) (by omega) (by omega)
  have e6 := tos_len (n := d4 % 4) (by omega) (by omega)
  have e7 := tos_len (n := d5 % 3) (by omega) (by omega)
  have e8 := tos_len (n := d6 % 12) (by omega) (by omega)
  have e9 := tos_len (n := d6 % 12 + 1 + d7 % 15) (by omega) (by omega)
  have e10 := tos_len (n := d6 % 12 + 18) (by omega) (by omega)
  have e11 := tos_len (n := d6 % 12 + 19 + d9 % 10) (by omega) (by omega)
  have nm := nameC_ok (c := cS) (x := 115) (by decide +kernel) (by decide) hk
  refine ⟨_, rfl, _, _, _, _, rfl, rfl, SqL.of hp, rfl, _, _, rfl, rfl, (by show (0 : Int) < _; decide), _, _, rfl, rfl, ?_⟩
  refine ⟨_, rfl, _, rfl, _, _, _, _, rfl, rfl, SqL.of hp, rfl, _, _, rfl, rfl, (by show (0 : Int) < _; decide), _, _, rfl, rfl, ?_⟩
  refine ⟨_, rfl, _, rfl, _, rfl, _, _, _, _, rfl, rfl, SqL.of hp, rfl, _, _, rfl, rfl, (by show (0 : Int) < _; decide), _, _, rfl, _, _, rfl, rfl, ?_⟩
  refine ⟨_, rfl, _, rfl, log_ok (by omega) (by omega), _, _, rfl, rfl, small (by simp only [len_app, lit_len, ll0, ll1, ll2, ll3, ll4, ll5, ll6, ll7, ll8, ll9, ll10, ll11, ll12, ll13, ll14, ll15, ll16, ll17, ll18, ll19, ll20, ll21, ll22, ll23, ll24, ll25, ll26]; omega), _, _, rfl, rfl, small (by simp only [len_app, lit_len, ll0, ll1, ll2, ll3, ll4, ll5, ll6, ll7, ll8, ll9, ll10, ll11, ll12, ll13, ll14, ll15, ll16, ll17, ll18, ll19, ll20, ll21, ll22, ll23, ll24, ll25, ll26]; omega), _, rfl, _, _, _, _, rfl, rfl, SqL.of hp, rfl, _, _, rfl, rfl, (by show (0 : Int) < _; decide), _, rfl, log_ok (by omega) (by omega), _, _, rfl, rfl, small (by simp only [len_app, lit_len, ll0, ll1, ll2, ll3, ll4, ll5, ll6, ll7, ll8, ll9, ll10, ll11, ll12, ll13, ll14, ll15, ll16, ll17, ll18, ll19, ll20, ll21, ll22, ll23, ll24, ll25, ll26]; omega), _, _, rfl, rfl, small (by simp only [len_app, lit_len, ll0, ll1, ll2, ll3, ll4, ll5, ll6, ll7, ll8, ll9, ll10, ll11, ll12, ll13, ll14, ll15, ll16, ll17, ll18, ll19, ll20, ll21, ll22, ll23, ll24, ll25, ll26]; omega), _, rfl, _, rfl, log_ok (by omega) (by omega), _, _, rfl, rfl, small (by simp only [len_app, lit_len, ll0, ll1, ll2, ll3, ll4, ll5, ll6, ll7, ll8, ll9, ll10, ll11, ll12, ll13, ll14, ll15, ll16, ll17, ll18, ll19, ll20, ll21, ll22, ll23, ll24, ll25, ll26]; omega), _, _, rfl, rfl, small (by simp only [len_app, lit_len, ll0, ll1, ll2, ll3, ll4, ll5, ll6, ll7, ll8, ll9, ll10, ll11, ll12, ll13, ll14, ll15, ll16, ll17, ll18, ll19, ll20, ll21, ll22, ll23, ll24, ll25, ll26]; omega), _, rfl, _, rfl, log_ok (by omega) (by omega), _, _, rfl, rfl, small (by simp only [len_app, lit_len, ll0, ll1, ll2, ll3, ll4, ll5, ll6, ll7, ll8, ll9, ll10, ll11, ll12, ll13, ll14, ll15, ll16, ll17, ll18, ll19, ll20, ll21, ll22, ll23, ll24, ll25, ll26]; omega), ?_⟩
  refine ⟨_, rfl, _, _, rfl, rfl, small (by simp only [len_app, lit_len, ll0, ll1, ll2, ll3, ll4, ll5, ll6, ll7, ll8, ll9, ll10, ll11, ll12, ll13, ll14, ll15, ll16, ll17, ll18, ll19, ll20, ll21, ll22, ll23, ll24, ll25, ll26]; omega), _, rfl, _, rfl, log_ok (by omega) (by omega), _, _, rfl, rfl, small (by simp only [len_app, lit_len, ll0, ll1, ll2, ll3, ll4, ll5, ll6, ll7, ll8, ll9, ll10, ll11, ll12, ll13, ll14, ll15, ll16, ll17, ll18, ll19, ll20, ll21, ll22, ll23, ll24, ll25, ll26]; omega), _, _, rfl, rfl, small (by simp only [len_app, lit_len, ll0, ll1, ll2, ll3, ll4, ll5, ll6, ll7, ll8, ll9, ll10, ll11, ll12, ll13, ll14, ll15, ll16, ll17, ll18, ll19, ll20, ll21, ll22, ll23, ll24, ll25, ll26]; omega), _, rfl, _, _, _, _, rfl, rfl, SqL.of hp, rfl, _, _, rfl, rfl, (by show (0 : Int) < _; decide), _, rfl, log_ok (by omega) (by omega), _, _, rfl, rfl, small (by simp only [len_app, lit_len, ll0, ll1, ll2, ll3, ll4, ll5, ll6, ll7, ll8, ll9, ll10, ll11, ll12, ll13, ll14, ll15, ll16, ll17, ll18, ll19, ll20, ll21, ll22, ll23, ll24, ll25, ll26]; omega), _, _, rfl, rfl, small (by simp only [len_app, lit_len, ll0, ll1, ll2, ll3, ll4, ll5, ll6, ll7, ll8, ll9, ll10, ll11, ll12, ll13, ll14, ll15, ll16, ll17, ll18, ll19, ll20, ll21, ll22, ll23, ll24, ll25, ll26]; omega), _, rfl, _, _, _, _, rfl, rfl, SqL.of hp, rfl, _, _, rfl, rfl, (by show (0 : Int) < _; decide), _, rfl, log_ok (by omega) (by omega), _, _, rfl, rfl, small (by simp only [len_app, lit_len, ll0, ll1, ll2, ll3, ll4, ll5, ll6, ll7, ll8, ll9, ll10, ll11, ll12, ll13, ll14, ll15, ll16, ll17, ll18, ll19, ll20, ll21, ll22, ll23, ll24, ll25, ll26]; omega), _, _, rfl, rfl, small (by simp only [len_app, lit_len, ll0, ll1, ll2, ll3, ll4, ll5, ll6, ll7, ll8, ll9, ll10, ll11, ll12, ll13, ll14, ll15, ll16, ll17, ll18, ll19, ll20, ll21, ll22, ll23, ll24, ll25, ll26]; omega), ?_⟩
  refine ⟨_, rfl, _, _, _, _, rfl, rfl, SqL.of hp, rfl, _, _, rfl, rfl, (by show (0 : Int) < _; decide), ?_⟩
  have mk : ∀ l, LightOk 0 40 l → SatOk 40 ⟨nameC cS (k : Int), d0 % 18, 8 + d1 % 20, 8 + d1 % 20 - d2 % 6, 8 + d1 % 20 - d2 % 6 - (if d3 % 14 < 8 + d1 % 20 - d2 % 6 then d3 % 14 else 8 + d1 % 20 - d2 % 6), d4 % 4, d5 % 3, l⟩ := fun l hl =>
    ⟨nm, by constructor <;> (dsimp only; omega), by constructor <;> (dsimp only; omega), by constructor <;> (dsimp only; omega), by constructor <;> (dsimp only; omega), by constructor <;> (dsimp only; omega), by constructor <;> (dsimp only; omega), hl⟩
  refine ⟨_, rfl, _, _, _, _, rfl, rfl, SqL.of hp, rfl, _, _, rfl, rfl, (by show (0 : Int) < _; decide), _, _, rfl, rfl, _, rfl, ite2 (fun c1 => ?_) (fun c1 => ?_)⟩
  · have c1' : 0 < d8 % 3 := of_decide_eq_true c1
    refine ⟨_, rfl, _, _, rfl, rfl, small (by simp only [len_app, lit_len, ll0, ll1, ll2, ll3, ll4, ll5, ll6, ll7, ll8, ll9, ll10, ll11, ll12, ll13, ll14, ll15, ll16, ll17, ll18, ll19, ll20, ll21, ll22, ll23, ll24, ll25, ll26]; omega), _, rfl, _, rfl, log_ok (by omega) (by omega), _, _, rfl, rfl, small (by simp only [len_app, lit_len, ll0, ll1, ll2, ll3, ll4, ll5, ll6, ll7, ll8, ll9, ll10, ll11, ll12, ll13, ll14, ll15, ll16, ll17, ll18, ll19, ll20, ll21, ll22, ll23, ll24, ll25, ll26]; omega), _, _, rfl, rfl, small (by simp only [len_app, lit_len, ll0, ll1, ll2, ll3, ll4, ll5, ll6, ll7, ll8, ll9, ll10, ll11, ll12, ll13, ll14, ll15, ll16, ll17, ll18, ll19, ll20, ll21, ll22, ll23, ll24, ll25, ll26]; omega), _, rfl, _, _, rfl, rfl, _, rfl, _, _, _, _, rfl, rfl, SqL.of hp, rfl, _, _, rfl, rfl, (by show (0 : Int) < _; decide), _, _, rfl, rfl, _, rfl, log_ok (by omega) (by omega), _, _, rfl, rfl, small (by simp only [len_app, lit_len, ll0, ll1, ll2, ll3, ll4, ll5, ll6, ll7, ll8, ll9, ll10, ll11, ll12, ll13, ll14, ll15, ll16, ll17, ll18, ll19, ll20, ll21, ll22, ll23, ll24, ll25, ll26]; omega), ?_⟩
    refine ⟨_, rfl, _, _, _, _, rfl, rfl, SqL.of hp, rfl, _, _, rfl, rfl, (by show (0 : Int) < _; decide), _, _, rfl, rfl, _, rfl, ite2 (fun c2 => ?_) (fun c2 => ?_)⟩
    · refine ⟨_, rfl, _, _, rfl, rfl, small (by simp only [len_app, lit_len, ll0, ll1, ll2, ll3, ll4, ll5, ll6, ll7, ll8, ll9, ll10, ll11, ll12, ll13, ll14, ll15, ll16, ll17, ll18, ll19, ll20, ll21, ll22, ll23, ll24, ll25, ll26]; omega), _, rfl, _, _, rfl, rfl, _, rfl, log_ok (by omega) (by omega), _, _, rfl, rfl, small (by simp only [len_app, lit_len, ll0, ll1, ll2, ll3, ll4, ll5, ll6, ll7, ll8, ll9, ll10, ll11, ll12, ll13, ll14, ll15, ll16, ll17, ll18, ll19, ll20, ll21, ll22, ll23, ll24, ll25, ll26]; omega), _, _, rfl, rfl, small (by simp only [len_app, lit_len, ll0, ll1, ll2, ll3, ll4, ll5, ll6, ll7, ll8, ll9, ll10, ll11, ll12, ll13, ll14, ll15, ll16, ll17, ll18, ll19, ll20, ll21, ll22, ll23, ll24, ll25, ll26]; omega), _, rfl, _, _, rfl, rfl, _, rfl, _, _, _, _, rfl, rfl, SqL.of hp, rfl, _, _, rfl, rfl, (by show (0 : Int) < _; decide), _, _, rfl, rfl, _, rfl, log_ok (by omega) (by omega), _, _, rfl, rfl, small (by simp only [len_app, lit_len, ll0, ll1, ll2, ll3, ll4, ll5, ll6, ll7, ll8, ll9, ll10, ll11, ll12, ll13, ll14, ll15, ll16, ll17, ll18, ll19, ll20, ll21, ll22, ll23, ll24, ll25, ll26]; omega), ?_⟩
      refine ⟨_, rfl, _, _, rfl, rfl, small (by simp only [len_app, lit_len, ll0, ll1, ll2, ll3, ll4, ll5, ll6, ll7, ll8, ll9, ll10, ll11, ll12, ll13, ll14, ll15, ll16, ll17, ll18, ll19, ll20, ll21, ll22, ll23, ll24, ll25, ll26]; omega), ?_⟩
      refine (congrArg (fun u => Q (.str u) H1) (satL2 _ _ _ _ _ _ _ _ _ _ _)).mpr (q _ H1 s1 (mk _ ⟨?_, ?_, ?_, ?_, ?_, ?_, True.intro⟩) rfl)
      all_goals (dsimp only; omega)
    · refine ⟨_, rfl, _, _, rfl, rfl, small (by simp only [len_app, lit_len, ll0, ll1, ll2, ll3, ll4, ll5, ll6, ll7, ll8, ll9, ll10, ll11, ll12, ll13, ll14, ll15, ll16, ll17, ll18, ll19, ll20, ll21, ll22, ll23, ll24, ll25, ll26]; omega), ?_⟩
      refine (congrArg (fun u => Q (.str u) H1) (satL1 _ _ _ _ _ _ _ _ _)).mpr (q _ H1 s1 (mk _ ⟨?_, ?_, ?_, True.intro⟩) rfl)
      all_goals (dsimp only; omega)
  · have c1' : ¬ 0 < d8 % 3 := fun z => c1 (decide_eq_true z)
    refine ⟨_, rfl, _, _, _, _, rfl, rfl, SqL.of hp, rfl, _, _, rfl, rfl, (by show (0 : Int) < _; decide), _, _, rfl, rfl, _, rfl, iteF' (decide_eq_false (by show ¬ ((1 : Int) < d8 % 3); omega)) ?_⟩
    refine ⟨_, rfl, _, _, rfl, rfl, small (by simp only [len_app, lit_len, ll0, ll1, ll2, ll3, ll4, ll5, ll6, ll7, ll8, ll9, ll10, ll11, ll12, ll13, ll14, ll15, ll16, ll17, ll18, ll19, ll20, ll21, ll22, ll23, ll24, ll25, ll26]; omega), ?_⟩
    exact (congrArg (fun u => Q (.str u) H1) (satL0 _ _ _ _ _ _ _)).mpr (q _ H1 s1 (mk _ True.intro) rfl)
/-- a recording that some satellite of so many makes -/
structure RecC (n : Nat) (r : RecD) : Prop where
  sat : r.sat < n
  earliest : 0 ≤ r.earliest ∧ r.earliest ≤ 19
  latest : r.earliest ≤ r.latest ∧ r.latest ≤ r.earliest + 2
  length : 1 ≤ r.length ∧ r.length ≤ 5
  size : 0 ≤ r.size ∧ r.size ≤ 8
  energy : 0 ≤ r.energy ∧ r.energy ≤ 6
  worth : 1 ≤ r.worth ∧ r.worth ≤ 9
  rank : 1 ≤ r.rank ∧ r.rank ≤ 3
  deadline : 34 ≤ r.deadline ∧ r.deadline ≤ 40
def spRecC : Sp := fun vs H Q _ => ∃ (c : Int) (k n : Nat), vs = [.int c, .int (k : Int), .int (n : Int)] ∧ k < 10 ∧ 0 < n ∧ n ≤ 3 ∧ ∀ (z : RecD) (H' : Hp), Same H H' → RecC n z → z.name = nameC cR (k : Int) → Q (.str (row (wRecN (nameC cS (z.sat : Int)) z) ++ nl)) H'
set_option maxHeartbeats 16000000 in
theorem d_recC (B : Bt mg) (D_law_draws : DefOk P w K mg base CX0 1 "_law_draws" ["cell", "count"] spDrawsC) (A : At K mg "_law_recording" s__law_recording ["cell", "k", "satellites"]) : DefOk P w K mg base CX0 2 "_law_recording" ["cell", "k", "satellites"] spRecC := by
  refine A.ok sc__law_recording (fun vs H Q E h => ?_) (fun f cdv A outer s H vs Q E hr h => ?_)
  · obtain ⟨c, k, n, rfl, _⟩ := h
    rfl
  obtain ⟨c, k, n, rfl, hk, hn, hn3, q⟩ := h
  refine ⟨_, pss_cons (ps_set (i := 3) sc__law_recording.nd rfl (Or.inl rfl) (pe_f D_law_draws (hr.mono (by omega)) pass0 (pa_cons (pv 0) (pa_cons pe_int pa_nil))))
  (pss_cons (ps_set (i := 4) sc__law_recording.nd rfl (Or.inl rfl) (pe_op op_mod (pe_ix ix_list (pv 3) pe_int (fun _ _ => rfl)) pe_int))
  (pss_cons (ps_set (i := 5) sc__law_recording.nd rfl (Or.inl rfl) (pe_op op_add_str (pe_op op_add_str (pe_op op_add_str (pe_op op_add_str (pe_op op_add_str (pe_op op_add_str pe_str (pe_callTy (call_str_int) (by rfl) B.str (by decide +kernel) (pa_cons (pv 1) pa_nil))) pe_str) (pe_callTy (call_str_int) (by rfl) B.str (by decide +kernel) (pa_cons (pe_op op_mod (pe_ix ix_list (pv 3) pe_int (fun _ _ => rfl)) (pv 2)) pa_nil))) pe_str) (pe_callTy (call_str_int) (by rfl) B.str (by decide +kernel) (pa_cons (pv 4) pa_nil))) pe_str))
  (pss_cons (ps_set (i := 5) sc__law_recording.nd rfl (Or.inl rfl) (pe_op op_add_str (pe_op op_add_str (pe_op op_add_str (pe_op op_add_str (pe_op op_add_str (pv 5) (pe_callTy (call_str_int) (by rfl) B.str (by decide +kernel) (pa_cons (pe_op op_add (pv 4) (pe_op op_mod (pe_ix ix_list (pv 3) pe_int (fun _ _ => rfl)) pe_int)) pa_nil))) pe_str) (pe_callTy (call_str_int) (by rfl) B.str (by decide +kernel) (pa_cons (pe_op op_add pe_int (pe_op op_mod (pe_ix ix_list (pv 3) pe_int (fun _ _ => rfl)) pe_int)) pa_nil))) pe_str) (pe_callTy (call_str_int) (by rfl) B.str (by decide +kernel) (pa_cons (pe_op op_mod (pe_ix ix_list (pv 3) pe_int (fun _ _ => rfl)) pe_int) pa_nil))))
  (pss_cons (ps_set (i := 5) sc__law_recording.nd rfl (Or.inl rfl) (pe_op op_add_str (pe_op op_add_str (pe_op op_add_str (pe_op op_add_str (pe_op op_add_str (pe_op op_add_str (pv 5) pe_str) (pe_callTy (call_str_int) (by rfl) B.str (by decide +kernel) (pa_cons (pe_op op_mod (pe_ix ix_list (pv 3) pe_int (fun _ _ => rfl)) pe_int) pa_nil))) pe_str) (pe_callTy (call_str_int) (by rfl) B.str (by decide +kernel) (pa_cons (pe_op op_add pe_int (pe_op op_mod (pe_ix ix_list (pv 3) pe_int (fun _ _ => rfl)) pe_int)) pa_nil))) pe_str) (pe_callTy (call_str_int) (by rfl) B.str (by decide +kernel) (pa_cons (pe_op op_add pe_int (pe_op op_mod (pe_ix ix_list (pv 3) pe_int (fun _ _ => rfl)) pe_int)) pa_nil))))
  (pss_one (ps_ret (pe_op op_add_str (pe_op op_add_str (pe_op op_add_str (pv 5) pe_str) (pe_callTy (call_str_int) (by rfl) B.str (by decide +kernel) (pa_cons (pe_op op_sub pe_int (pe_op op_mul (pe_op op_mod (pe_ix ix_list (pv 3) pe_int (fun _ _ => rfl)) pe_int) (pe_op op_mod (pe_ix ix_list (pv 3) pe_int (fun _ _ => rfl)) pe_int))) pa_nil))) pe_str)))))))
    , ?_⟩
  refine ⟨_, rfl, c, 9, rfl, by decide, fun p ds H1 s1 np hl hp => ?_⟩
  obtain ⟨d0, d1, d2, d3, d4, d5, d6, d7, d8, rfl⟩ := nine hl
  have m1 : 0 ≤ d0 % (n : Int) := Int.emod_nonneg _ (by omega)
  have m2 : d0 % (n : Int) < (n : Int) := Int.emod_lt_of_pos _ (by omega)
  have m3 : 0 ≤ d8 % 4 * (d8 % 3) := Int.mul_nonneg (by omega) (by omega)
  have m4 : d8 % 4 * (d8 % 3) ≤ 3 * 2 := Int.mul_le_mul (by omega) (by omega) (by omega) (by decide)
  have e1 := tos_len (n := (k : Int)) (by omega) (by omega)
  have e2 := tos_len (n := d0 % (n : Int)) m1 (by omega)
  have e3 := tos_len (n := d1 % 20) (by omega) (by omega)
  have e4 := tos_len (n := d1 % 20 + d2 % 3) (by omega) (by omega)
  have e5 := tos_len (n := 1 + d3 % 5) (by omega) (by omega)
  have e6 := tos_len (n := d4 % 9) (by omega) (by omega)
  have e7 := tos_len (n := d5 % 7) (by omega) (by omega)
  have e8 := tos_len (n := 1 + d6 % 9) (by omega) (by omega)
  have e9 := tos_len (n := 1 + d7 % 3) (by omega) (by omega)
  have e10 := tos_len (n := 40 - d8 % 4 * (d8 % 3)) (by omega) (by omega)
  refine ⟨_, rfl, _, _, _, _, rfl, rfl, SqL.of hp, rfl, _, _, rfl, rfl, (by show (0 : Int) < _; decide), ?_⟩
  refine ⟨_, rfl, _, rfl, log_ok (by omega) (by omega), _, _, rfl, rfl, small (by simp only [len_app, lit_len, ll0, ll1, ll2, ll3, ll4, ll5, ll6, ll7, ll8, ll9, ll10, ll11, ll12, ll13, ll14, ll15, ll16, ll17, ll18, ll19, ll20, ll21, ll22, ll23, ll24, ll25, ll26]; omega), _, _, rfl, rfl, small (by simp only [len_app, lit_len, ll0, ll1, ll2, ll3, ll4, ll5, ll6, ll7, ll8, ll9, ll10, ll11, ll12, ll13, ll14, ll15, ll16, ll17, ll18, ll19, ll20, ll21, ll22, ll23, ll24, ll25, ll26]; omega), _, rfl, _, _, _, _, rfl, rfl, SqL.of hp, rfl, _, rfl, _, _, rfl, rfl, (by show (0 : Int) < (n : Int); omega), _, rfl, log_ok m1 (by omega), _, _, rfl, rfl, small (by simp only [len_app, lit_len, ll0, ll1, ll2, ll3, ll4, ll5, ll6, ll7, ll8, ll9, ll10, ll11, ll12, ll13, ll14, ll15, ll16, ll17, ll18, ll19, ll20, ll21, ll22, ll23, ll24, ll25, ll26]; omega), _, _, rfl, rfl, small (by simp only [len_app, lit_len, ll0, ll1, ll2, ll3, ll4, ll5, ll6, ll7, ll8, ll9, ll10, ll11, ll12, ll13, ll14, ll15, ll16, ll17, ll18, ll19, ll20, ll21, ll22, ll23, ll24, ll25, ll26]; omega), _, rfl, _, rfl, log_ok (by omega) (by omega), _, _, rfl, rfl, small (by simp only [len_app, lit_len, ll0, ll1, ll2, ll3, ll4, ll5, ll6, ll7, ll8, ll9, ll10, ll11, ll12, ll13, ll14, ll15, ll16, ll17, ll18, ll19, ll20, ll21, ll22, ll23, ll24, ll25, ll26]; omega), _, _, rfl, rfl, small (by simp only [len_app, lit_len, ll0, ll1, ll2, ll3, ll4, ll5, ll6, ll7, ll8, ll9, ll10, ll11, ll12, ll13, ll14, ll15, ll16, ll17, ll18, ll19, ll20, ll21, ll22, ll23, ll24, ll25, ll26]; omega), ?_⟩
  refine ⟨_, rfl, _, rfl, _, rfl, _, _, _, _, rfl, rfl, SqL.of hp, rfl, _, _, rfl, rfl, (by show (0 : Int) < _; decide), _, _, rfl, rfl, _, rfl, log_ok (by omega) (by omega), _, _, rfl, rfl, small (by simp only [len_app, lit_len, ll0, ll1, ll2, ll3, ll4, ll5, ll6, ll7, ll8, ll9, ll10, ll11, ll12, ll13, ll14, ll15, ll16, ll17, ll18, ll19, ll20, ll21, ll22, ll23, ll24, ll25, ll26]; omega), _, _, rfl, rfl, small (by simp only [len_app, lit_len, ll0, ll1, ll2, ll3, ll4, ll5, ll6, ll7, ll8, ll9, ll10, ll11, ll12, ll13, ll14, ll15, ll16, ll17, ll18, ll19, ll20, ll21, ll22, ll23, ll24, ll25, ll26]; omega), _, rfl, _, _, _, _, rfl, rfl, SqL.of hp, rfl, _, _, rfl, rfl, (by show (0 : Int) < _; decide), _, _, rfl, rfl, _, rfl, log_ok (by omega) (by omega), _, _, rfl, rfl, small (by simp only [len_app, lit_len, ll0, ll1, ll2, ll3, ll4, ll5, ll6, ll7, ll8, ll9, ll10, ll11, ll12, ll13, ll14, ll15, ll16, ll17, ll18, ll19, ll20, ll21, ll22, ll23, ll24, ll25, ll26]; omega), _, _, rfl, rfl, small (by simp only [len_app, lit_len, ll0, ll1, ll2, ll3, ll4, ll5, ll6, ll7, ll8, ll9, ll10, ll11, ll12, ll13, ll14, ll15, ll16, ll17, ll18, ll19, ll20, ll21, ll22, ll23, ll24, ll25, ll26]; omega), _, rfl, _, _, _, _, rfl, rfl, SqL.of hp, rfl, _, _, rfl, rfl, (by show (0 : Int) < _; decide), _, rfl, log_ok (by omega) (by omega), _, _, rfl, rfl, small (by simp only [len_app, lit_len, ll0, ll1, ll2, ll3, ll4, ll5, ll6, ll7, ll8, ll9, ll10, ll11, ll12, ll13, ll14, ll15, ll16, ll17, ll18, ll19, ll20, ll21, ll22, ll23, ll24, ll25, ll26]; omega), ?_⟩
  refine ⟨_, rfl, _, _, rfl, rfl, small (by simp only [len_app, lit_len, ll0, ll1, ll2, ll3, ll4, ll5, ll6, ll7, ll8, ll9, ll10, ll11, ll12, ll13, ll14, ll15, ll16, ll17, ll18, ll19, ll20, ll21, ll22, ll23, ll24, ll25, ll26]; omega), _, rfl, _, _, _, _, rfl, rfl, SqL.of hp, rfl, _, _, rfl, rfl, (by show (0 : Int) < _; decide), _, rfl, log_ok (by omega) (by omega), _, _, rfl, rfl, small (by simp only [len_app, lit_len, ll0, ll1, ll2, ll3, ll4, ll5, ll6, ll7, ll8, ll9, ll10, ll11, ll12, ll13, ll14, ll15, ll16, ll17, ll18, ll19, ll20, ll21, ll22, ll23, ll24, ll25, ll26]; omega), _, _, rfl, rfl, small (by simp only [len_app, lit_len, ll0, ll1, ll2, ll3, ll4, ll5, ll6, ll7, ll8, ll9, ll10, ll11, ll12, ll13, ll14, ll15, ll16, ll17, ll18, ll19, ll20, ll21, ll22, ll23, ll24, ll25, ll26]; omega), _, rfl, _, _, _, _, rfl, rfl, SqL.of hp, rfl, _, _, rfl, rfl, (by show (0 : Int) < _; decide), _, _, rfl, rfl, _, rfl, log_ok (by omega) (by omega), _, _, rfl, rfl, small (by simp only [len_app, lit_len, ll0, ll1, ll2, ll3, ll4, ll5, ll6, ll7, ll8, ll9, ll10, ll11, ll12, ll13, ll14, ll15, ll16, ll17, ll18, ll19, ll20, ll21, ll22, ll23, ll24, ll25, ll26]; omega), _, _, rfl, rfl, small (by simp only [len_app, lit_len, ll0, ll1, ll2, ll3, ll4, ll5, ll6, ll7, ll8, ll9, ll10, ll11, ll12, ll13, ll14, ll15, ll16, ll17, ll18, ll19, ll20, ll21, ll22, ll23, ll24, ll25, ll26]; omega), _, rfl, _, _, _, _, rfl, rfl, SqL.of hp, rfl, _, _, rfl, rfl, (by show (0 : Int) < _; decide), _, _, rfl, rfl, _, rfl, log_ok (by omega) (by omega), _, _, rfl, rfl, small (by simp only [len_app, lit_len, ll0, ll1, ll2, ll3, ll4, ll5, ll6, ll7, ll8, ll9, ll10, ll11, ll12, ll13, ll14, ll15, ll16, ll17, ll18, ll19, ll20, ll21, ll22, ll23, ll24, ll25, ll26]; omega), ?_⟩
  refine ⟨_, rfl, _, _, rfl, rfl, small (by simp only [len_app, lit_len, ll0, ll1, ll2, ll3, ll4, ll5, ll6, ll7, ll8, ll9, ll10, ll11, ll12, ll13, ll14, ll15, ll16, ll17, ll18, ll19, ll20, ll21, ll22, ll23, ll24, ll25, ll26]; omega), _, rfl, _, _, _, _, rfl, rfl, SqL.of hp, rfl, _, _, rfl, rfl, (by show (0 : Int) < _; decide), _, rfl, _, _, _, _, rfl, rfl, SqL.of hp, rfl, _, _, rfl, rfl, (by show (0 : Int) < _; decide), _, _, rfl, rfl, .inl ⟨by omega, by omega⟩, _, _, rfl, rfl, _, rfl, log_ok (by omega) (by omega), _, _, rfl, rfl, small (by simp only [len_app, lit_len, ll0, ll1, ll2, ll3, ll4, ll5, ll6, ll7, ll8, ll9, ll10, ll11, ll12, ll13, ll14, ll15, ll16, ll17, ll18, ll19, ll20, ll21, ll22, ll23, ll24, ll25, ll26]; omega), _, _, rfl, rfl, small (by simp only [len_app, lit_len, ll0, ll1, ll2, ll3, ll4, ll5, ll6, ll7, ll8, ll9, ll10, ll11, ll12, ll13, ll14, ll15, ll16, ll17, ll18, ll19, ll20, ll21, ll22, ll23, ll24, ll25, ll26]; omega), ?_⟩
  refine (congrArg (fun u => Q (.str u) H1) (row_recC _ _ _ _ _ _ _ _ _ _)).mpr ?_
  have e : d0 % (n : Int) = (((d0 % (n : Int)).toNat : Nat) : Int) := by omega
  have g := q ⟨nameC cR (k : Int), (d0 % (n : Int)).toNat, d1 % 20, d1 % 20 + d2 % 3, 1 + d3 % 5, d4 % 9, d5 % 7, 1 + d6 % 9, 1 + d7 % 3, 40 - d8 % 4 * (d8 % 3)⟩ H1 s1 ⟨by dsimp only; omega, by constructor <;> (dsimp only; omega), by constructor <;> (dsimp only; omega), by constructor <;> (dsimp only; omega), by constructor <;> (dsimp only; omega), by constructor <;> (dsimp only; omega), by constructor <;> (dsimp only; omega), by constructor <;> (dsimp only; omega), by constructor <;> (dsimp only; omega)⟩ rfl
  have g2 : Q (.str (row (wRecN (nameC cS (((d0 % (n : Int)).toNat : Nat) : Int)) ⟨nameC cR (k : Int), (d0 % (n : Int)).toNat, d1 % 20, d1 % 20 + d2 % 3, 1 + d3 % 5, d4 % 9, d5 % 7, 1 + d6 % 9, 1 + d7 % 3, 40 - d8 % 4 * (d8 % 3)⟩) ++ nl)) H1 := g
  rw [← e] at g2
  exact g2
structure PasC (n m : Nat) (r : PasD) : Prop where
  sat : r.sat < n
  sta : r.sta < m
  first : 5 ≤ r.first ∧ r.first ≤ 31
  fin : r.first + 1 ≤ r.fin ∧ r.fin ≤ r.first + 6
  room : 0 ≤ r.room ∧ r.room ≤ 15
  energy : 0 ≤ r.energy ∧ r.energy ≤ 4
  fee : 0 ≤ r.fee ∧ r.fee ≤ 5
def spPasC : Sp := fun vs H Q _ => ∃ (c : Int) (k n m : Nat), vs = [.int c, .int (k : Int), .int (n : Int), .int (m : Int)] ∧ k < 10 ∧ 0 < n ∧ n ≤ 3 ∧ 0 < m ∧ m ≤ 3 ∧
  ∀ (z : PasD) (H' : Hp), Same H H' → PasC n m z → z.name = nameC cP (k : Int) → Q (.str (row (wPasN (nameC cS (z.sat : Int)) (nameC cT (z.sta : Int)) z) ++ nl)) H'
set_option maxHeartbeats 16000000 in
theorem d_pasC (B : Bt mg) (D_law_draws : DefOk P w K mg base CX0 1 "_law_draws" ["cell", "count"] spDrawsC) (A : At K mg "_law_pass" s__law_pass ["cell", "k", "satellites", "stations"]) : DefOk P w K mg base CX0 2 "_law_pass" ["cell", "k", "satellites", "stations"] spPasC := by
  refine A.ok sc__law_pass (fun vs H Q E h => ?_) (fun f cdv A outer s H vs Q E hr h => ?_)
  · obtain ⟨c, k, n, m, rfl, _⟩ := h
    rfl
  obtain ⟨c, k, n, m, rfl, hk, hn, hn3, hm, hm3, q⟩ := h
  refine ⟨_, pss_cons (ps_set (i := 4) sc__law_pass.nd rfl (Or.inl rfl) (pe_f D_law_draws (hr.mono (by omega)) pass0 (pa_cons (pv 0) (pa_cons pe_int pa_nil))))
  (pss_cons (ps_set (i := 5) sc__law_pass.nd rfl (Or.inl rfl) (pe_op op_add pe_int (pe_op op_mod (pe_ix ix_list (pv 4) pe_int (fun _ _ => rfl)) pe_int)))
  (pss_cons (ps_set (i := 6) sc__law_pass.nd rfl (Or.inl rfl) (pe_op op_add_str (pe_op op_add_str (pe_op op_add_str (pe_op op_add_str (pe_op op_add_str (pe_op op_add_str pe_str (pe_callTy (call_str_int) (by rfl) B.str (by decide +kernel) (pa_cons (pv 1) pa_nil))) pe_str) (pe_callTy (call_str_int) (by rfl) B.str (by decide +kernel) (pa_cons (pe_op op_mod (pe_ix ix_list (pv 4) pe_int (fun _ _ => rfl)) (pv 2)) pa_nil))) pe_str) (pe_callTy (call_str_int) (by rfl) B.str (by decide +kernel) (pa_cons (pe_op op_mod (pe_ix ix_list (pv 4) pe_int (fun _ _ => rfl)) (pv 3)) pa_nil))) pe_str))
  (pss_cons (ps_set (i := 6) sc__law_pass.nd rfl (Or.inl rfl) (pe_op op_add_str (pe_op op_add_str (pe_op op_add_str (pe_op op_add_str (pe_op op_add_str (pv 6) (pe_callTy (call_str_int) (by rfl) B.str (by decide +kernel) (pa_cons (pv 5) pa_nil))) pe_str) (pe_callTy (call_str_int) (by rfl) B.str (by decide +kernel) (pa_cons (pe_op op_add (pe_op op_add (pv 5) pe_int) (pe_op op_mod (pe_ix ix_list (pv 4) pe_int (fun _ _ => rfl)) pe_int)) pa_nil))) pe_str) (pe_callTy (call_str_int) (by rfl) B.str (by decide +kernel) (pa_cons (pe_op op_mod (pe_ix ix_list (pv 4) pe_int (fun _ _ => rfl)) pe_int) pa_nil))))
  (pss_one (ps_ret (pe_op op_add_str (pe_op op_add_str (pe_op op_add_str (pe_op op_add_str (pe_op op_add_str (pv 6) pe_str) (pe_callTy (call_str_int) (by rfl) B.str (by decide +kernel) (pa_cons (pe_op op_mod (pe_ix ix_list (pv 4) pe_int (fun _ _ => rfl)) pe_int) pa_nil))) pe_str) (pe_callTy (call_str_int) (by rfl) B.str (by decide +kernel) (pa_cons (pe_op op_mod (pe_ix ix_list (pv 4) pe_int (fun _ _ => rfl)) pe_int) pa_nil))) pe_str))))))
    , ?_⟩
  refine ⟨_, rfl, c, 7, rfl, by decide, fun p ds H1 s1 np hl hp => ?_⟩
  obtain ⟨d0, d1, d2, d3, d4, d5, d6, rfl⟩ := seven hl
  have m1 : 0 ≤ d0 % (n : Int) := Int.emod_nonneg _ (by omega)
  have m2 : d0 % (n : Int) < (n : Int) := Int.emod_lt_of_pos _ (by omega)
  have m3 : 0 ≤ d1 % (m : Int) := Int.emod_nonneg _ (by omega)
  have m4 : d1 % (m : Int) < (m : Int) := Int.emod_lt_of_pos _ (by omega)
  have e1 := tos_len (n := (k : Int)) (by omega) (by omega)
  have e2 := tos_len (n := d0 % (n : Int)) m1 (by omega)
  have e3 := tos_len (n := d1 % (m : Int)) m3 (by omega)
  have e4 := tos_len (n := 5 + d2 % 27) (by omega) (by omega)
  have e5 := tos_len (n := 5 + d2 % 27 + 1 + d3 % 6) (by omega) (by omega)
  have e6 := tos_len (n := d4 % 16) (by omega) (by omega)
  have e7 := tos_len (n := d5 % 5) (by omega) (by omega)
  have e8 := tos_len (n := d6 % 6) (by omega) (by omega)
  refine ⟨_, rfl, _, _, _, _, rfl, rfl, SqL.of hp, rfl, _, _, rfl, rfl, (by show (0 : Int) < _; decide), _, _, rfl, rfl, ?_⟩
  refine ⟨_, rfl, _, rfl, log_ok (by omega) (by omega), _, _, rfl, rfl, small (by simp only [len_app, lit_len, ll0, ll1, ll2, ll3, ll4, ll5, ll6, ll7, ll8, ll9, ll10, ll11, ll12, ll13, ll14, ll15, ll16, ll17, ll18, ll19, ll20, ll21, ll22, ll23, ll24, ll25, ll26]; omega), _, _, rfl, rfl, small (by simp only [len_app, lit_len, ll0, ll1, ll2, ll3, ll4, ll5, ll6, ll7, ll8, ll9, ll10, ll11, ll12, ll13, ll14, ll15, ll16, ll17, ll18, ll19, ll20, ll21, ll22, ll23, ll24, ll25, ll26]; omega), _, rfl, _, _, _, _, rfl, rfl, SqL.of hp, rfl, _, rfl, _, _, rfl, rfl, (by show (0 : Int) < (n : Int); omega), _, rfl, log_ok m1 (by omega), _, _, rfl, rfl, small (by simp only [len_app, lit_len, ll0, ll1, ll2, ll3, ll4, ll5, ll6, ll7, ll8, ll9, ll10, ll11, ll12, ll13, ll14, ll15, ll16, ll17, ll18, ll19, ll20, ll21, ll22, ll23, ll24, ll25, ll26]; omega), _, _, rfl, rfl, small (by simp only [len_app, lit_len, ll0, ll1, ll2, ll3, ll4, ll5, ll6, ll7, ll8, ll9, ll10, ll11, ll12, ll13, ll14, ll15, ll16, ll17, ll18, ll19, ll20, ll21, ll22, ll23, ll24, ll25, ll26]; omega), _, rfl, _, _, _, _, rfl, rfl, SqL.of hp, rfl, _, rfl, _, _, rfl, rfl, (by show (0 : Int) < (m : Int); omega), _, rfl, log_ok m3 (by omega), _, _, rfl, rfl, small (by simp only [len_app, lit_len, ll0, ll1, ll2, ll3, ll4, ll5, ll6, ll7, ll8, ll9, ll10, ll11, ll12, ll13, ll14, ll15, ll16, ll17, ll18, ll19, ll20, ll21, ll22, ll23, ll24, ll25, ll26]; omega), _, _, rfl, rfl, small (by simp only [len_app, lit_len, ll0, ll1, ll2, ll3, ll4, ll5, ll6, ll7, ll8, ll9, ll10, ll11, ll12, ll13, ll14, ll15, ll16, ll17, ll18, ll19, ll20, ll21, ll22, ll23, ll24, ll25, ll26]; omega), ?_⟩
  refine ⟨_, rfl, _, rfl, _, rfl, log_ok (by omega) (by omega), _, _, rfl, rfl, small (by simp only [len_app, lit_len, ll0, ll1, ll2, ll3, ll4, ll5, ll6, ll7, ll8, ll9, ll10, ll11, ll12, ll13, ll14, ll15, ll16, ll17, ll18, ll19, ll20, ll21, ll22, ll23, ll24, ll25, ll26]; omega), _, _, rfl, rfl, small (by simp only [len_app, lit_len, ll0, ll1, ll2, ll3, ll4, ll5, ll6, ll7, ll8, ll9, ll10, ll11, ll12, ll13, ll14, ll15, ll16, ll17, ll18, ll19, ll20, ll21, ll22, ll23, ll24, ll25, ll26]; omega), _, rfl, _, _, rfl, rfl, _, rfl, _, _, _, _, rfl, rfl, SqL.of hp, rfl, _, _, rfl, rfl, (by show (0 : Int) < _; decide), _, _, rfl, rfl, _, rfl, log_ok (by omega) (by omega), _, _, rfl, rfl, small (by simp only [len_app, lit_len, ll0, ll1, ll2, ll3, ll4, ll5, ll6, ll7, ll8, ll9, ll10, ll11, ll12, ll13, ll14, ll15, ll16, ll17, ll18, ll19, ll20, ll21, ll22, ll23, ll24, ll25, ll26]; omega), _, _, rfl, rfl, small (by simp only [len_app, lit_len, ll0, ll1, ll2, ll3, ll4, ll5, ll6, ll7, ll8, ll9, ll10, ll11, ll12, ll13, ll14, ll15, ll16, ll17, ll18, ll19, ll20, ll21, ll22, ll23, ll24, ll25, ll26]; omega), _, rfl, _, _, _, _, rfl, rfl, SqL.of hp, rfl, _, _, rfl, rfl, (by show (0 : Int) < _; decide), _, rfl, log_ok (by omega) (by omega), _, _, rfl, rfl, small (by simp only [len_app, lit_len, ll0, ll1, ll2, ll3, ll4, ll5, ll6, ll7, ll8, ll9, ll10, ll11, ll12, ll13, ll14, ll15, ll16, ll17, ll18, ll19, ll20, ll21, ll22, ll23, ll24, ll25, ll26]; omega), ?_⟩
  refine ⟨_, rfl, _, _, rfl, rfl, small (by simp only [len_app, lit_len, ll0, ll1, ll2, ll3, ll4, ll5, ll6, ll7, ll8, ll9, ll10, ll11, ll12, ll13, ll14, ll15, ll16, ll17, ll18, ll19, ll20, ll21, ll22, ll23, ll24, ll25, ll26]; omega), _, rfl, _, _, _, _, rfl, rfl, SqL.of hp, rfl, _, _, rfl, rfl, (by show (0 : Int) < _; decide), _, rfl, log_ok (by omega) (by omega), _, _, rfl, rfl, small (by simp only [len_app, lit_len, ll0, ll1, ll2, ll3, ll4, ll5, ll6, ll7, ll8, ll9, ll10, ll11, ll12, ll13, ll14, ll15, ll16, ll17, ll18, ll19, ll20, ll21, ll22, ll23, ll24, ll25, ll26]; omega), _, _, rfl, rfl, small (by simp only [len_app, lit_len, ll0, ll1, ll2, ll3, ll4, ll5, ll6, ll7, ll8, ll9, ll10, ll11, ll12, ll13, ll14, ll15, ll16, ll17, ll18, ll19, ll20, ll21, ll22, ll23, ll24, ll25, ll26]; omega), _, rfl, _, _, _, _, rfl, rfl, SqL.of hp, rfl, _, _, rfl, rfl, (by show (0 : Int) < _; decide), _, rfl, log_ok (by omega) (by omega), _, _, rfl, rfl, small (by simp only [len_app, lit_len, ll0, ll1, ll2, ll3, ll4, ll5, ll6, ll7, ll8, ll9, ll10, ll11, ll12, ll13, ll14, ll15, ll16, ll17, ll18, ll19, ll20, ll21, ll22, ll23, ll24, ll25, ll26]; omega), _, _, rfl, rfl, small (by simp only [len_app, lit_len, ll0, ll1, ll2, ll3, ll4, ll5, ll6, ll7, ll8, ll9, ll10, ll11, ll12, ll13, ll14, ll15, ll16, ll17, ll18, ll19, ll20, ll21, ll22, ll23, ll24, ll25, ll26]; omega), ?_⟩
  refine (congrArg (fun u => Q (.str u) H1) (row_pasC _ _ _ _ _ _ _ _)).mpr ?_
  have e : d0 % (n : Int) = (((d0 % (n : Int)).toNat : Nat) : Int) := by omega
  have e' : d1 % (m : Int) = (((d1 % (m : Int)).toNat : Nat) : Int) := by omega
  have g := q ⟨nameC cP (k : Int), (d0 % (n : Int)).toNat, (d1 % (m : Int)).toNat, 5 + d2 % 27, 5 + d2 % 27 + 1 + d3 % 6, d4 % 16, d5 % 5, d6 % 6⟩ H1 s1 ⟨by dsimp only; omega, by dsimp only; omega, by constructor <;> (dsimp only; omega), by constructor <;> (dsimp only; omega), by constructor <;> (dsimp only; omega), by constructor <;> (dsimp only; omega), by constructor <;> (dsimp only; omega)⟩ rfl
  have g2 : Q (.str (row (wPasN (nameC cS (((d0 % (n : Int)).toNat : Nat) : Int)) (nameC cT (((d1 % (m : Int)).toNat : Nat) : Int)) ⟨nameC cP (k : Int), (d0 % (n : Int)).toNat, (d1 % (m : Int)).toNat, 5 + d2 % 27, 5 + d2 % 27 + 1 + d3 % 6, d4 % 16, d5 % 5, d6 % 6⟩) ++ nl)) H1 := g
  rw [← e, ← e'] at g2
  exact g2
end
end DP
/-! the text of a world of cells, the world -/
namespace DP
open PySem PySem.Spec PyProof.Rows L2
abbrev s__law_text : Stmt := topS 55
theorem sc__law_text : FnScope ["script", "recordings", "passes", "satellites", "stations", "text", "k", "n"] ["script", "recordings", "passes"] (defScope s__law_text) := ⟨rfl, rfl, rfl, by decide +kernel, rfl, by decide +kernel, by decide +kernel⟩
abbrev s__law_world : Stmt := topS 56
theorem sc__law_world : FnScope ["script", "size"] ["script"] (defScope s__law_world) := ⟨rfl, rfl, rfl, by decide +kernel, rfl, by decide +kernel, by decide +kernel⟩
structure CG (W : WorldD) : Prop where
  ok : WorldOk W
  hor : W.horizon = 40
  nS : 1 ≤ W.sats.length ∧ W.sats.length ≤ 2
  nT : 1 ≤ W.stas.length ∧ W.stas.length ≤ 2
  nR : 1 ≤ W.recs.length ∧ W.recs.length ≤ 5
  nP : 1 ≤ W.pass.length ∧ W.pass.length ≤ 4
  rcs : ∀ r ∈ W.recs, RecC W.sats.length r
  pss : ∀ p ∈ W.pass, PasC W.sats.length W.stas.length p
theorem wRecN_wd {sn : Str} (hs : NameOk sn) {n : Nat} {r : RecD} (hn : NameOk r.name) (k : RecC n r) : ∀ x ∈ wRecN sn r, WdOk x := by
  have h1 := k.earliest; have h2 := k.latest; have h3 := k.length; have h4 := k.size; have h5 := k.energy; have h6 := k.worth; have h7 := k.rank; have h8 := k.deadline
  exact all_cons (by unfold WdOk; decide +kernel) (all_cons hn.wd (all_cons (by unfold WdOk; decide +kernel) (all_cons hs.wd
    (all_cons (by unfold WdOk; decide +kernel) (all_cons (num_wd (by omega) (by omega)) (all_cons (by unfold WdOk; decide +kernel) (all_cons (num_wd (by omega) (by omega)) (all_cons (by unfold WdOk; decide +kernel) (all_cons (num_wd (by omega) (by omega))
    (all_cons (by unfold WdOk; decide +kernel) (all_cons (num_wd (by omega) (by omega)) (all_cons (by unfold WdOk; decide +kernel) (all_cons (num_wd (by omega) (by omega)) (all_cons (by unfold WdOk; decide +kernel) (all_cons (num_wd (by omega) (by omega))
    (all_cons (by unfold WdOk; decide +kernel) (all_cons (num_wd (by omega) (by omega)) (all_cons (by unfold WdOk; decide +kernel) (all_cons (num_wd (by omega) (by omega)) all_nil)))))))))))))))))))
theorem wPasN_wd {sn tn : Str} (hs : NameOk sn) (ht : NameOk tn) {n m : Nat} {p : PasD} (hn : NameOk p.name) (k : PasC n m p) : ∀ x ∈ wPasN sn tn p, WdOk x := by
  have h1 := k.first; have h2 := k.fin; have h3 := k.room; have h4 := k.energy; have h5 := k.fee
  exact all_cons (by unfold WdOk; decide +kernel) (all_cons hn.wd (all_cons (by unfold WdOk; decide +kernel) (all_cons hs.wd (all_cons (by unfold WdOk; decide +kernel) (all_cons ht.wd
    (all_cons (by unfold WdOk; decide +kernel) (all_cons (num_wd (by omega) (by omega)) (all_cons (by unfold WdOk; decide +kernel) (all_cons (num_wd (by omega) (by omega)) (all_cons (by unfold WdOk; decide +kernel) (all_cons (num_wd (by omega) (by omega))
    (all_cons (by unfold WdOk; decide +kernel) (all_cons (num_wd (by omega) (by omega)) (all_cons (by unfold WdOk; decide +kernel) (all_cons (num_wd (by omega) (by omega)) all_nil)))))))))))))))
/-- rows of a text so far -/
structure RowsI (rows : List (List Str)) (n : Nat) : Prop where
  len : rows.length = n
  short : ∀ l ∈ rows, (row l).length ≤ 1700
theorem RowsI.snoc {rows : List (List Str)} {n : Nat} (h : RowsI rows n) {ws : List Str} (hw : (row ws).length ≤ 1700) : RowsI (rows ++ [ws]) (n + 1) :=
  ⟨by rw [List.length_append, h.len]; rfl, fun l hl => (List.mem_append.mp hl).elim (h.short l) fun z => by rw [List.mem_singleton.mp z]; exact hw⟩
theorem RowsI.glue {rows : List (List Str)} {n : Nat} (h : RowsI rows n) (hn : n ≤ 20) : (glue (rows.map row)).length ≤ 40000 := by
  have g := glue_len (rows := rows.map row) (m := 1700) fun r hr => by
    obtain ⟨l, hl, rfl⟩ := List.mem_map.mp hr
    exact h.short l hl
  rw [List.length_map, h.len] at g
  have := Nat.mul_le_mul (by omega : n + 1 ≤ 21) (Nat.le_refl (1700 + 1))
  omega
theorem RowsI.fits {rows : List (List Str)} {n : Nat} (h : RowsI rows n) (hn : n ≤ 20) {ws : List Str} (hw : (row ws).length ≤ 1700) : (DP.glue (rows.map row)).length + (row ws ++ nl).length ≤ sizeLine := by
  have g := h.glue hn
  have e : nl.length = 1 := by decide +kernel
  rw [len_app, e]
  exact big (by omega)
theorem short_of {ws : List Str} (h : ∀ w ∈ ws, WdOk w) (hl : ws.length ≤ 100) : (row ws).length ≤ 1700 := by
  have := row_len h
  omega
def gR (z : RecD) : List Str := wRecN (nameC cS (z.sat : Int)) z
def gP (z : PasD) : List Str := wPasN (nameC cS (z.sat : Int)) (nameC cT (z.sta : Int)) z
theorem sat_short {z : SatD} (h : SatOk 40 z) : (row (wSat z)).length ≤ 1700 := by
  refine short_of (wSat_wd (by decide) h) ?_
  have h1 := h.light.len (by decide)
  have h3 := lightW_len z.light
  have h4 : (wSat z).length = 15 + (lightW z.light).length := by
    unfold wSat
    rw [List.length_append]
    rfl
  omega
theorem text40 : Str.ofString "horizon 40\n" = glue ([wHor 40].map row) := by decide +kernel
theorem hor_short : (row (wHor 40)).length ≤ 1700 := by decide +kernel
theorem nameS_ok {k : Nat} (h : k < 10) : NameOk (nameC cS (k : Int)) := nameC_ok (x := 115) (by decide +kernel) (by decide) h
theorem nameT_ok {k : Nat} (h : k < 10) : NameOk (nameC cT (k : Int)) := nameC_ok (x := 116) (by decide +kernel) (by decide) h
theorem nameR_ok {k : Nat} (h : k < 10) : NameOk (nameC cR (k : Int)) := nameC_ok (x := 114) (by decide +kernel) (by decide) h
theorem nameP_ok {k : Nat} (h : k < 10) : NameOk (nameC cP (k : Int)) := nameC_ok (x := 112) (by decide +kernel) (by decide) h
theorem nam_step {c : Str} {ns : List Str} {i : Nat} {u : Str} (h : Nam c ns) (hl : ns.length = i) (hu : u = nameC c (i : Nat)) : Nam c (ns ++ [u]) := by
  subst hl hu
  exact h.snoc
theorem worldC_ok {sats : List SatD} {stas : List StaD} {recs : List RecD} {pass : List PasD} (n1 : 1 ≤ sats.length ∧ sats.length ≤ 2) (n2 : 1 ≤ stas.length ∧ stas.length ≤ 2) (n3 : 1 ≤ recs.length ∧ recs.length ≤ 5) (n4 : 1 ≤ pass.length ∧ pass.length ≤ 4)
    (o1 : ∀ z ∈ sats, SatOk 40 z) (m1 : Nam cS (sats.map (·.name))) (o2 : ∀ z ∈ stas, StaOk z) (m2 : Nam cT (stas.map (·.name))) (o3 : ∀ z ∈ recs, RecC sats.length z ∧ NameOk z.name) (m3 : Nam cR (recs.map (·.name)))
    (o4 : ∀ z ∈ pass, PasC sats.length stas.length z ∧ NameOk z.name) (m4 : Nam cP (pass.map (·.name))) : CG ⟨40, sats, stas, recs, pass⟩ := by
  refine ⟨⟨(by show (1 : Int) ≤ 40 ∧ (40 : Int) ≤ 500; decide), ?_, ?_, ?_, ?_, m1.nodup, m2.nodup, m3.nodup, m4.nodup, o1, o2, fun r hr => ?_, fun p hp => ?_⟩, rfl, n1, n2, n3, n4, fun r hr => (o3 r hr).1, fun p hp => (o4 p hp).1⟩
  · dsimp only; omega
  · dsimp only; omega
  · dsimp only; omega
  · dsimp only; omega
  · obtain ⟨k, hn⟩ := o3 r hr
    have h1 := k.earliest; have h2 := k.latest; have h3 := k.length; have h4 := k.size; have h5 := k.energy; have h6 := k.worth; have h7 := k.rank; have h8 := k.deadline
    exact ⟨hn, k.sat, by dsimp only; omega, by dsimp only; omega, by dsimp only; omega, by omega, by omega, by omega, by omega, by dsimp only; omega⟩
  · obtain ⟨k, hn⟩ := o4 p hp
    have h1 := k.first; have h2 := k.fin; have h3 := k.room; have h4 := k.energy; have h5 := k.fee
    exact ⟨hn, k.sat, k.sta, by dsimp only; omega, by dsimp only; omega, by omega, by omega, by omega⟩
theorem linesC {sats : List SatD} {stas : List StaD} {recs : List RecD} {pass : List PasD} (m1 : Nam cS (sats.map (·.name))) (m2 : Nam cT (stas.map (·.name))) (o3 : ∀ z ∈ recs, z.sat < sats.length) (o4 : ∀ z ∈ pass, z.sat < sats.length ∧ z.sta < stas.length) :
    linesW ⟨40, sats, stas, recs, pass⟩ = [wHor 40] ++ sats.map wSat ++ stas.map wSta ++ recs.map gR ++ pass.map gP := by
  have eS : ∀ i, i < sats.length → satN ⟨40, sats, stas, recs, pass⟩ i = nameC cS (i : Nat) := fun i hi => by
    have h := m1.at (i := i) (by rw [List.length_map]; exact hi)
    show ((sats.map (·.name))[i]?).getD Str.empty = _
    rw [h]
    rfl
  have eT : ∀ i, i < stas.length → staN ⟨40, sats, stas, recs, pass⟩ i = nameC cT (i : Nat) := fun i hi => by
    have h := m2.at (i := i) (by rw [List.length_map]; exact hi)
    show ((stas.map (·.name))[i]?).getD Str.empty = _
    rw [h]
    rfl
  have h3 : recs.map (wRec ⟨40, sats, stas, recs, pass⟩) = recs.map gR := List.map_congr_left fun r hr => by
    show wRecN (satN _ r.sat) r = wRecN (nameC cS (r.sat : Nat)) r
    rw [eS _ (o3 r hr)]
  have h4 : pass.map (wPas ⟨40, sats, stas, recs, pass⟩) = pass.map gP := List.map_congr_left fun r hr => by
    show wPasN (satN _ r.sat) (staN _ r.sta) r = wPasN (nameC cS (r.sat : Nat)) (nameC cT (r.sta : Nat)) r
    rw [eS _ (o4 r hr).1, eT _ (o4 r hr).2]
  show wHor 40 :: (sats.map wSat ++ stas.map wSta ++ recs.map (wRec _) ++ pass.map (wPas _)) = _
  rw [h3, h4]
  rfl
section
variable {P : Program} {w : World} {K : PySem.W.Frag} {mg : Str → Option Value} {base : Heap}
def spTextC (K : PySem.W.Frag) : Sp := fun vs H Q _ => ∃ (a : Addr) (ns : List Int) (R N : Nat), vs = [.ref a, .int (R : Int), .int (N : Int)] ∧ SqL K H a (ns.map V.int) ∧ (1 ≤ R ∧ R ≤ 5) ∧ (1 ≤ N ∧ N ≤ 4) ∧ ∀ (W : WorldD) (H' : Hp), Same H H' → CG W → W.recs.length = R → W.pass.length = N → Q (.str (textW W)) H'
set_option maxHeartbeats 16000000 in
theorem d_textC (B : Bt mg) (D_law_cell : DefOk P w K mg base CX0 1 "_law_cell" ["script", "k"] (spCell K)) (D_law_draws : DefOk P w K mg base CX0 1 "_law_draws" ["cell", "count"] spDrawsC) (D_law_satellite : DefOk P w K mg base CX0 2 "_law_satellite" ["cell", "k"] spSatC)
    (D_law_recording : DefOk P w K mg base CX0 2 "_law_recording" ["cell", "k", "satellites"] spRecC) (D_law_pass : DefOk P w K mg base CX0 2 "_law_pass" ["cell", "k", "satellites", "stations"] spPasC)
    (A : At K mg "_law_text" s__law_text ["script", "recordings", "passes"]) : DefOk P w K mg base CX0 3 "_law_text" ["script", "recordings", "passes"] (spTextC K) := by
  refine A.ok sc__law_text (fun vs H Q E h => ?_) (fun f cdv A outer s H vs Q E hr h => ?_)
  · obtain ⟨a, ns, R, N, rfl, _⟩ := h
    rfl
  obtain ⟨a, ns, R, N, rfl, hS, hR, hN, q⟩ := h
  refine ⟨_, pss_cons (ps_set (i := 3) sc__law_text.nd rfl (Or.inl rfl) (pe_op op_add pe_int (pe_op op_mod (pe_callTy (call_int1) (by rfl) B.int (by decide +kernel) (pa_cons (pe_f D_law_cell (hr.mono (by omega)) pass0 (pa_cons (pv 0) (pa_cons pe_int pa_nil))) pa_nil)) pe_int)))
  (pss_cons (ps_set (i := 4) sc__law_text.nd rfl (Or.inl rfl) (pe_op op_add pe_int (pe_op op_mod (pe_op op_fdiv (pe_callTy (call_int1) (by rfl) B.int (by decide +kernel) (pa_cons (pe_f D_law_cell (hr.mono (by omega)) pass0 (pa_cons (pv 0) (pa_cons pe_int pa_nil))) pa_nil)) pe_int) pe_int)))
  (pss_cons (ps_set (i := 5) sc__law_text.nd rfl (Or.inl rfl) pe_str)
  (pss_cons (ps_for PassesOwn.never rfl (pi_range1 (by rfl) B.range (pa_cons (pv 3) pa_nil)) (pg_name (i := 6) sc__law_text.nd rfl (Or.inl rfl))
      (pss_one (ps_set (i := 5) sc__law_text.nd rfl (Or.inl rfl) (pe_op op_add_str (pv 5) (pe_f D_law_satellite (hr.mono (by omega)) pass0 (pa_cons (pe_f D_law_cell (hr.mono (by omega)) pass0 (pa_cons (pv 0) (pa_cons (pe_op op_add pe_int (pv 6)) pa_nil))) (pa_cons (pv 6) pa_nil)))))))
  (pss_cons (ps_for PassesOwn.never rfl (pi_range1 (by rfl) B.range (pa_cons (pv 4) pa_nil)) (pg_name (i := 6) sc__law_text.nd rfl (Or.inl rfl))
      (pss_cons (ps_set (i := 7) sc__law_text.nd rfl (Or.inl rfl) (pe_f D_law_draws (hr.mono (by omega)) pass0 (pa_cons (pe_f D_law_cell (hr.mono (by omega)) pass0 (pa_cons (pv 0) (pa_cons (pe_op op_add pe_int (pv 6)) pa_nil))) (pa_cons pe_int pa_nil))))
      (pss_one (ps_set (i := 5) sc__law_text.nd rfl (Or.inl rfl) (pe_op op_add_str (pe_op op_add_str (pe_op op_add_str (pe_op op_add_str (pe_op op_add_str (pe_op op_add_str (pe_op op_add_str (pv 5) pe_str) (pe_callTy (call_str_int) (by rfl) B.str (by decide +kernel) (pa_cons (pv 6) pa_nil))) pe_str) (pe_callTy (call_str_int) (by rfl) B.str (by decide +kernel) (pa_cons (pe_op op_add pe_int (pe_op op_mod (pe_ix ix_list (pv 7) pe_int (fun _ _ => rfl)) pe_int)) pa_nil))) pe_str) (pe_callTy (call_str_int) (by rfl) B.str (by decide +kernel) (pa_cons (pe_op op_mod (pe_ix ix_list (pv 7) pe_int (fun _ _ => rfl)) pe_int) pa_nil))) pe_str)))))
  (pss_cons (ps_for PassesOwn.never rfl (pi_range1 (by rfl) B.range (pa_cons (pv 1) pa_nil)) (pg_name (i := 6) sc__law_text.nd rfl (Or.inl rfl))
      (pss_one (ps_set (i := 5) sc__law_text.nd rfl (Or.inl rfl) (pe_op op_add_str (pv 5) (pe_f D_law_recording (hr.mono (by omega)) pass0 (pa_cons (pe_f D_law_cell (hr.mono (by omega)) pass0 (pa_cons (pv 0) (pa_cons (pe_op op_add pe_int (pv 6)) pa_nil))) (pa_cons (pv 6) (pa_cons (pv 3) pa_nil))))))))
  (pss_cons (ps_for PassesOwn.never rfl (pi_range1 (by rfl) B.range (pa_cons (pv 2) pa_nil)) (pg_name (i := 6) sc__law_text.nd rfl (Or.inl rfl))
      (pss_one (ps_set (i := 5) sc__law_text.nd rfl (Or.inl rfl) (pe_op op_add_str (pv 5) (pe_f D_law_pass (hr.mono (by omega)) pass0 (pa_cons (pe_f D_law_cell (hr.mono (by omega)) pass0 (pa_cons (pv 0) (pa_cons (pe_op op_add pe_int (pv 6)) pa_nil))) (pa_cons (pv 6) (pa_cons (pv 3) (pa_cons (pv 4) pa_nil)))))))))
  (pss_one (ps_ret (pv 5)))))))))
    , ?_⟩
  refine ⟨_, rfl, a, ns, 0, rfl, hS, by omega, fun u => .inl ⟨_, rfl, _, _, rfl, rfl, (by show (0 : Int) < _; decide), _, _, rfl, rfl, ?_⟩⟩
  refine ⟨_, rfl, a, ns, 0, rfl, hS, by omega, fun u2 => .inl ⟨_, rfl, _, _, rfl, rfl, ⟨by decide, by decide⟩, _, _, rfl, rfl, (by show (0 : Int) < _; decide), _, _, rfl, rfl, ?_⟩⟩
  obtain ⟨S, eS⟩ : ∃ S : Nat, 1 + u % 2 = (S : Int) := ⟨(1 + u % 2).toNat, by omega⟩
  obtain ⟨T, eT⟩ : ∃ T : Nat, 1 + u2 / 2 % 2 = (T : Int) := ⟨(1 + u2 / 2 % 2).toNat, by omega⟩
  have bS : 1 ≤ S ∧ S ≤ 2 := by omega
  have bT : 1 ≤ T ∧ T ≤ 2 := by omega
  refine ⟨_, rfl, _, rfl, by omega, by omega, for_range (lo := 0) (n := (1 + u % 2).toNat) (fun i σ H' => ∃ (sats : List SatD) (y6 y7 : Option V), σ = [some (.ref a), some (.int (R : Int)), some (.int (N : Int)), some (.int (1 + u % 2)), some (.int (1 + u2 / 2 % 2)), some (.str (glue (([wHor 40] ++ sats.map wSat).map row))), y6, y7] ∧ sats.length = i ∧
    RowsI ([wHor 40] ++ sats.map wSat) (1 + i) ∧ (∀ z ∈ sats, SatOk 40 z) ∧ Nam cS (sats.map (·.name)) ∧ Same H H') ⟨[], none, none, by rw [text40]; rfl, rfl, ⟨rfl, fun l hl => by rw [List.mem_singleton.mp hl]; exact hor_short⟩, fun z hz => (nomatch hz), Nam.nil _, Same.refl _⟩ (fun i σ H1 hi hI => ?_) (fun σ H1 hI => ?_)⟩
  · obtain ⟨sats, y6, y7, rfl, hl, hr1, ho, hm, hs⟩ := hI
    refine ⟨_, rfl, _, rfl, _, rfl, _, _, rfl, rfl, a, ns, 1 + (0 + (i : Int)), rfl, hs.seq hS, by omega, fun c => ⟨_, rfl, c, i, by rw [Int.zero_add]; rfl, by omega, fun z H2 s2 zok zn => ?_⟩⟩
    have sh := sat_short zok
    refine ⟨_, _, rfl, rfl, hr1.fits (by omega) sh, ?_⟩
    refine ⟨sats ++ [z], some (.int (0 + (i : Int))), y7, ?_, by rw [List.length_append, hl]; rfl, ?_, fun x hx => (List.mem_append.mp hx).elim (ho x) fun e => by rw [List.mem_singleton.mp e]; exact zok, ?_, hs.trans s2⟩
    · show _ = ([some (.ref a), some (.int (R : Int)), some (.int (N : Int)), some (.int (1 + u % 2)), some (.int (1 + u2 / 2 % 2)), some (.str (glue (([wHor 40] ++ (sats ++ [z]).map wSat).map row))), _, _] : L2.St)
      rw [List.map_append (f := wSat), ← List.append_assoc, show [z].map wSat = [wSat z] from rfl, ← glue_add]
      rfl
    · rw [List.map_append, ← List.append_assoc]
      exact hr1.snoc sh
    · rw [List.map_append]
      exact nam_step hm (by rw [List.length_map, hl]) zn
  obtain ⟨sats, y6, y7, rfl, hl1, hr1, ho1, hm1, hs1⟩ := hI
  have l1 : sats.length = S := by omega
  refine ⟨_, rfl, _, rfl, by omega, by omega, for_range (lo := 0) (n := (1 + u2 / 2 % 2).toNat) (fun i σ H' => ∃ (stas : List StaD) (y6 y7 : Option V), σ = [some (.ref a), some (.int (R : Int)), some (.int (N : Int)), some (.int (1 + u % 2)), some (.int (1 + u2 / 2 % 2)), some (.str (glue (([wHor 40] ++ sats.map wSat ++ stas.map wSta).map row))), y6, y7] ∧ stas.length = i ∧
    RowsI ([wHor 40] ++ sats.map wSat ++ stas.map wSta) (1 + S + i) ∧ (∀ z ∈ stas, StaOk z) ∧ Nam cT (stas.map (·.name)) ∧ Same H H') ⟨[], _, _, by rw [show (([] : List StaD).map wSta) = [] from rfl, List.append_nil] <;> rfl, rfl, by rw [show (([] : List StaD).map wSta) = [] from rfl, List.append_nil]; have := hr1.len; exact ⟨by rw [this]; omega, hr1.short⟩, fun z hz => (nomatch hz), Nam.nil _, hs1⟩ (fun i σ H2 hi hI => ?_) (fun σ H2 hI => ?_)⟩
  · obtain ⟨stas, y6, y7, rfl, hl, hr2, ho, hm, hs⟩ := hI
    refine ⟨_, rfl, _, rfl, _, _, rfl, rfl, a, ns, 3 + (0 + (i : Int)), rfl, hs.seq hS, by omega, fun c => ⟨c, 2, rfl, by decide, fun p ds H3 s3 np hl3 hp => ?_⟩⟩
    obtain ⟨d0, d1, rfl⟩ := two_ hl3
    have e1 := tos_len (n := 0 + (i : Int)) (by omega) (by omega)
    have e2 := tos_len (n := 1 + d0 % 2) (by omega) (by omega)
    have e3 := tos_len (n := d1 % 4) (by omega) (by omega)
    have gl := hr2.glue (by omega)
    have nm := nameT_ok (k := i) (by omega)
    have ex : Int.ofNat i = 0 + (i : Int) := by rw [Int.zero_add]; rfl
    have zok : StaOk ⟨nameC cT (i : Int), 1 + d0 % 2, d1 % 4⟩ := ⟨nm, by constructor <;> (dsimp only; omega), by constructor <;> (dsimp only; omega)⟩
    have sh : (row (wSta ⟨nameC cT (i : Int), 1 + d0 % 2, d1 % 4⟩)).length ≤ 1700 := short_of (wSta_wd zok) (by show 6 ≤ 100; decide)
    refine ⟨_, rfl, _, _, rfl, rfl, big (by rw [lit_len, ll24]; omega), _, rfl, _, rfl, log_ok (by omega) (by omega), _, _, rfl, rfl, big (by simp only [len_app, lit_len, ll0, ll1, ll2, ll3, ll4, ll5, ll6, ll7, ll8, ll9, ll10, ll11, ll12, ll13, ll14, ll15, ll16, ll17, ll18, ll19, ll20, ll21, ll22, ll23, ll24, ll25, ll26]; omega), _, _, rfl, rfl, big (by simp only [len_app, lit_len, ll0, ll1, ll2, ll3, ll4, ll5, ll6, ll7, ll8, ll9, ll10, ll11, ll12, ll13, ll14, ll15, ll16, ll17, ll18, ll19, ll20, ll21, ll22, ll23, ll24, ll25, ll26]; omega), _, rfl, _, _, _, _, rfl, rfl, SqL.of hp, rfl, _, _, rfl, rfl, (by show (0 : Int) < _; decide), _, _, rfl, rfl, _, rfl, log_ok (by omega) (by omega), _, _, rfl, rfl, big (by simp only [len_app, lit_len, ll0, ll1, ll2, ll3, ll4, ll5, ll6, ll7, ll8, ll9, ll10, ll11, ll12, ll13, ll14, ll15, ll16, ll17, ll18, ll19, ll20, ll21, ll22, ll23, ll24, ll25, ll26]; omega), _, _, rfl, rfl, big (by simp only [len_app, lit_len, ll0, ll1, ll2, ll3, ll4, ll5, ll6, ll7, ll8, ll9, ll10, ll11, ll12, ll13, ll14, ll15, ll16, ll17, ll18, ll19, ll20, ll21, ll22, ll23, ll24, ll25, ll26]; omega), _, rfl, _, _, _, _, rfl, rfl, SqL.of hp, rfl, _, _, rfl, rfl, (by show (0 : Int) < _; decide), _, rfl, log_ok (by omega) (by omega), _, _, rfl, rfl, big (by simp only [len_app, lit_len, ll0, ll1, ll2, ll3, ll4, ll5, ll6, ll7, ll8, ll9, ll10, ll11, ll12, ll13, ll14, ll15, ll16, ll17, ll18, ll19, ll20, ll21, ll22, ll23, ll24, ll25, ll26]; omega), _, _, rfl, rfl, big (by simp only [len_app, lit_len, ll0, ll1, ll2, ll3, ll4, ll5, ll6, ll7, ll8, ll9, ll10, ll11, ll12, ll13, ll14, ll15, ll16, ll17, ll18, ll19, ll20, ll21, ll22, ll23, ll24, ll25, ll26]; omega), ?_⟩
    refine ⟨stas ++ [⟨nameC cT (i : Int), 1 + d0 % 2, d1 % 4⟩], some (.int (0 + (i : Int))), some (.ref p), ?_, by rw [List.length_append, hl]; rfl, ?_, fun x hx => (List.mem_append.mp hx).elim (ho x) fun e => by rw [List.mem_singleton.mp e]; exact zok, ?_, hs.trans s3⟩
    · have e := glue_staC ([wHor 40] ++ sats.map wSat ++ stas.map wSta) (0 + (i : Int)) (1 + d0 % 2) (d1 % 4)
      have e' : glue (([wHor 40] ++ sats.map wSat ++ stas.map wSta ++ [wSta ⟨nameC cT (i : Int), 1 + d0 % 2, d1 % 4⟩]).map row) = glue (([wHor 40] ++ sats.map wSat ++ stas.map wSta).map row) ++ Str.ofString "station t" ++ num (0 + (i : Int)) ++ Str.ofString " antennas " ++ num (1 + d0 % 2) ++ Str.ofString " turn " ++ num (d1 % 4) ++ Str.ofString "\n" := by
        rw [e, Int.zero_add]
      show _ = ([some (.ref a), some (.int (R : Int)), some (.int (N : Int)), some (.int (1 + u % 2)), some (.int (1 + u2 / 2 % 2)), some (.str (glue (([wHor 40] ++ sats.map wSat ++ (stas ++ [(⟨nameC cT (i : Int), 1 + d0 % 2, d1 % 4⟩ : StaD)]).map wSta).map row))), _, _] : L2.St)
      rw [List.map_append (f := wSta), ← List.append_assoc, show [(⟨nameC cT (i : Int), 1 + d0 % 2, d1 % 4⟩ : StaD)].map wSta = [wSta ⟨nameC cT (i : Int), 1 + d0 % 2, d1 % 4⟩] from rfl, e']
      rfl
    · rw [List.map_append, ← List.append_assoc]
      exact hr2.snoc sh
    · rw [List.map_append]
      exact nam_step hm (by rw [List.length_map, hl]) rfl
  obtain ⟨stas, y6, y7, rfl, hl2, hr2, ho2, hm2, hs2⟩ := hI
  have l2 : stas.length = T := by omega
  refine ⟨_, rfl, _, rfl, by omega, by omega, for_range (lo := 0) (n := ((R : Nat) : Int).toNat) (fun i σ H' => ∃ (recs : List RecD) (y6 y7 : Option V), σ = [some (.ref a), some (.int (R : Int)), some (.int (N : Int)), some (.int (1 + u % 2)), some (.int (1 + u2 / 2 % 2)), some (.str (glue (([wHor 40] ++ sats.map wSat ++ stas.map wSta ++ recs.map gR).map row))), y6, y7] ∧ recs.length = i ∧
    RowsI ([wHor 40] ++ sats.map wSat ++ stas.map wSta ++ recs.map gR) (1 + S + T + i) ∧ (∀ z ∈ recs, RecC S z ∧ NameOk z.name) ∧ Nam cR (recs.map (·.name)) ∧ Same H H') ⟨[], _, _, by rw [show (([] : List RecD).map gR) = [] from rfl, List.append_nil] <;> rfl, rfl, by rw [show (([] : List RecD).map gR) = [] from rfl, List.append_nil]; have := hr2.len; exact ⟨by rw [this]; omega, hr2.short⟩, fun z hz => (nomatch hz), Nam.nil _, hs2⟩ (fun i σ H2 hi hI => ?_) (fun σ H3 hI => ?_)⟩
  · obtain ⟨recs, y6, y7, rfl, hl, hr3, ho, hm, hs⟩ := hI
    refine ⟨_, rfl, _, rfl, _, rfl, _, _, rfl, rfl, a, ns, 5 + (0 + (i : Int)), rfl, hs.seq hS, by omega, fun c => ⟨_, rfl, _, rfl, c, i, S, by rw [Int.zero_add, eS]; rfl, by omega, by omega, by omega, fun z H3 s3 zok zn => ?_⟩⟩
    have zn' : NameOk z.name := by rw [zn]; exact nameR_ok (by omega)
    have sh : (row (gR z)).length ≤ 1700 := short_of (wRecN_wd (nameS_ok (by have := zok.sat; omega)) zn' zok) (by show 20 ≤ 100; decide)
    refine ⟨_, _, rfl, rfl, hr3.fits (by omega) sh, ?_⟩
    refine ⟨recs ++ [z], some (.int (0 + (i : Int))), y7, ?_, by rw [List.length_append, hl]; rfl, ?_, fun x hx => (List.mem_append.mp hx).elim (ho x) fun e => by rw [List.mem_singleton.mp e]; exact ⟨zok, zn'⟩, ?_, hs.trans s3⟩
    · show _ = ([some (.ref a), some (.int (R : Int)), some (.int (N : Int)), some (.int (1 + u % 2)), some (.int (1 + u2 / 2 % 2)), some (.str (glue (([wHor 40] ++ sats.map wSat ++ stas.map wSta ++ (recs ++ [z]).map gR).map row))), _, _] : L2.St)
      rw [List.map_append (f := gR), ← List.append_assoc, show [z].map gR = [gR z] from rfl, ← glue_add]
      rfl
    · rw [List.map_append, ← List.append_assoc]
      exact hr3.snoc sh
    · rw [List.map_append]
      exact nam_step hm (by rw [List.length_map, hl]) zn
  obtain ⟨recs, y6, y7, rfl, hl3, hr3, ho3, hm3, hs3⟩ := hI
  have l3 : recs.length = R := by omega
  refine ⟨_, rfl, _, rfl, by omega, by omega, for_range (lo := 0) (n := ((N : Nat) : Int).toNat) (fun i σ H' => ∃ (pass : List PasD) (y6 y7 : Option V), σ = [some (.ref a), some (.int (R : Int)), some (.int (N : Int)), some (.int (1 + u % 2)), some (.int (1 + u2 / 2 % 2)), some (.str (glue (([wHor 40] ++ sats.map wSat ++ stas.map wSta ++ recs.map gR ++ pass.map gP).map row))), y6, y7] ∧ pass.length = i ∧
    RowsI ([wHor 40] ++ sats.map wSat ++ stas.map wSta ++ recs.map gR ++ pass.map gP) (1 + S + T + R + i) ∧ (∀ z ∈ pass, PasC S T z ∧ NameOk z.name) ∧ Nam cP (pass.map (·.name)) ∧ Same H H') ⟨[], _, _, by rw [show (([] : List PasD).map gP) = [] from rfl, List.append_nil] <;> rfl, rfl, by rw [show (([] : List PasD).map gP) = [] from rfl, List.append_nil]; have := hr3.len; exact ⟨by rw [this]; omega, hr3.short⟩, fun z hz => (nomatch hz), Nam.nil _, hs3⟩ (fun i σ H2 hi hI => ?_) (fun σ H4 hI => ?_)⟩
  · obtain ⟨pass, y6, y7, rfl, hl, hr4, ho, hm, hs⟩ := hI
    refine ⟨_, rfl, _, rfl, _, rfl, _, _, rfl, rfl, a, ns, 11 + (0 + (i : Int)), rfl, hs.seq hS, by omega, fun c => ⟨_, rfl, _, rfl, _, rfl, c, i, S, T, by rw [Int.zero_add, eS, eT]; rfl, by omega, by omega, by omega, by omega, by omega, fun z H3 s3 zok zn => ?_⟩⟩
    have zn' : NameOk z.name := by rw [zn]; exact nameP_ok (by omega)
    have sh : (row (gP z)).length ≤ 1700 := short_of (wPasN_wd (nameS_ok (by have := zok.sat; omega)) (nameT_ok (by have := zok.sta; omega)) zn' zok) (by show 16 ≤ 100; decide)
    refine ⟨_, _, rfl, rfl, hr4.fits (by omega) sh, ?_⟩
    refine ⟨pass ++ [z], some (.int (0 + (i : Int))), y7, ?_, by rw [List.length_append, hl]; rfl, ?_, fun x hx => (List.mem_append.mp hx).elim (ho x) fun e => by rw [List.mem_singleton.mp e]; exact ⟨zok, zn'⟩, ?_, hs.trans s3⟩
    · show _ = ([some (.ref a), some (.int (R : Int)), some (.int (N : Int)), some (.int (1 + u % 2)), some (.int (1 + u2 / 2 % 2)), some (.str (glue (([wHor 40] ++ sats.map wSat ++ stas.map wSta ++ recs.map gR ++ (pass ++ [z]).map gP).map row))), _, _] : L2.St)
      rw [List.map_append (f := gP), ← List.append_assoc, show [z].map gP = [gP z] from rfl, ← glue_add]
      rfl
    · rw [List.map_append, ← List.append_assoc]
      exact hr4.snoc sh
    · rw [List.map_append]
      exact nam_step hm (by rw [List.length_map, hl]) zn
  obtain ⟨pass, y6, y7, rfl, hl4, hr4, ho4, hm4, hs4⟩ := hI
  have l4 : pass.length = N := by omega
  have cg := worldC_ok (sats := sats) (stas := stas) (recs := recs) (pass := pass) (by omega) (by omega) (by omega) (by omega) ho1 hm1 ho2 hm2 (by rw [l1]; exact ho3) hm3 (by rw [l1, l2]; exact ho4) hm4
  have g := q ⟨40, sats, stas, recs, pass⟩ H4 hs4 cg l3 l4
  refine ⟨_, rfl, ?_⟩
  unfold textW at g
  rw [linesC hm1 hm2 (fun z hz => (cg.rcs z hz).sat) (fun z hz => ⟨(cg.pss z hz).sat, (cg.pss z hz).sta⟩)] at g
  exact g
end
end DP
/-! enumerate over a tuple -/
namespace DP
open PySem PySem.Spec PyProof.Rows L2
/-- the tuple at a, each item in a new pair with its place -/
def IteT (K : PySem.W.Frag) (a : Addr) (k : Int) : It :=
  ⟨fun i H => ∃ (xs : List V) (x : V), SqT K H a xs ∧ xs[i]? = some x,
   fun i H v H' => ∃ T x, v = .ref T ∧ H T = none ∧ H' = upd H T (.tup [.int (k + (i : Nat)), x]) ∧ ∀ xs, SqT K H a xs → xs[i]? = some x,
   fun i H => ∃ xs : List V, SqT K H a xs ∧ xs.length ≤ i⟩
theorem tup_not_iter {h : Heap} {a it : Addr} {its : Array Value} {i : Nat} (l : h.IsTuple a its) (r : h.IsTupleIter it a i) : a ≠ it := fun z => by
  obtain ⟨o, ho, hc, _⟩ := l
  obtain ⟨o', ho', hc', _⟩ := r
  rw [z, ho'] at ho
  cases ho
  rw [hc] at hc'
  exact absurd hc' (by decide)
theorem turn_enumT {P : Program} {w : World} {K : PySem.W.Frag} {elts : List Expr} {kk : Nat} {tpos : Pos} (a en it : Addr) (k : Int) :
    Turn P w K (.Tuple elts kk tpos) (IteT K a k) [en, it] en (fun i h => (∃ old, IsEnum h en it (k + ((i : Nat) : Int)) old) ∧ h.IsTupleIter it a i ∧ en ≠ it) where
  mem := by simp
  obj := fun i h st b hb => by
    obtain ⟨⟨old, hen⟩, ⟨o, ho, hc, hd⟩, _⟩ := st
    have two : b = en ∨ b = it := by simpa using hb
    rcases two with z | z
    · subst z
      exact ⟨_, hen, fun v q => nomatch q⟩
    · subst z
      exact ⟨o, ho, fun v q => by rw [hd] at q; cases q⟩
  keep := fun i h h' st kp => by
    obtain ⟨⟨old, hen⟩, hi, hne⟩ := st
    exact ⟨⟨old, kp en (by simp) _ hen⟩, hi.at fun o q => kp it (by simp) o q, hne⟩
  item := by
    intro X hP hw hK hc i pins s σ H E I hf st hg
    subst hP hw hK
    obtain ⟨⟨old, hen⟩, hit, hne⟩ := st
    obtain ⟨xs, x, hq, hx⟩ := hg
    obtain ⟨its, rv, p0, hz⟩ := I.tuple hq
    have pl : s.heap.IsTuple a its.toArray := p0
    obtain ⟨u, hu, ru⟩ := rv.get hx
    have en_lt : en < s.heap.objs.size := Heap.lt_size hen
    have it_lt : it < s.heap.objs.size := by
      obtain ⟨_, q, _⟩ := hit
      exact Heap.lt_size q
    have nel := tup_not_iter pl hit
    have Dr := Draws.tuple (prog := X.prog) (w := X.w) (A := X.A.in1) (I.ok.hd hc) it a nel its.toArray
    have hi : i < its.toArray.size := by
      have := (List.getElem?_eq_some_iff.mp hu).1
      simpa using this
    by_cases ea : en = a
    · exfalso
      obtain ⟨o, ho, hc', _⟩ := pl
      rw [← ea, hen] at ho
      cases ho
      have e : Value.type "enumerate" = Value.type "tuple" := hc'
      exact absurd e (by decide)
    refine wpAny_pyNext_enum_itemC Dr hen ⟨hit, pl⟩ hi hne (by simp [hne, ea]) fun x' h' tk hP ho hit' hT hsz hk => ?_
    have ex : x' = u := by
      have e1 : its.toArray[i]? = some x' := hP
      have e2 : its.toArray[i]? = some u := by simpa using hu
      exact Option.some.inj (e1.symm.trans e2)
    subst ex
    refine ⟨_, rfl, wpAny_letOwnedTupleGo_enum (s := { s with heap := h', toks := tk + 1 }) ho fun h2 hen2 sb => ?_⟩
    have hT2 : h2.get? s.heap.objs.size = some { cls := .type "tuple", data := .seq #[.int (k + (i : Int)) tk, x'] } :=
      (sb.2 _ (Nat.ne_of_gt en_lt)).trans hT
    have fresh : H s.heap.objs.size = none := I.hok.fresh (Nat.le_refl _)
    have new : ObjOk X.prog X.w (upd H s.heap.objs.size (.tup [.int (k + (i : Nat)), x])) h2 s.heap.objs.size (.tup [.int (k + (i : Nat)), x]) :=
      ⟨(by show 2 ≤ sizeLine; decide), [.int (k + (i : Int)) tk, x'], .cons ⟨_, rfl⟩ (.cons ru .nil), ⟨_, hT2, rfl, _, rfl⟩⟩
    have keepAll : ∀ b ob, b ∉ [en, it] → s.heap.get? b = some ob → h2.get? b = some ob := fun b ob hb q => by
      have n1 : b ≠ en := fun z => hb (by simp [z])
      have n2 : b ≠ it := fun z => hb (by simp [z])
      exact (sb.2 b n1).trans (hk b ob n1 n2 q)
    have I1 := I.turnedNew (t' := tk + 1) (ch := [en, it]) keepAll hf (Nat.le_refl _) new
    refine ⟨.ref s.heap.objs.size, _, I1, rfl, ⟨_, x, rfl, fresh, rfl, fun ys hy => ?_⟩, ⟨⟨x', ?_⟩, ?_, hne⟩, fun b hb => ?_⟩
    · rw [I.tuple_inj hy hq]
      exact hx
    · have e1 : k + ((i + 1 : Nat) : Int) = k + (i : Int) + 1 := by omega
      rw [e1]
      exact hen2
    · exact hit'.1.at fun o q => (sb.2 it (Ne.symm hne)).trans q
    · have hb' : b < s.heap.objs.size := by
        have two : b = en ∨ b = it := by simpa using hb
        rcases two with z | z
        · rw [z]; exact en_lt
        · rw [z]; exact it_lt
      rw [upd_ne (Nat.ne_of_lt hb')]
      exact (hf b hb).1
  done := by
    intro X hP hw hK hc i pins s σ H E I hf st hg
    subst hP hw hK
    obtain ⟨⟨old, hen⟩, hit, hne⟩ := st
    obtain ⟨xs, hq, hx⟩ := hg
    obtain ⟨its, rv, p0, hz⟩ := I.tuple hq
    have pl : s.heap.IsTuple a its.toArray := p0
    have hl := rv.length
    obtain ⟨f0, f1, f2, f3, f4, f5⟩ := hf it (by simp)
    have hT : s.TypeIs (.ref en) "enumerate" := ⟨_, hen, rfl⟩
    unfold pyNext
    refine wpAny_bind (wpAny_attempt (wpAny_callSpecial?_slot (name := Str.ofString "__next__") hT F.slot_enumerate_next
      (wpAny_call_entry F.slot_enumerate_next hT F.entry_enumerate_next ?_
        (F.args_enumerate_next_1 _))))
    show wpAny _ _ (field (.ref en) 2 >>= _) _ _ _
    refine wpAny_bind (wpAny_field hen rfl (x := .ref it) rfl ?_)
    refine wpAny_bind (wpAny_nextOf_tuple_end (I.ok.hd hc) hit pl (by simp; omega) fun h' e eb hcl => ?_)
    obtain ⟨o, ho, hcs⟩ := hcl
    refine wpAny_bind (wpAny_isInstance (T := "StopIteration") (b := true) ⟨o, ho, hcs⟩ isSubtype_stop ?_)
    exact wpAny_pure ⟨rfl, I.turned (t' := s.toks) (fun b o hb q => eb b o hb q) f0 f1 f3 f4 f5⟩
  self := fun A i s Q E st h => let ⟨⟨_, hen⟩, _⟩ := st; wpAny_pyIter_enum hen h
theorem meets_enum1 {v : Value} {o : Obj} {H : Heap → Prop} (B : Begins v o H) :
    Meets (Builtin.«enumerate.__new__» ⟨[.type "enumerate", v], []⟩) (fun _ R s => H s.heap ∧
      R (.ok (.ret (.ref (s.heap.push o).objs.size))) { s with heap := (s.heap.push o).push { cls := .type "enumerate", data := .fields #[.none, .bool false, .ref s.heap.objs.size, rawInt 0, .none, .none] } }) :=
  .of_wp fun prog w A R s h => by
    obtain ⟨hp, g, d, tk, os⟩ := s
    obtain ⟨h1, h⟩ := h
    have hsub := sub_enumerate
    have q1 : ∀ {A' : Around} {E : Value → Shared → Prop} {Q : Value → Shared → Prop}, Q (.ref hp.objs.size) ⟨hp.push o, g, d, tk, os⟩ → wpAny (model prog w) A' (pyIter v) Q E ⟨hp, g, d, tk, os⟩ :=
      fun q => B.iter prog w _ _ ⟨hp, g, d, tk, os⟩ _ h1 q
    wp_walk using q1
    refine wpAny_stack_any fun st => wpAny_pure ?_
    split
    · rename_i c _ _ _ _ _
      cases (c == Value.type "enumerate")
      · wp_walk using q1
        exact ⟨_, rfl, h⟩
      · wp_walk using q1
        exact ⟨_, rfl, h⟩
    · wp_walk using q1
      exact ⟨_, rfl, h⟩
theorem enum_begins1 {prog : Program} {w : World} {A : Around} {E : Value → Shared → Prop} {s : Shared} {v : Value} {o : Obj} {H : Heap → Prop} {Q : Value → Shared → Prop} (B : Begins v o H) (h1 : H s.heap)
    (h : ∀ h', IsEnum h' (s.heap.objs.size + 1) s.heap.objs.size 0 .none → h'.get? s.heap.objs.size = some o → (∀ b o, s.heap.get? b = some o → h'.get? b = some o) → Q (.ref (s.heap.objs.size + 1)) { s with heap := h' }) :
    wpAny (model prog w) A (call (.type "enumerate") [v]) Q E s := by
  refine callType_new F.called_enumerate (by decide) (F.typeCall_enumerate_1 _) (F.newCall_enumerate_1 _) (fun obj => F.args_object_init_2 obj _) F.entry_enumerate_new (meets_enum1 B) ⟨h1, ?_⟩
  have hz : (s.heap.push o).objs.size = s.heap.objs.size + 1 := Heap.size_push ..
  show _ ∧ _
  rw [hz]
  have hen : IsEnum ((s.heap.push o).push { cls := .type "enumerate", data := .fields #[.none, .bool false, .ref s.heap.objs.size, rawInt 0, .none, .none] }) (s.heap.objs.size + 1) s.heap.objs.size 0 .none := by
    have z := Heap.get?_push_size (s.heap.push o) (o := { cls := .type "enumerate", data := .fields #[.none, .bool false, .ref s.heap.objs.size, rawInt 0, .none, .none] }) rfl
    rw [hz] at z
    exact z
  exact ⟨⟨_, hen, rfl⟩, h _ hen (Heap.get?_push_of_some _ (Heap.get?_push_size _ B.free)) fun b o x => Heap.get?_push_of_some _ (Heap.get?_push_of_some _ x)⟩
def iEnumT (K : PySem.W.Frag) (ta : TA) : TI := fun σ H R => ta σ H fun vs H1 => ∃ a xs, vs = [.ref a] ∧ SqT K H1 a xs ∧ R (IteT K a 0) H1
theorem pi_enumT {X : Cx} {e : Expr} {ta : TA} {p pos tpos : Pos} {elts : List Expr} {kk : Nat} (hg : Gl X "enumerate") (hm : X.mg "enumerate" = none) (ha : PA X [e] ta) (hs : starEach [e] X.env = [(false, eval e X.env)] := by rfl) :
    PI X (.Tuple elts kk tpos) (.Call (.Name "enumerate" p) [e] [] pos) (iEnumT X.K ta) := by
  refine ⟨fun pins s σ H R I h => ?_⟩
  refine Call_ (ld_blt I hg hm boot_enumerate (PyProof.Rows.callWith_type1 (thn (ha.run pos pins s σ H _ I h) fun us s1 ⟨vs, H1, I1, r1, q1⟩ => ?_) hs rfl))
  obtain ⟨a, xs, ex, hq, q⟩ := q1
  subst ex
  obtain ⟨u, eu, ru⟩ := vals1 r1
  subst eu
  cases ru
  obtain ⟨its, rv, p0, hz⟩ := I1.tuple hq
  have pl : s1.heap.IsTuple a its.toArray := p0
  refine enum_begins1 (begins_tuple a its.toArray) pl fun h' hen hit hkp => wpAny_pyIter_enum hen ?_
  have I3 : Inv X pins σ H1 { s1 with heap := h' } := I1.kept (t' := s1.toks) hkp
  refine ⟨s1.heap.objs.size + 1, [s1.heap.objs.size + 1, s1.heap.objs.size], _, _, H1, rfl, I3, turn_enumT a (s1.heap.objs.size + 1) s1.heap.objs.size 0,
    ⟨⟨.none, ?_⟩, ⟨_, hit, rfl, rfl⟩, Nat.succ_ne_self _⟩, fun b hb => ?_, q⟩
  · show IsEnum h' _ _ (0 + 0) _
    rw [Int.add_zero]
    exact hen
  · have two : b = s1.heap.objs.size + 1 ∨ b = s1.heap.objs.size := by simpa using hb
    have hle : s1.heap.objs.size ≤ b := by
      rcases two with z | z
      · rw [z]; exact Nat.le_add_right _ 1
      · rw [z]; exact Nat.le_refl _
    exact I1.fpOk hle (I1.hok.fresh hle)
theorem walk_enumT {K : PySem.W.Frag} {a : Addr} {k : Int} {xs : List V} :
    Walk (IteT K a k) xs.length (fun H => SqT K H a xs) (fun i H v H' => ∃ T x, v = .ref T ∧ H T = none ∧ H' = upd H T (.tup [.int (k + (i : Nat)), x]) ∧ xs[i]? = some x) :=
  ⟨fun i H hi q => ⟨xs, xs[i], q, List.getElem?_eq_getElem hi⟩, fun H q => ⟨xs, q, Nat.le_refl _⟩, fun i H v H' hi q ⟨T, x, e1, e2, e3, e4⟩ => ⟨T, x, e1, e2, e3, e4 xs q⟩⟩
end DP
/-! data at hand (as in gen2, same, lines, gen4) -/
namespace DP
open PySem PySem.Spec PyProof.Rows L2
def spanPy (q : Int × Int) : PyData := .tuple [.int q.1, .int q.2]
mutual
theorem dp_map {K : PySem.W.Frag} {H H' : Hp} (fT : ∀ b xs, SqT K H b xs → SqT K H' b xs) (fL : ∀ b xs, SqL K H b xs → SqL K H' b xs) : ∀ {v : V} {d : PyData}, Dp K H v d → Dp K H' v d
  | _, _, .non => .non
  | _, _, .bl b => .bl b
  | _, _, .int i => .int i
  | _, _, .str x => .str x
  | _, _, .lst h t => .lst (fL _ _ h) (dpAll_map fT fL t)
  | _, _, .tup h t => .tup (fT _ _ h) (dpAll_map fT fL t)
theorem dpAll_map {K : PySem.W.Frag} {H H' : Hp} (fT : ∀ b xs, SqT K H b xs → SqT K H' b xs) (fL : ∀ b xs, SqL K H b xs → SqL K H' b xs) : ∀ {xs : List V} {ds : List PyData}, DpAll K H xs ds → DpAll K H' xs ds
  | _, _, .nil => .nil
  | _, _, .cons a t => .cons (dp_map fT fL a) (dpAll_map fT fL t)
end
theorem dp_same {K : PySem.W.Frag} {H H' : Hp} (s : Same H H') {v : V} {d : PyData} (h : Dp K H v d) : Dp K H' v d := dp_map (fun _ _ => Same.tup s) (fun _ _ => s.seq) h
theorem dpAll_same {K : PySem.W.Frag} {H H' : Hp} (s : Same H H') {xs : List V} {ds : List PyData} (h : DpAll K H xs ds) : DpAll K H' xs ds := dpAll_map (fun _ _ => Same.tup s) (fun _ _ => s.seq) h
mutual
def noL : PyData → Prop
  | .list _ => False
  | .tuple ds => noLs ds
  | _ => True
def noLs : List PyData → Prop
  | [] => True
  | d :: ds => noL d ∧ noLs ds
end
mutual
theorem dpT_map {K : PySem.W.Frag} {H H' : Hp} (fT : ∀ b xs, SqT K H b xs → SqT K H' b xs) : ∀ {v : V} {d : PyData}, noL d → Dp K H v d → Dp K H' v d
  | _, _, _, .non => .non
  | _, _, _, .bl b => .bl b
  | _, _, _, .int i => .int i
  | _, _, _, .str x => .str x
  | _, _, n, .lst h t => False.elim (by unfold noL at n; exact n)
  | _, _, n, .tup h t => .tup (fT _ _ h) (dpTs_map fT (by unfold noL at n; exact n) t)
theorem dpTs_map {K : PySem.W.Frag} {H H' : Hp} (fT : ∀ b xs, SqT K H b xs → SqT K H' b xs) : ∀ {xs : List V} {ds : List PyData}, noLs ds → DpAll K H xs ds → DpAll K H' xs ds
  | _, _, _, .nil => .nil
  | _, _, n, .cons a t => .cons (dpT_map fT (by unfold noLs at n; exact n.1) a) (dpTs_map fT (by unfold noLs at n; exact n.2) t)
end
theorem noLs_map {α : Type} {f : α → PyData} (h : ∀ a, noL (f a)) : ∀ l : List α, noLs (l.map f)
  | [] => by show noLs []; unfold noLs; trivial
  | a :: r => by show noLs (f a :: r.map f); unfold noLs; exact ⟨h a, noLs_map h r⟩
theorem noL_span (q : Int × Int) : noL (spanPy q) := by unfold spanPy; simp [noL, noLs]
theorem dpAll_snoc {K : PySem.W.Frag} {H : Hp} : ∀ {xs : List V} {ds : List PyData} {x : V} {d : PyData}, DpAll K H xs ds → Dp K H x d → DpAll K H (xs ++ [x]) (ds ++ [d])
  | _, _, _, _, .nil, h => .cons h .nil
  | _, _, _, _, .cons a t, h => .cons a (dpAll_snoc t h)
theorem dpTs_up {K : PySem.W.Frag} {H : Hp} {L : Addr} {ys xs : List V} {ds : List PyData} {o : HO} (n : noLs ds) (e : H L = some (.lst ys)) (h : DpAll K H xs ds) : DpAll K (upd H L o) xs ds := dpTs_map (fun _ _ z => sqT_upd z e) n h
theorem dpT_up {K : PySem.W.Frag} {H : Hp} {L : Addr} {ys : List V} {v : V} {d : PyData} {o : HO} (n : noL d) (e : H L = some (.lst ys)) (h : Dp K H v d) : Dp K (upd H L o) v d := dpT_map (fun _ _ z => sqT_upd z e) n h
theorem spans_dp {K : PySem.W.Frag} {H : Hp} {xs : List V} {qs : List (Int × Int)} (h : Spans K H xs qs) : DpAll K H xs (qs.map spanPy) := by
  induction h with
  | nil => exact .nil
  | cons a _ ih =>
    obtain ⟨t, rfl, ht⟩ := a
    exact .cons (.tup ht (.cons (.int _) (.cons (.int _) .nil))) ih
def Fit : Nat → PyData → Prop
  | 0, _ => False
  | _ + 1, .none => True
  | _ + 1, .bool _ => True
  | _ + 1, .int _ => True
  | _ + 1, .str _ => True
  | n + 1, .list ds => ds.length ≤ 1000 ∧ ∀ d ∈ ds, Fit n d
  | n + 1, .tuple ds => ds.length ≤ 1000 ∧ ∀ d ∈ ds, Fit n d
  | _ + 1, .dict _ => False
theorem dpAll_len {K : PySem.W.Frag} {H : Hp} : ∀ {xs : List V} {ds : List PyData}, DpAll K H xs ds → xs.length = ds.length
  | _, _, .nil => rfl
  | _, _, .cons _ t => by rw [List.length_cons, List.length_cons, dpAll_len t]
theorem dpAll_at {K : PySem.W.Frag} {H : Hp} : ∀ {xs : List V} {ds : List PyData} (i : Nat), DpAll K H xs ds → i < ds.length → ∃ x d, xs[i]? = some x ∧ ds[i]? = some d ∧ Dp K H x d
  | _, _, _, .nil, h => absurd h (Nat.not_lt_zero _)
  | _, _, 0, .cons (v := v) (d := d) a _, _ => ⟨v, d, rfl, rfl, a⟩
  | _, _, i + 1, .cons _ t, h => by
    obtain ⟨x, d, h1, h2, h3⟩ := dpAll_at i t (by rw [List.length_cons] at h; omega)
    exact ⟨x, d, by rw [List.getElem?_cons_succ]; exact h1, by rw [List.getElem?_cons_succ]; exact h2, h3⟩
theorem tyx_list {K : PySem.W.Frag} {H : Hp} {a : Addr} {xs : List V} (h : SqL K H a xs) : TyX K H (.ref a) (.type "list") := by
  rcases h with (h | ⟨o, h⟩) | ⟨o, _, _, h, c, _⟩
  · exact .base (.lst h)
  · exact .base (.frz h)
  · exact .kList h c
theorem tyx_tup {K : PySem.W.Frag} {H : Hp} {a : Addr} {xs : List V} (h : SqT K H a xs) : TyX K H (.ref a) (.type "tuple") := by
  rcases h with (h | ⟨o, h⟩) | ⟨o, _, _, h, c, _⟩
  · exact .base (.tup h)
  · exact .fTuple h
  · exact .kTuple h c
def tyD : PyData → String
  | .none => "NoneType"
  | .bool _ => "bool"
  | .int _ => "int"
  | .str _ => "str"
  | .list _ => "list"
  | .tuple _ => "tuple"
  | .dict _ => "dict"
theorem tyx_d {K : PySem.W.Frag} {H : Hp} {x : V} {d : PyData} (h : Dp K H x d) : TyX K H x (.type (tyD d)) := by
  cases h with
  | non => exact .base .non
  | bl b => exact .base (.bl b)
  | int i => exact .base (.int i)
  | str x => exact .base (.str x)
  | lst h _ => exact tyx_list h
  | tup h _ => exact tyx_tup h
theorem dpAll_get {K : PySem.W.Frag} {H : Hp} {α : Type} {f : α → PyData} {xs : List V} {l : List α} {i : Nat} {x : V} (h : DpAll K H xs (l.map f)) (hx : xs[i]? = some x) : ∃ a, l[i]? = some a ∧ Dp K H x (f a) := by
  have hl := dpAll_len h
  have hi : i < xs.length := (List.getElem?_eq_some_iff.mp hx).1
  obtain ⟨y, d, h1, h2, h3⟩ := dpAll_at i h (by rw [← hl]; exact hi)
  rw [hx] at h1
  cases h1
  rw [List.getElem?_map] at h2
  cases e : l[i]? with
  | none => rw [e] at h2; cases h2
  | some a =>
    rw [e] at h2
    have ed : f a = d := Option.some.inj h2
    rw [← ed] at h3
    exact ⟨a, rfl, h3⟩
theorem dpAll_get2 {K : PySem.W.Frag} {H : Hp} {α : Type} {f : α → PyData} {xs : List V} {l : List α} {i : Nat} {a : α} (h : DpAll K H xs (l.map f)) (ha : l[i]? = some a) : ∃ x, xs[i]? = some x ∧ Dp K H x (f a) := by
  have hi : i < (l.map f).length := by
    rw [List.length_map]
    exact (List.getElem?_eq_some_iff.mp ha).1
  obtain ⟨y, d, h1, h2, h3⟩ := dpAll_at i h hi
  rw [List.getElem?_map, ha] at h2
  have ed : f a = d := Option.some.inj h2
  rw [← ed] at h3
  exact ⟨y, h1, h3⟩
theorem dp_tup {K : PySem.W.Frag} {H : Hp} {x : V} {ds : List PyData} (h : Dp K H x (.tuple ds)) : ∃ t xs, x = .ref t ∧ SqT K H t xs ∧ DpAll K H xs ds := by
  cases h with
  | tup h1 h2 => exact ⟨_, _, rfl, h1, h2⟩
theorem dp_ints {K : PySem.W.Frag} {H : Hp} : ∀ {xs : List V} {ns : List Int}, DpAll K H xs (ns.map PyData.int) → xs = ns.map V.int
  | _, [], .nil => rfl
  | _, n :: r, .cons h t => by
    cases h
    rw [dp_ints t]
    rfl
theorem dp_spans {K : PySem.W.Frag} {H : Hp} : ∀ {xs : List V} {qs : List (Int × Int)}, DpAll K H xs (qs.map spanPy) → Spans K H xs qs
  | _, [], .nil => .nil
  | _, q :: r, .cons h t => by
    refine .cons ?_ (dp_spans t)
    obtain ⟨a, xs, rfl, h1, h2⟩ := dp_tup h
    have e := dp_ints (ns := [q.1, q.2]) h2
    subst e
    exact ⟨a, rfl, h1⟩
theorem all_snoc {α : Type} {P : α → Prop} {l : List α} {a : α} (h : ∀ x ∈ l, P x) (k : P a) : ∀ x ∈ l ++ [a], P x := fun x hx => by
  rcases List.mem_append.mp hx with hx | hx
  · exact h x hx
  · rw [List.mem_singleton.mp hx]; exact k
theorem sz2_ : 2 ≤ sizeLine := Nat.le_trans (by decide : 2 ≤ 1000) (Nat.le_of_lt (small1000 (Nat.le_refl _)))
end DP
namespace DP
open PySem PySem.Spec PyProof.Rows L2
theorem sz4_ : 4 ≤ sizeLine := Nat.le_trans (by decide : 4 ≤ 1000) (Nat.le_of_lt (small1000 (Nat.le_refl _)))
end DP
/-! the fields of the objects -/
namespace DP
open PySem PySem.Spec PyProof.Rows L2
theorem lk_Satellite_name {s : SatD} {t : Addr} : List.lookup ("name" : Str) (satF s t) = some (.str s.name : V) := by unfold satF; repeat (first | exact lk_hit | rw [lk_miss (by decide +kernel)])
theorem lk_Satellite_store {s : SatD} {t : Addr} : List.lookup ("store" : Str) (satF s t) = some (.int s.store : V) := by unfold satF; repeat (first | exact lk_hit | rw [lk_miss (by decide +kernel)])
theorem lk_Satellite_battery {s : SatD} {t : Addr} : List.lookup ("battery" : Str) (satF s t) = some (.int s.battery : V) := by unfold satF; repeat (first | exact lk_hit | rw [lk_miss (by decide +kernel)])
theorem lk_Satellite_start_level {s : SatD} {t : Addr} : List.lookup ("start_level" : Str) (satF s t) = some (.int s.level : V) := by unfold satF; repeat (first | exact lk_hit | rw [lk_miss (by decide +kernel)])
theorem lk_Satellite_reserve {s : SatD} {t : Addr} : List.lookup ("reserve" : Str) (satF s t) = some (.int s.reserve : V) := by unfold satF; repeat (first | exact lk_hit | rw [lk_miss (by decide +kernel)])
theorem lk_Satellite_charge {s : SatD} {t : Addr} : List.lookup ("charge" : Str) (satF s t) = some (.int s.charge : V) := by unfold satF; repeat (first | exact lk_hit | rw [lk_miss (by decide +kernel)])
theorem lk_Satellite_settle {s : SatD} {t : Addr} : List.lookup ("settle" : Str) (satF s t) = some (.int s.settle : V) := by unfold satF; repeat (first | exact lk_hit | rw [lk_miss (by decide +kernel)])
theorem lk_Satellite_light {s : SatD} {t : Addr} : List.lookup ("light" : Str) (satF s t) = some (.ref t : V) := by unfold satF; repeat (first | exact lk_hit | rw [lk_miss (by decide +kernel)])
theorem lk_Station_name {s : StaD} : List.lookup ("name" : Str) (staF s) = some (.str s.name : V) := by unfold staF; repeat (first | exact lk_hit | rw [lk_miss (by decide +kernel)])
theorem lk_Station_antennas {s : StaD} : List.lookup ("antennas" : Str) (staF s) = some (.int s.antennas : V) := by unfold staF; repeat (first | exact lk_hit | rw [lk_miss (by decide +kernel)])
theorem lk_Station_turn {s : StaD} : List.lookup ("turn" : Str) (staF s) = some (.int s.turn : V) := by unfold staF; repeat (first | exact lk_hit | rw [lk_miss (by decide +kernel)])
theorem lk_Recording_name {r : RecD} : List.lookup ("name" : Str) (recF r) = some (.str r.name : V) := by unfold recF; repeat (first | exact lk_hit | rw [lk_miss (by decide +kernel)])
theorem lk_Recording_satellite {r : RecD} : List.lookup ("satellite" : Str) (recF r) = some (.int (r.sat : Int) : V) := by unfold recF; repeat (first | exact lk_hit | rw [lk_miss (by decide +kernel)])
theorem lk_Recording_earliest {r : RecD} : List.lookup ("earliest" : Str) (recF r) = some (.int r.earliest : V) := by unfold recF; repeat (first | exact lk_hit | rw [lk_miss (by decide +kernel)])
theorem lk_Recording_latest {r : RecD} : List.lookup ("latest" : Str) (recF r) = some (.int r.latest : V) := by unfold recF; repeat (first | exact lk_hit | rw [lk_miss (by decide +kernel)])
theorem lk_Recording_length {r : RecD} : List.lookup ("length" : Str) (recF r) = some (.int r.length : V) := by unfold recF; repeat (first | exact lk_hit | rw [lk_miss (by decide +kernel)])
theorem lk_Recording_size {r : RecD} : List.lookup ("size" : Str) (recF r) = some (.int r.size : V) := by unfold recF; repeat (first | exact lk_hit | rw [lk_miss (by decide +kernel)])
theorem lk_Recording_energy {r : RecD} : List.lookup ("energy" : Str) (recF r) = some (.int r.energy : V) := by unfold recF; repeat (first | exact lk_hit | rw [lk_miss (by decide +kernel)])
theorem lk_Recording_worth {r : RecD} : List.lookup ("worth" : Str) (recF r) = some (.int r.worth : V) := by unfold recF; repeat (first | exact lk_hit | rw [lk_miss (by decide +kernel)])
theorem lk_Recording_rank {r : RecD} : List.lookup ("rank" : Str) (recF r) = some (.int r.rank : V) := by unfold recF; repeat (first | exact lk_hit | rw [lk_miss (by decide +kernel)])
theorem lk_Recording_deadline {r : RecD} : List.lookup ("deadline" : Str) (recF r) = some (.int r.deadline : V) := by unfold recF; repeat (first | exact lk_hit | rw [lk_miss (by decide +kernel)])
theorem lk_Pass_name {p : PasD} {t : Addr} : List.lookup ("name" : Str) (pasF p t) = some (.str p.name : V) := by unfold pasF; repeat (first | exact lk_hit | rw [lk_miss (by decide +kernel)])
theorem lk_Pass_satellite {p : PasD} {t : Addr} : List.lookup ("satellite" : Str) (pasF p t) = some (.int (p.sat : Int) : V) := by unfold pasF; repeat (first | exact lk_hit | rw [lk_miss (by decide +kernel)])
theorem lk_Pass_station {p : PasD} {t : Addr} : List.lookup ("station" : Str) (pasF p t) = some (.int (p.sta : Int) : V) := by unfold pasF; repeat (first | exact lk_hit | rw [lk_miss (by decide +kernel)])
theorem lk_Pass_span {p : PasD} {t : Addr} : List.lookup ("span" : Str) (pasF p t) = some (.ref t : V) := by unfold pasF; repeat (first | exact lk_hit | rw [lk_miss (by decide +kernel)])
theorem lk_Pass_room {p : PasD} {t : Addr} : List.lookup ("room" : Str) (pasF p t) = some (.int p.room : V) := by unfold pasF; repeat (first | exact lk_hit | rw [lk_miss (by decide +kernel)])
theorem lk_Pass_energy {p : PasD} {t : Addr} : List.lookup ("energy" : Str) (pasF p t) = some (.int p.energy : V) := by unfold pasF; repeat (first | exact lk_hit | rw [lk_miss (by decide +kernel)])
theorem lk_Pass_fee {p : PasD} {t : Addr} : List.lookup ("fee" : Str) (pasF p t) = some (.int p.fee : V) := by unfold pasF; repeat (first | exact lk_hit | rw [lk_miss (by decide +kernel)])
theorem lk_World_text {u : Str} {h : Int} {t0 t1 t2 t3 : Addr} : List.lookup ("text" : Str) (worF u h t0 t1 t2 t3) = some (.str u : V) := by unfold worF; repeat (first | exact lk_hit | rw [lk_miss (by decide +kernel)])
theorem lk_World_horizon {u : Str} {h : Int} {t0 t1 t2 t3 : Addr} : List.lookup ("horizon" : Str) (worF u h t0 t1 t2 t3) = some (.int h : V) := by unfold worF; repeat (first | exact lk_hit | rw [lk_miss (by decide +kernel)])
theorem lk_World_satellites {u : Str} {h : Int} {t0 t1 t2 t3 : Addr} : List.lookup ("satellites" : Str) (worF u h t0 t1 t2 t3) = some (.ref t0 : V) := by unfold worF; repeat (first | exact lk_hit | rw [lk_miss (by decide +kernel)])
theorem lk_World_stations {u : Str} {h : Int} {t0 t1 t2 t3 : Addr} : List.lookup ("stations" : Str) (worF u h t0 t1 t2 t3) = some (.ref t1 : V) := by unfold worF; repeat (first | exact lk_hit | rw [lk_miss (by decide +kernel)])
theorem lk_World_recordings {u : Str} {h : Int} {t0 t1 t2 t3 : Addr} : List.lookup ("recordings" : Str) (worF u h t0 t1 t2 t3) = some (.ref t2 : V) := by unfold worF; repeat (first | exact lk_hit | rw [lk_miss (by decide +kernel)])
theorem lk_World_passes {u : Str} {h : Int} {t0 t1 t2 t3 : Addr} : List.lookup ("passes" : Str) (worF u h t0 t1 t2 t3) = some (.ref t3 : V) := by unfold worF; repeat (first | exact lk_hit | rw [lk_miss (by decide +kernel)])
end DP
/-! the law's world of cells -/
namespace DP
open PySem PySem.Spec PyProof.Rows L2
section
variable {P : Program} {w : World} {K : PySem.W.Frag} {mg : Str → Option Value} {base : Heap} {CL CS CT CR CP CW aS aR fS fT fR fP : Addr}
def spWorldC (K : PySem.W.Frag) (CS CT CR CP CW : Addr) : Sp := fun vs H Q _ => ∃ (a : Addr) (ns : List Int), vs = [.ref a] ∧ SqL K H a (ns.map V.int) ∧ ∀ (ac : Addr) (W : WorldD) (H' : Hp), Same H H' → CG W → WorldAt K CS CT CR CP CW H' ac W → Q (.ref ac) H'
theorem d_worldC (T : TxtW K mg CL CS CT CR CP CW aS aR fS fT fR fP) (D_law_cell : DefOk P w K mg base CX0 1 "_law_cell" ["script", "k"] (spCell K)) (D_law_text : DefOk P w K mg base CX0 3 "_law_text" ["script", "recordings", "passes"] (spTextC K))
    (D_World_parse : SDef P w K mg base CX0 7 CW "parse" ["text"] (spParse K CS CT CR CP CW)) (A : At K mg "_law_world" s__law_world ["script"]) : DefOk P w K mg base CX0 8 "_law_world" ["script"] (spWorldC K CS CT CR CP CW) := by
  have B := T.L.B
  refine A.ok sc__law_world (fun vs H Q E h => ?_) (fun f cdv A outer s H vs Q E hr h => ?_)
  · obtain ⟨a, ns, rfl, _⟩ := h
    rfl
  obtain ⟨a, ns, rfl, hS, q⟩ := h
  refine ⟨_, pss_cons (ps_set (i := 1) sc__law_world.nd rfl (Or.inl rfl) (pe_op op_fdiv (pe_callTy (call_int1) (by rfl) B.int (by decide +kernel) (pa_cons (pe_f D_law_cell (hr.mono (by omega)) pass0 (pa_cons (pv 0) (pa_cons pe_int pa_nil))) pa_nil)) pe_int))
  (pss_one (ps_ret (pe_smeth D_World_parse T.rdW (hr.mono (by omega)) pass0 (pe_ga T.c_World.gC) (pa_cons (pe_f D_law_text (hr.mono (by omega)) pass0 (pa_cons (pv 0) (pa_cons (pe_op op_add pe_int (pe_op op_mod (pv 1) pe_int)) (pa_cons (pe_op op_add pe_int (pe_op op_mod (pe_op op_fdiv (pv 1) pe_int) pe_int)) pa_nil)))) pa_nil))))
    , ?_⟩
  refine ⟨_, rfl, a, ns, 0, rfl, hS, by decide, fun u => .inl ⟨_, rfl, _, _, rfl, rfl, ⟨by decide, by decide⟩, ?_⟩⟩
  obtain ⟨R, eR⟩ : ∃ R : Nat, 1 + u / 4 % 5 = (R : Int) := ⟨(1 + u / 4 % 5).toNat, by omega⟩
  obtain ⟨N, eN⟩ : ∃ N : Nat, 1 + u / 4 / 5 % 4 = (N : Int) := ⟨(1 + u / 4 / 5 % 4).toNat, by omega⟩
  refine ⟨rfl, _, rfl, _, rfl, _, _, rfl, rfl, (by show (0 : Int) < _; decide), _, _, rfl, rfl, _, rfl, _, _, rfl, rfl, ⟨by decide, by decide⟩, _, _, rfl, rfl, (by show (0 : Int) < _; decide), _, _, rfl, rfl, a, ns, R, N, ?_, hS, by omega, by omega, fun W H1 s1 cg _ _ => ⟨W, rfl, cg.ok, fun ac H2 nA s2 hW => q ac W H2 (s1.trans s2) cg hW⟩⟩
  rw [← eR, ← eN]
  rfl
end
end DP
/-! a starred target behind the others -/
namespace DP
open PySem PySem.Spec PyProof.Rows L2
def gStar (K : PySem.W.Frag) (i : Nat) (t : TGs) : TG := fun v σ H Q => ∃ a xs, v = .ref a ∧ SqT K H a xs ∧ i ≤ xs.length ∧ xs.length ≤ 1000 ∧ ∀ D, H D = none → t (xs.take i ++ [.ref D]) σ (upd H D (.lst (xs.drop i))) Q
section
variable {X : Cx}
theorem pgs_consS {e : Expr} {es : List Expr} {t : TG} {u : TGs} {p : Pos} (h1 : PG X e t) (h2 : PGs X es u)
    (hs : (assignEach (.Starred e p :: es) X.env).map (·.2) = assign e X.env :: (assignEach es X.env).map (·.2) := by rfl) : PGs X (.Starred e p :: es) (gCons t u) := by
  refine ⟨fun pins s σ H vs us Q I r h => ?_⟩
  obtain ⟨v, vr, e1, h⟩ := h
  subst e1
  cases r with
  | cons r rr =>
    rw [hs]
    refine assignInOrder_cons (thn (h1.run pins s σ H _ _ _ I r h) fun _ s1 ⟨σ1, H1, I1, q1⟩ => ?_)
    exact h2.run pins s1 σ1 H1 _ _ Q I1 rr q1
theorem vals_take : ∀ {xs : List V} {us : List Value} (i : Nat), Vals xs us → Vals (xs.take i) (us.take i)
  | _, _, 0, _ => .nil
  | _, _, _ + 1, .nil => .nil
  | _, _, i + 1, .cons r t => .cons r (vals_take i t)
theorem vals_drop : ∀ {xs : List V} {us : List Value} (i : Nat), Vals xs us → Vals (xs.drop i) (us.drop i)
  | _, _, 0, h => h
  | _, _, _ + 1, .nil => .nil
  | _, _, i + 1, .cons _ t => vals_drop i t
theorem vals_snoc : ∀ {xs : List V} {us : List Value} {x : V} {u : Value}, Vals xs us → RelV x u → Vals (xs ++ [x]) (us ++ [u])
  | _, _, _, _, .nil, h => .cons h .nil
  | _, _, _, _, .cons r t, h => .cons r (vals_snoc t h)
theorem unpack_star {prog : Program} {w : World} {A : Around} {E : Value → Shared → Prop} {s : Shared} {l : Addr} {items : Array Value} {i : Nat} {Q : List Value → Shared → Prop} (hl : IsTup s.heap l items) (hh : A.handled = none) (hi : i ≤ items.size) (hz : items.size ≤ 1000)
    (h : ∀ (h' : Heap) (tk : Nat), (∀ b o, s.heap.get? b = some o → h'.get? b = some o) → Q (items.toList.take i ++ [.ref h'.objs.size]) { s with heap := h'.push { cls := .type "list", data := .seq (items.toList.drop i).toArray }, toks := tk }) : wpAny (model prog w) A (unpackItems (.ref l) (i + 1) (some i)) Q E s := by
  have hlt : l ≠ s.heap.objs.size := by obtain ⟨o, ho, _⟩ := hl; exact Nat.ne_of_lt (Heap.lt_size ho)
  unfold unpackItems
  refine wpAny_bind ?_
  unfold notIterableAtAll
  refine wpAny_bind (wpAny_specialOf hl.typeIs slot_tuple_iter.lookup ?_)
  refine wpAny_pure ?_
  simp only [Bool.false_eq_true, if_false]
  refine wpAny_bind (wpAny_holding (iter_tuple hl ?_))
  refine wpAny_bind (wpAny_holding (draw_tuple hlt i 0 _ _ ⟨_, Heap.get?_push_size _ rfl, rfl, rfl⟩ (hl.push _) (by omega) fun h₁ hit₁ hs₁ => ?_))
  have hl₁ : IsTup h₁ l items := (hl.push _).extBut hs₁.extBut hlt
  rw [Nat.zero_add] at hit₁
  have hit₁' := hit₁
  obtain ⟨oi, hoi, _⟩ := hit₁'
  have hl₁' := hl₁
  obtain ⟨ol, hol, _⟩ := hl₁'
  rw [List.drop_zero]
  have hfl : (items.toList.take i).length = i := by rw [List.length_take, Array.length_toList]; omega
  rw [if_neg (show ¬ ((items.toList.take i).length < i) by rw [hfl]; omega)]
  refine wpAny_bind (wpAny_holding (PySem.W.kun_collect (s := { s with heap := h₁ }) (T := "tuple_iterator") (.inr (.inr (.inr rfl))) (Walks.tuple (A := A.in1) hh s.heap.objs.size l hlt items) (fun j u st => st.1.typeIs) (k := i) (by omega) ⟨hit₁, hl₁⟩ (Heap.lt_size hoi) (Heap.lt_size hol) (fun h₂ tk hk => ?_) (by rw [sizeLine_eq]; omega)))
  have hrl : (items.toList.drop i).length = items.size - i := by rw [List.length_drop, Array.length_toList]
  show wpAny _ _ (if (items.toList.drop i).length < i + 1 - 1 - i then _ else _) _ _ _
  rw [if_neg (by omega)]
  have hmid : (items.toList.drop i).length - (i + 1 - 1 - i) = (items.toList.drop i).length := by omega
  show wpAny _ _ (newList ((items.toList.drop i).take ((items.toList.drop i).length - (i + 1 - 1 - i))) >>= fun d => pure (items.toList.take i ++ [d] ++ (items.toList.drop i).drop ((items.toList.drop i).length - (i + 1 - 1 - i)))) _ _ _
  rw [hmid, List.take_length, List.drop_length]
  refine wpAny_bind (wpAny_newList (s := { s with heap := h₂, toks := tk }) (wpAny_pure ?_))
  rw [List.append_nil]
  exact h h₂ tk fun b o e => hk b o (Nat.ne_of_lt (Heap.lt_size e)) (hs₁.extBut b o (Nat.ne_of_lt (Heap.lt_size e)) (Heap.get?_push_of_some _ e))
theorem pg_star {pos : Pos} {es : List Expr} {k : Nat} {t : TGs} {i : Nat} (hc : X.calm = true) (h : PGs X es t)
    (hn : (assignEach es X.env).length = i + 1 := by rfl) (hst : (assignEach es X.env).findIdx? (·.1) = some i := by rfl) : PG X (.Tuple es k pos) (gStar X.K i t) := by
  refine ⟨fun pins s σ H v u Q I r hw => ?_⟩
  obtain ⟨a, xs, e1, hq, hl, hl2, hw⟩ := hw
  subst e1
  cases r
  obtain ⟨its, rv, ht, hz⟩ := I.tuple hq
  have el : its.length = xs.length := rv.length.symm
  rw [PyProof.Rows.assign_Tuple]
  refine wpAny_bind (wpAny_standAt ?_)
  unfold unpack
  rw [hn, hst]
  refine wpAny_bind (wpAny_holding (unpack_star ht (I.ok.hd hc) (by simp; omega) (by simp; omega) fun h' tk hx => ?_))
  have I1 : Inv X pins σ H { s with heap := h', toks := tk } := I.kept (t' := tk) hx
  have hf : H h'.objs.size = none := I1.hok.fresh (Nat.le_refl _)
  have I2 : Inv X pins σ (upd H h'.objs.size (.lst (xs.drop i))) { s with heap := h'.push { cls := .type "list", data := .seq (its.drop i).toArray }, toks := tk } := by
    refine I1.laid (t' := tk) (fun b u e => Heap.get?_push_of_some _ e) (Nat.le_refl _) ?_
    exact ⟨by rw [List.length_drop]; exact small (by omega), its.drop i, 0, vals_drop i rv, Heap.get?_push_size _ rfl⟩
  refine h.run pins _ σ _ _ _ Q (by simpa using I2) ?_ (hw _ hf)
  simpa using vals_snoc (vals_take i rv) (show RelV (.ref h'.objs.size) (.ref h'.objs.size) from rfl)
end
end DP
/-! what a row is -/
namespace DP
open PySem PySem.Spec PyProof.Rows L2
inductive RowD where
  | room (p : Nat) : RowD
  | sta (s m : Nat) : RowD
  | sat (s m : Nat) : RowD
  | store (s m : Nat) : RowD
  | energy (s m : Nat) : RowD
  | efrom (s m0 m : Nat) : RowD
def RowD.word : RowD → Str
  | .room _ => "room"
  | .sta _ _ => "station"
  | .sat _ _ => "satellite"
  | .store _ _ => "store"
  | .energy _ _ => "energy"
  | .efrom _ _ _ => "energy from"
def RowD.num : RowD → Nat
  | .room p => p
  | .sta s _ => s
  | .sat s _ => s
  | .store s _ => s
  | .energy s _ => s
  | .efrom s _ _ => s
def RowD.mins : RowD → List Nat
  | .room _ => []
  | .sta _ m => [m]
  | .sat _ m => [m]
  | .store _ m => [m]
  | .energy _ m => [m]
  | .efrom _ m0 m => [m0, m]
def RowD.many (W : WorldD) : RowD → Nat
  | .room _ => W.pass.length
  | .sta _ _ => W.stas.length
  | .sat _ _ => W.sats.length
  | .store _ _ => W.sats.length
  | .energy _ _ => W.sats.length
  | .efrom _ _ _ => W.sats.length
def RowD.asc : RowD → Prop
  | .efrom _ m0 m => m0 < m
  | _ => True
structure RowOk (W : WorldD) (r : RowD) : Prop where
  num : r.num < r.many W
  mins : ∀ m ∈ r.mins, (m : Int) < W.horizon
  asc : r.asc
def minV (ms : List Nat) : List V := ms.map fun (m : Nat) => V.int (m : Int)
def rowV (r : RowD) : List V := .str r.word :: .int (r.num : Int) :: minV r.mins
def rowPy (r : RowD) : PyData := .tuple (.str r.word :: .int (r.num : Int) :: r.mins.map fun (m : Nat) => PyData.int (m : Int))
theorem dpAll_mins {K : PySem.W.Frag} {H : Hp} : ∀ ms : List Nat, DpAll K H (minV ms) (ms.map fun (m : Nat) => PyData.int (m : Int))
  | [] => .nil
  | m :: r => .cons (.int _) (dpAll_mins r)
theorem mins_eq {K : PySem.W.Frag} {H : Hp} : ∀ {ms : List Nat} {xs : List V}, DpAll K H xs (ms.map fun (m : Nat) => PyData.int (m : Int)) → xs = minV ms
  | [], _, .nil => rfl
  | m :: r, _, .cons a t => by
    cases a
    rw [mins_eq t]
    rfl
theorem row_dp {K : PySem.W.Frag} {H : Hp} {t : Addr} {r : RowD} (h : SqT K H t (rowV r)) : Dp K H (.ref t) (rowPy r) := .tup h (.cons (.str _) (.cons (.int _) (dpAll_mins _)))
theorem dp_row {K : PySem.W.Frag} {H : Hp} {v : V} {r : RowD} (h : Dp K H v (rowPy r)) : ∃ t, v = .ref t ∧ SqT K H t (rowV r) := by
  obtain ⟨t, xs, rfl, ht, hx⟩ := dp_tup h
  cases hx with
  | cons a0 hx =>
  cases hx with
  | cons a1 hx =>
  cases a0
  cases a1
  rw [mins_eq hx] at ht
  exact ⟨t, rfl, ht⟩
end DP
/-! what is a row -/
namespace DP
open PySem PySem.Spec PyProof.Rows L2
abbrev s_is_integer : Stmt := topS 6
theorem sc_is_integer : FnScope ["thing"] ["thing"] (defScope s_is_integer) := ⟨rfl, rfl, rfl, by decide +kernel, rfl, by decide +kernel, by decide +kernel⟩
abbrev s_has_row_form : Stmt := topS 47
theorem sc_has_row_form : FnScope ["row", "number"] ["row"] (defScope s_has_row_form) := ⟨rfl, rfl, rfl, by decide +kernel, rfl, by decide +kernel, by decide +kernel⟩
abbrev s_things_of : Stmt := topS 48
theorem sc_things_of : FnScope ["world", "word"] ["world", "word"] (defScope s_things_of) := ⟨rfl, rfl, rfl, by decide +kernel, rfl, by decide +kernel, by decide +kernel⟩
abbrev s_check_row : Stmt := topS 46
theorem sc_check_row : FnScope ["world", "row", "word", "number", "minutes", "minute"] ["world", "row"] (defScope s_check_row) := ⟨rfl, rfl, rfl, by decide +kernel, rfl, by decide +kernel, by decide +kernel⟩
structure TxtR (K : PySem.W.Frag) (w : World) (mg : Str → Option Value) (aM : Addr) : Prop where
  g_MINUTES : mg "MINUTES" = some (.ref aM)
  kd : ∃ es n, KDict K w aM es n
  m_room : ∃ t, PySem.W.nsIn K aM "room" = some (some (.int 0 t))
  m_station : ∃ t, PySem.W.nsIn K aM "station" = some (some (.int 1 t))
  m_satellite : ∃ t, PySem.W.nsIn K aM "satellite" = some (some (.int 1 t))
  m_store : ∃ t, PySem.W.nsIn K aM "store" = some (some (.int 1 t))
  m_energy : ∃ t, PySem.W.nsIn K aM "energy" = some (some (.int 1 t))
  m_efrom : ∃ t, PySem.W.nsIn K aM "energy from" = some (some (.int 2 t))
theorem cut_1 {x : V} {xs : List V} : cutV (x :: xs) (some 1) none = xs := by
  unfold cutV
  rw [show HT.sIx (x :: xs).length 0 (some 1) = min 1 (x :: xs).length from HT.sIx_nat _ _ 1, HT.sIx_none, List.length_cons, Nat.min_eq_left (by omega)]
  exact List.take_of_length_le (by rw [List.length_drop, List.length_cons]; exact Nat.le_refl _)
/-- how many minutes stand behind a word -/
def MinIs (K : PySem.W.Frag) (aM : Addr) (x : Str) : Option Nat → Prop
  | some k => ∃ t, PySem.W.nsIn K aM x = some (some (.int (k : Int) t))
  | none => PySem.W.nsIn K aM x = some none
def formB (n : Nat) : Option Nat → Bool
  | some k => decide (n = 1 + k)
  | none => false
theorem TxtR.min {K : PySem.W.Frag} {w : World} {mg : Str → Option Value} {aM : Addr} (T : TxtR K w mg aM) (r : RowD) : MinIs K aM r.word (some r.mins.length) := by
  cases r with
  | room p => exact T.m_room
  | sta s m => exact T.m_station
  | sat s m => exact T.m_satellite
  | store s m => exact T.m_store
  | energy s m => exact T.m_energy
  | efrom s m0 m => exact T.m_efrom
def rowI (r : RowD) : List Int := (r.num : Int) :: r.mins.map fun (m : Nat) => (m : Int)
theorem rowV_eq (r : RowD) : rowV r = .str r.word :: (rowI r).map V.int := by
  unfold rowV rowI minV
  rw [List.map_cons, List.map_map]
  rfl
section
variable {P : Program} {w : World} {K : PySem.W.Frag} {mg : Str → Option Value} {base : Heap} {CL CS CT CR CP CW aS aR fS fT fR fP aM : Addr}
def spIsI : Sp := fun vs H Q _ => ∃ i : Int, vs = [.int i] ∧ Q (.bl true) H
theorem d_isint (B : Bt mg) (A : At K mg "is_integer" s_is_integer ["thing"]) : DefOk P w K mg base CX0 1 "is_integer" ["thing"] spIsI := by
  refine A.ok sc_is_integer (fun vs H Q E h => ?_) (fun f cdv A outer s H vs Q E hr h => ?_)
  · obtain ⟨i, rfl, _⟩ := h
    rfl
  obtain ⟨i, rfl, q⟩ := h
  refine ⟨_, pss_one (ps_ret (pe_and (pe_callB (call_isi) (by rfl) B.isinstance (by decide +kernel) (pa_cons (pv 0) (pa_cons (pe_bltn (v := .ty "int") (u := .type "int") (by rfl) B.int (by decide +kernel) rfl) pa_nil))) (pe_one (pe_not (pe_callB (call_isi) (by rfl) B.isinstance (by decide +kernel) (pa_cons (pv 0) (pa_cons (pe_bltn (v := .ty "bool") (u := .type "bool") (by rfl) B.bool (by decide +kernel) rfl) pa_nil)))))))
    , ?_⟩
  refine ⟨_, rfl, _, .ty "int", _, _, true, rfl, .ty "int", .base (.int i), kit_ty (by decide +kernel), true, rfl, iteT ?_⟩
  exact ⟨_, rfl, _, .ty "bool", _, _, false, rfl, .ty "bool", .base (.int i), kit_ty (by decide +kernel), false, rfl, q⟩
def spForm (K : PySem.W.Frag) (aM : Addr) : Sp := fun vs H Q _ => ∃ (t : Addr) (x : Str) (ns : List Int) (o : Option Nat), vs = [.ref t] ∧ SqT K H t (.str x :: ns.map V.int) ∧ ns.length ≤ 100 ∧ MinIs K aM x o ∧ ∀ H', Same H H' → Q (.bl (formB ns.length o)) H'
set_option maxHeartbeats 8000000 in
theorem d_form (B : Bt mg) (TR : TxtR K w mg aM) (D_is_integer : DefOk P w K mg base CX0 1 "is_integer" ["thing"] spIsI) (A : At K mg "has_row_form" s_has_row_form ["row"]) : DefOk P w K mg base CX0 2 "has_row_form" ["row"] (spForm K aM) := by
  obtain ⟨es, n, KD⟩ := TR.kd
  refine A.ok sc_has_row_form (fun vs H Q E h => ?_) (fun f cdv A outer s H vs Q E hr h => ?_)
  · obtain ⟨t, x, ns, o, rfl, _⟩ := h
    rfl
  obtain ⟨t, x, ns, o, rfl, ht, hl, mi, q⟩ := h
  refine ⟨_, pss_cons (ps_if (PW.pt (pw_or (pt_not (pt_val (pe_callB (call_isi) (by rfl) B.isinstance (by decide +kernel) (pa_cons (pv 0) (pa_cons (pe_bltn (v := .ty "tuple") (u := .type "tuple") (by rfl) B.tuple (by decide +kernel) rfl) pa_nil))))) (pw_or (pt_cmpR op_eq (pe_callB (call_len_seq) (by rfl) B.len (by decide +kernel) (pa_cons (pv 0) pa_nil)) pe_int (nomark _)) (pw_or1 (pt_not (pt_val (pe_callB (call_isi) (by rfl) B.isinstance (by decide +kernel) (pa_cons (pe_ix ix_tup (pv 0) pe_int (fun _ _ => rfl)) (pa_cons (pe_bltn (v := .ty "str") (u := .type "str") (by rfl) B.str (by decide +kernel) rfl) pa_nil)))))))))
      (pss_one (ps_ret pe_bl))
      (pss_nil))
  (pss_cons (ps_if (pt_not (pt_val (pe_callB (cr_all rfl) (by rfl) B.all (by decide +kernel) (pa_cons (pe_lc (own := [("number", 1)])  rfl sc_has_row_form.nd (pi_tup (pe_slice sl_tup (pv 0) (po_some pe_int) po_none)) (blkOk_by (own := [("number", 1)]) (N := ["row", "number"]) (sc := defScope s_has_row_form) (by decide +kernel)) (fun _ _ _ _ _ => pg_name (i := 1) sc_has_row_form.nd rfl (Or.inl rfl)) (fun _ _ _ _ _ => pts_nil) (fun _ _ _ _ _ => (pe_f D_is_integer (hr.mono (by omega)) pass0 (pa_cons (pv 1) pa_nil)))) pa_nil))))
      (pss_one (ps_ret pe_bl))
      (pss_nil))
  (pss_one (ps_ret (pe_and (pe_cmpR (op_in_kd KD) (pe_ix ix_tup (pv 0) pe_int (fun _ _ => rfl)) (pe_ga TR.g_MINUTES) (by rfl)) (pe_one (pe_cmpR op_eq (pe_callB (call_len_seq) (by rfl) B.len (by decide +kernel) (pa_cons (pv 0) pa_nil)) (pe_op op_add pe_int (pe_ix ix_kdict (pe_ga TR.g_MINUTES) (pe_ix ix_tup (pv 0) pe_int (fun _ _ => rfl)) (fun _ _ => rfl))) (nomark _)))))))
    , ?_⟩
  refine ⟨_, rfl, _, .ty "tuple", _, _, true, rfl, .ty "tuple", tyx_tup ht, kit_ty (by decide +kernel), true, rfl, ?_⟩
  refine iteF' rfl ⟨_, rfl, t, _, rfl, .inr ht, rfl, _, rfl, iteF' (decide_eq_false fun h => by have := V.int.inj h; rw [List.length_cons] at this; omega) ?_⟩
  refine ⟨_, rfl, t, _, 0, _, rfl, rfl, ht, atI_nat (j := 0) rfl, _, .ty "str", _, _, true, rfl, .ty "str", .base (.str x), kit_ty (by decide +kernel), true, rfl, iteF' rfl ?_⟩
  refine ⟨_, rfl, 1, rfl, t, _, rfl, ht, ?_, fun u hu => ?_⟩
  · rw [show HT.sIx (V.str x :: ns.map V.int).length 0 (some 1) = min 1 (V.str x :: ns.map V.int).length from HT.sIx_nat _ _ 1, List.length_cons]
    intro h
    have := h.1
    omega
  have su := same_new hu (.tup (cutV (V.str x :: ns.map V.int) (some 1) none))
  have hcu : SqT K (upd H u (.tup (cutV (V.str x :: ns.map V.int) (some 1) none))) u (ns.map V.int) := by
    have := SqT.of (K := K) (H := upd H u (.tup (cutV (V.str x :: ns.map V.int) (some 1) none))) upd_same
    rw [cut_1 (x := V.str x) (xs := ns.map V.int)] at this ⊢
    exact this
  generalize upd H u (.tup (cutV (V.str x :: ns.map V.int) (some 1) none)) = H1 at su hcu
  refine ⟨u, rfl, ⟨_, hcu⟩, fun D hD => lc_tup (K := K) (a := u) (xs := ns.map V.int) (fun i H' => Same H1 H' ∧ H' D = some (.lst ((List.replicate i true).map V.bl))) ⟨same_new hD _, upd_same⟩ (fun i H' _ h => Same.tup h.1 hcu) (fun i y H2 hy hI => ?_) (fun H2 hI => ?_)⟩
  · obtain ⟨hs, hDD⟩ := hI
    rw [List.getElem?_map] at hy
    cases hn : ns[i]? with
    | none => rw [hn] at hy; cases hy
    | some m =>
      rw [hn] at hy
      have ey : V.int m = y := Option.some.inj hy
      subst ey
      have hi := (List.getElem?_eq_some_iff.mp hn).1
      refine ⟨rfl, _, rfl, m, rfl, _, hDD, ?_, same_at hD hs _, ?_⟩
      · rw [List.length_map, List.length_replicate]
        exact small1000 (by omega)
      · rw [upd_same, List.replicate_succ', List.map_append]
        rfl
  obtain ⟨s1, hDD⟩ := hI
  have allT : ∀ n : Nat, (!(List.replicate n true).all id) = false := fun n => by simp
  refine ⟨D, _, rfl, SqL.of hDD, _, rfl, iteF' (allT _) ?_⟩
  have sA := su.trans s1
  have ht1 := Same.tup sA ht
  cases o with
  | none => exact ⟨_, rfl, t, _, 0, _, rfl, rfl, ht1, atI_nat (j := 0) rfl, x, none, rfl, rfl, mi, _, rfl, iteF' rfl (q _ sA)⟩
  | some k =>
    obtain ⟨tk, mi⟩ := mi
    refine ⟨_, rfl, t, _, 0, _, rfl, rfl, ht1, atI_nat (j := 0) rfl, x, _, rfl, rfl, mi, _, rfl, iteT' rfl ?_⟩
    refine ⟨_, rfl, t, _, rfl, .inr ht1, _, rfl, t, _, 0, _, rfl, rfl, ht1, atI_nat (j := 0) rfl, aM, x, .int (k : Int), rfl, rfl, ⟨es, n, _, KD.at_, KD.lit, mi, ⟨tk, rfl⟩⟩, _, _, rfl, rfl, rfl, ?_⟩
    have e := q _ sA
    rw [show decide (V.int (((V.str x :: ns.map V.int).length : Nat) : Int) = V.int (2 + (k : Int))) = formB ns.length (some k) from by
      show _ = decide (ns.length = 1 + k)
      rw [List.length_cons, List.length_map]
      by_cases c : ns.length = 1 + k
      · rw [decide_eq_true c, decide_eq_true (by rw [c]; congr 1; omega)]
      · rw [decide_eq_false c, decide_eq_false fun h => c (by have := V.int.inj h; omega)]]
    exact e
def manyW (W : WorldD) (x : Str) : Nat := if x = ("room" : Str) then W.pass.length else if x = ("station" : Str) then W.stas.length else W.sats.length
def spThingsOf (K : PySem.W.Frag) (CS CT CR CP CW : Addr) : Sp := fun vs H Q _ => ∃ (ac : Addr) (W : WorldD) (x : Str), vs = [.ref ac, .str x] ∧ WorldAt K CS CT CR CP CW H ac W ∧ Q (.int (manyW W x : Nat)) H
theorem d_things_of (T : TxtW K mg CL CS CT CR CP CW aS aR fS fT fR fP) (A : At K mg "things_of" s_things_of ["world", "word"]) : DefOk P w K mg base CX0 1 "things_of" ["world", "word"] (spThingsOf K CS CT CR CP CW) := by
  have B := T.L.B
  refine A.ok sc_things_of (fun vs H Q E h => ?_) (fun f cdv A outer s H vs Q E hr h => ?_)
  · obtain ⟨ac, W, x, rfl, _⟩ := h
    rfl
  obtain ⟨ac, W, x, rfl, hW, q⟩ := h
  obtain ⟨dx, t0, t1, t2, t3, x0, x1, x2, x3, gw, j0, q0, j1, q1, j2, q2, j3, q3⟩ := hW.ex
  have l0 := paired_len q0
  have l1 := paired_len q1
  have l3 := paired_len q3
  refine ⟨_, pss_cons (ps_if (pt_cmpR op_eq (pv 1) pe_str (nomark _))
      (pss_one (ps_ret (pe_callB (call_len_seq) (by rfl) B.len (by decide +kernel) (pa_cons (pe_fld (pv 0) rfl) pa_nil))))
      (pss_nil))
  (pss_cons (ps_if (pt_cmpR op_eq (pv 1) pe_str (nomark _))
      (pss_one (ps_ret (pe_callB (call_len_seq) (by rfl) B.len (by decide +kernel) (pa_cons (pe_fld (pv 0) rfl) pa_nil))))
      (pss_nil))
  (pss_one (ps_ret (pe_callB (call_len_seq) (by rfl) B.len (by decide +kernel) (pa_cons (pe_fld (pv 0) rfl) pa_nil)))))
    , ?_⟩
  unfold manyW at q
  refine ⟨_, rfl, rfl, _, rfl, ite2 (fun k => ?_) (fun k => ?_)⟩
  · rw [if_pos (V.str.inj (of_decide_eq_true k)), ← l3] at q
    exact ⟨_, rfl, ac, CW, dx, _, _, rfl, gw, T.c_World.cl, T.n_World_passes, lk_World_passes, t3, x3, rfl, .inr j3, q⟩
  · rw [if_neg (fun h => k (decide_eq_true (by rw [h])))] at q
    refine ⟨_, rfl, rfl, _, rfl, ite2 (fun k => ?_) (fun k => ?_)⟩
    · rw [if_pos (V.str.inj (of_decide_eq_true k)), ← l1] at q
      exact ⟨_, rfl, ac, CW, dx, _, _, rfl, gw, T.c_World.cl, T.n_World_stations, lk_World_stations, t1, x1, rfl, .inr j1, q⟩
    · rw [if_neg (fun h => k (decide_eq_true (by rw [h]))), ← l0] at q
      exact ⟨_, rfl, ac, CW, dx, _, _, rfl, gw, T.c_World.cl, T.n_World_satellites, lk_World_satellites, t0, x0, rfl, .inr j0, q⟩
theorem many_row (W : WorldD) (r : RowD) : manyW W r.word = r.many W := by
  unfold manyW
  cases r with
  | room p => exact if_pos rfl
  | sta s m => rw [if_neg (by show ¬ (Str.ofString "station" = Str.ofString "room"); decide +kernel)]; exact if_pos rfl
  | sat s m => rw [if_neg (by show ¬ (Str.ofString "satellite" = Str.ofString "room"); decide +kernel), if_neg (by show ¬ (Str.ofString "satellite" = Str.ofString "station"); decide +kernel)]; rfl
  | store s m => rw [if_neg (by show ¬ (Str.ofString "store" = Str.ofString "room"); decide +kernel), if_neg (by show ¬ (Str.ofString "store" = Str.ofString "station"); decide +kernel)]; rfl
  | energy s m => rw [if_neg (by show ¬ (Str.ofString "energy" = Str.ofString "room"); decide +kernel), if_neg (by show ¬ (Str.ofString "energy" = Str.ofString "station"); decide +kernel)]; rfl
  | efrom s m0 m => rw [if_neg (by show ¬ (Str.ofString "energy from" = Str.ofString "room"); decide +kernel), if_neg (by show ¬ (Str.ofString "energy from" = Str.ofString "station"); decide +kernel)]; rfl
def spCheckRow (K : PySem.W.Frag) (CS CT CR CP CW : Addr) : Sp := fun vs H Q _ => ∃ (ac t : Addr) (W : WorldD) (r : RowD), vs = [.ref ac, .ref t] ∧ WorldAt K CS CT CR CP CW H ac W ∧ SqT K H t (rowV r) ∧ RowOk W r ∧ ∀ H', Same H H' → Q .non H'
set_option maxHeartbeats 8000000 in
theorem d_check_row (T : TxtW K mg CL CS CT CR CP CW aS aR fS fT fR fP) (TR : TxtR K w mg aM) (D_has_row_form : DefOk P w K mg base CX0 2 "has_row_form" ["row"] (spForm K aM)) (D_things_of : DefOk P w K mg base CX0 1 "things_of" ["world", "word"] (spThingsOf K CS CT CR CP CW)) (A : At K mg "check_row" s_check_row ["world", "row"]) :
    DefOk P w K mg base CX0 3 "check_row" ["world", "row"] (spCheckRow K CS CT CR CP CW) := by
  have B := T.L.B
  refine A.ok sc_check_row (fun vs H Q E h => ?_) (fun f cdv A outer s H vs Q E hr h => ?_)
  · obtain ⟨ac, t, W, r, rfl, _⟩ := h
    rfl
  obtain ⟨ac, t, W, r, rfl, hW, ht, rok, q⟩ := h
  obtain ⟨dx, t0, t1, t2, t3, x0, x1, x2, x3, gw, _⟩ := hW.ex
  refine ⟨_, pss_cons (ps_if (pt_not (pt_val (pe_f D_has_row_form (hr.mono (by omega)) pass0 (pa_cons (pv 1) pa_nil))))
      (pss_one (ps_never))
      (pss_nil))
  (pss_cons (ps_asg (pv 1) (pg_star (i := 2) (by rfl) (pgs_cons (pg_name (i := 2) sc_check_row.nd rfl (Or.inl rfl)) (pgs_cons (pg_name (i := 3) sc_check_row.nd rfl (Or.inl rfl)) (pgs_consS (pg_name (i := 4) sc_check_row.nd rfl (Or.inl rfl)) (pgs_nil))))))
  (pss_cons (ps_if (pt_not (pt_chain op_le op_lt pe_int (pv 3) (pe_f D_things_of (hr.mono (by omega)) pass0 (pa_cons (pv 0) (pa_cons (pv 2) pa_nil)))))
      (pss_one (ps_never))
      (pss_nil))
  (pss_cons (ps_if (pt_not (pt_val (pe_callB (cr_all rfl) (by rfl) B.all (by decide +kernel) (pa_cons (pe_lc (own := [("minute", 5)])  rfl sc_check_row.nd (pi_list (pv 4)) (blkOk_by (own := [("minute", 5)]) (N := ["world", "row", "word", "number", "minutes", "minute"]) (sc := defScope s_check_row) (by decide +kernel)) (fun _ _ _ _ _ => pg_name (i := 5) sc_check_row.nd rfl (Or.inl rfl)) (fun _ _ _ _ _ => pts_nil) (fun _ _ _ _ _ => (pe_chain op_le op_lt pe_int (pv 5) (pe_fldK (K := K) rfl (pv 0) rfl)))) pa_nil))))
      (pss_one (ps_never))
      (pss_nil))
  (pss_one (ps_if (PW.pt (pw_and (pt_cmpR op_eq (pv 2) pe_str (nomark _)) (pw_and1 (pt_cmpR op_ge (pe_ix ix_list (pv 4) pe_int (fun _ _ => rfl)) (pe_ix ix_list (pv 4) pe_int (fun _ _ => rfl)) (nomark _)))))
      (pss_one (ps_never))
      (pss_nil))))))
    , ?_⟩
  have lm : (rowI r).length = 1 + r.mins.length := by unfold rowI; rw [List.length_cons, List.length_map]; omega
  have lm2 : r.mins.length ≤ 2 := by cases r <;> simp [RowD.mins]
  refine ⟨_, rfl, t, r.word, rowI r, some r.mins.length, rfl, by rw [← rowV_eq]; exact ht, by omega, TR.min r, fun H1 s1 => ⟨_, rfl, iteF' (by show (!decide ((rowI r).length = 1 + r.mins.length)) = false; rw [decide_eq_true lm]; rfl) ?_⟩⟩
  have lv : (rowV r).length = 2 + r.mins.length := by rw [rowV_eq, List.length_cons, List.length_map]; omega
  refine ⟨_, rfl, t, _, rfl, Same.tup s1 ht, (by omega), (by omega), fun D hD => ⟨_, _, rfl, _, _, rfl, _, _, rfl, rfl, ?_⟩⟩
  have sD := s1.trans (same_new hD (.lst ((rowV r).drop 2)))
  have hDD : (upd H1 D (.lst ((rowV r).drop 2))) D = some (.lst (minV r.mins)) := upd_same
  generalize upd H1 D (.lst ((rowV r).drop 2)) = H2 at sD hDD
  have num := rok.num
  refine ⟨_, rfl, _, _, rfl, rfl, _, rfl, iteT' (decide_eq_true (by omega)) ⟨_, rfl, _, rfl, ac, W, r.word, rfl, hW.same sD, _, _, rfl, rfl, _, rfl, iteF' (by show (!decide ((r.num : Int) < ((manyW W r.word : Nat) : Int))) = false; rw [many_row, decide_eq_true (by omega)]; rfl) ?_⟩⟩
  refine ⟨_, rfl, D, rfl, ⟨_, SqL.of hDD⟩, fun F hF => lc_list (K := K) (a := D) (xs := minV r.mins) (fun i H' => Same H2 H' ∧ H' F = some (.lst ((List.replicate i true).map V.bl))) ⟨same_new hF _, upd_same⟩ (fun i H' _ h => SqL.of (h.1 _ _ hDD)) (fun i y H3 hy hI => ?_) (fun H3 hI => ?_)⟩
  · obtain ⟨hs, hFF⟩ := hI
    unfold minV at hy
    rw [List.getElem?_map] at hy
    cases hn : r.mins[i]? with
    | none => rw [hn] at hy; cases hy
    | some m =>
      rw [hn] at hy
      have ey : V.int (m : Int) = y := Option.some.inj hy
      subst ey
      have hi := (List.getElem?_eq_some_iff.mp hn).1
      have hm := rok.mins m (List.mem_of_getElem? hn)
      refine ⟨rfl, _, rfl, _, _, rfl, rfl, _, rfl, iteT' (decide_eq_true (by omega)) ⟨_, rfl, ac, CW, dx, _, _, rfl, (sD.trans hs) _ _ gw, T.c_World.cl, T.n_World_horizon, lk_World_horizon, _, _, rfl, rfl, _, hFF, ?_, same_at hF hs _, ?_⟩⟩
      · rw [List.length_map, List.length_replicate]
        exact small1000 (by omega)
      · rw [upd_same, List.replicate_succ', List.map_append]
        show some (HO.lst (_ ++ [V.bl (decide ((m : Int) < W.horizon))])) = _
        rw [decide_eq_true hm]
        rfl
  obtain ⟨s3, hFF⟩ := hI
  have allT : ∀ n : Nat, (!(List.replicate n true).all id) = false := fun n => by simp
  refine ⟨F, _, rfl, SqL.of hFF, _, rfl, iteF' (allT _) ?_⟩
  have hDE := s3 _ _ hDD
  have e := q _ (sD.trans s3)
  cases r with
  | room p => exact ⟨_, rfl, rfl, _, rfl, iteF' (by show decide (V.str (Str.ofString "room") = V.str _) = false; decide +kernel) e⟩
  | sta s m => exact ⟨_, rfl, rfl, _, rfl, iteF' (by show decide (V.str (Str.ofString "station") = V.str _) = false; decide +kernel) e⟩
  | sat s m => exact ⟨_, rfl, rfl, _, rfl, iteF' (by show decide (V.str (Str.ofString "satellite") = V.str _) = false; decide +kernel) e⟩
  | store s m => exact ⟨_, rfl, rfl, _, rfl, iteF' (by show decide (V.str (Str.ofString "store") = V.str _) = false; decide +kernel) e⟩
  | energy s m => exact ⟨_, rfl, rfl, _, rfl, iteF' (by show decide (V.str (Str.ofString "energy") = V.str _) = false; decide +kernel) e⟩
  | efrom s m0 m =>
    have asc : m0 < m := rok.asc
    exact ⟨_, rfl, rfl, _, rfl, iteT' (by show decide (V.str (Str.ofString "energy from") = V.str _) = true; decide +kernel) ⟨_, rfl, D, _, 0, _, rfl, rfl, SqL.of hDE, rfl, _, rfl, D, _, 1, _, rfl, rfl, SqL.of hDE, rfl, _, _, rfl, rfl, _, rfl, iteF' (decide_eq_false (by omega)) e⟩⟩
end
end DP
/-! the law's rows -/
namespace DP
open PySem PySem.Spec PyProof.Rows L2
abbrev s__law_row : Stmt := topS 57
theorem sc__law_row : FnScope ["world", "cell", "n", "kind", "s", "m", "first"] ["world", "cell"] (defScope s__law_row) := ⟨rfl, rfl, rfl, by decide +kernel, rfl, by decide +kernel, by decide +kernel⟩
theorem four_ {ds : List Int} (h : ds.length = 4) : ∃ d0 d1 d2 d3, ds = [d0, d1, d2, d3] := match ds, h with | [_, _, _, _], _ => ⟨_, _, _, _, rfl⟩
section
variable {P : Program} {w : World} {K : PySem.W.Frag} {mg : Str → Option Value} {base : Heap} {CL CS CT CR CP CW aS aR fS fT fR fP aM : Addr}
def spLawRow (K : PySem.W.Frag) (CS CT CR CP CW : Addr) : Sp := fun vs H Q _ => ∃ (ac : Addr) (W : WorldD) (x : Int), vs = [.ref ac, .int x] ∧ CG W ∧ WorldAt K CS CT CR CP CW H ac W ∧ ∀ (t : Addr) (r : RowD) (H' : Hp), Same H H' → RowOk W r → SqT K H' t (rowV r) → Q (.ref t) H'
set_option maxHeartbeats 8000000 in
theorem d_law_row (T : TxtW K mg CL CS CT CR CP CW aS aR fS fT fR fP) (D_law_draws : DefOk P w K mg base CX0 1 "_law_draws" ["cell", "count"] spDrawsC) (A : At K mg "_law_row" s__law_row ["world", "cell"]) : DefOk P w K mg base CX0 2 "_law_row" ["world", "cell"] (spLawRow K CS CT CR CP CW) := by
  have B := T.L.B
  refine A.ok sc__law_row (fun vs H Q E h => ?_) (fun f cdv A outer s H vs Q E hr h => ?_)
  · obtain ⟨ac, W, x, rfl, _⟩ := h
    rfl
  obtain ⟨ac, W, x, rfl, wg, hW, q⟩ := h
  refine ⟨_, pss_cons (ps_set (i := 2) sc__law_row.nd rfl (Or.inl rfl) (pe_f D_law_draws (hr.mono (by omega)) pass0 (pa_cons (pv 1) (pa_cons pe_int pa_nil))))
  (pss_cons (ps_set (i := 3) sc__law_row.nd rfl (Or.inl rfl) (pe_ix ix_tup (pe_tup (pa_cons pe_str (pa_cons pe_str (pa_cons pe_str (pa_cons pe_str (pa_cons pe_str (pa_cons pe_str pa_nil))))))) (pe_op op_mod (pe_ix ix_list (pv 2) pe_int (fun _ _ => rfl)) pe_int) (fun _ _ => rfl)))
  (pss_cons (ps_if (pt_cmpR op_eq (pv 3) pe_str (nomark _))
      (pss_one (ps_ret (pe_tup (pa_cons (pv 3) (pa_cons (pe_op op_mod (pe_ix ix_list (pv 2) pe_int (fun _ _ => rfl)) (pe_callB (call_len_seq) (by rfl) B.len (by decide +kernel) (pa_cons (pe_fld (pv 0) rfl) pa_nil))) pa_nil)))))
      (pss_nil))
  (pss_cons (ps_if (pt_cmpR op_eq (pv 3) pe_str (nomark _))
      (pss_one (ps_ret (pe_tup (pa_cons (pv 3) (pa_cons (pe_op op_mod (pe_ix ix_list (pv 2) pe_int (fun _ _ => rfl)) (pe_callB (call_len_seq) (by rfl) B.len (by decide +kernel) (pa_cons (pe_fld (pv 0) rfl) pa_nil))) (pa_cons (pe_op op_mod (pe_ix ix_list (pv 2) pe_int (fun _ _ => rfl)) (pe_fld (pv 0) rfl)) pa_nil))))))
      (pss_nil))
  (pss_cons (ps_set (i := 4) sc__law_row.nd rfl (Or.inl rfl) (pe_op op_mod (pe_ix ix_list (pv 2) pe_int (fun _ _ => rfl)) (pe_callB (call_len_seq) (by rfl) B.len (by decide +kernel) (pa_cons (pe_fld (pv 0) rfl) pa_nil))))
  (pss_cons (ps_set (i := 5) sc__law_row.nd rfl (Or.inl rfl) (pe_op op_mod (pe_ix ix_list (pv 2) pe_int (fun _ _ => rfl)) (pe_fld (pv 0) rfl)))
  (pss_cons (ps_if (pt_cmpR op_ne (pv 3) pe_str (nomark _))
      (pss_one (ps_ret (pe_tup (pa_cons (pv 3) (pa_cons (pv 4) (pa_cons (pv 5) pa_nil))))))
      (pss_nil))
  (pss_cons (ps_set (i := 6) sc__law_row.nd rfl (Or.inl rfl) (pe_op op_mod (pe_ix ix_list (pv 2) pe_int (fun _ _ => rfl)) (pe_op op_sub (pe_fld (pv 0) rfl) pe_int)))
  (pss_one (ps_ret (pe_tup (pa_cons (pv 3) (pa_cons (pv 4) (pa_cons (pv 6) (pa_cons (pe_op op_add (pe_op op_add (pv 6) pe_int) (pe_op op_mod (pe_ix ix_list (pv 2) pe_int (fun _ _ => rfl)) (pe_op op_sub (pe_op op_sub (pe_fld (pv 0) rfl) pe_int) (pv 6)))) pa_nil))))))))))))))
    , ?_⟩
  refine ⟨_, rfl, x, 4, rfl, by decide, fun p ds H1 s1 np hl hp => ?_⟩
  obtain ⟨d0, d1, d2, d3, rfl⟩ := four_ hl
  obtain ⟨dx, t0, t1, t2, t3, x0, x1, x2, x3, gw, j0, q0, j1, q1, j2, q2, j3, q3⟩ := (hW.same s1).ex
  have l0 := paired_len q0
  have l1 := paired_len q1
  have l3 := paired_len q3
  have nS := wg.nS
  have nT := wg.nT
  have nP := wg.nP
  have hh := wg.hor
  have p3 : (0 : Int) < (x3.length : Int) := by omega
  have p1 : (0 : Int) < (x1.length : Int) := by omega
  have p0 : (0 : Int) < (x0.length : Int) := by omega
  have hz : (0 : Int) < W.horizon := by omega
  obtain ⟨kp, ekp⟩ : ∃ k : Nat, d1 % (x3.length : Int) = (k : Int) := ⟨(d1 % (x3.length : Int)).toNat, by have := Int.emod_nonneg d1 (b := (x3.length : Int)) (by omega); omega⟩
  have bkp := Int.emod_lt_of_pos d1 p3
  obtain ⟨kt, ekt⟩ : ∃ k : Nat, d1 % (x1.length : Int) = (k : Int) := ⟨(d1 % (x1.length : Int)).toNat, by have := Int.emod_nonneg d1 (b := (x1.length : Int)) (by omega); omega⟩
  have bkt := Int.emod_lt_of_pos d1 p1
  obtain ⟨ks, eks⟩ : ∃ k : Nat, d1 % (x0.length : Int) = (k : Int) := ⟨(d1 % (x0.length : Int)).toNat, by have := Int.emod_nonneg d1 (b := (x0.length : Int)) (by omega); omega⟩
  have bks := Int.emod_lt_of_pos d1 p0
  obtain ⟨km, ekm⟩ : ∃ k : Nat, d2 % W.horizon = (k : Int) := ⟨(d2 % W.horizon).toNat, by have := Int.emod_nonneg d2 (b := W.horizon) (by omega); omega⟩
  have bkm := Int.emod_lt_of_pos d2 hz
  obtain ⟨k0, ek0⟩ : ∃ k : Nat, d3 % (W.horizon - 1) = (k : Int) := ⟨(d3 % (W.horizon - 1)).toNat, by have := Int.emod_nonneg d3 (b := W.horizon - 1) (by omega); omega⟩
  have bk0 := Int.emod_lt_of_pos d3 (show 0 < W.horizon - 1 by omega)
  have pd : 0 < W.horizon - 1 - (k0 : Int) := by omega
  obtain ⟨k1, ek1⟩ : ∃ k : Nat, d2 % (W.horizon - 1 - (k0 : Int)) = (k : Int) := ⟨(d2 % (W.horizon - 1 - (k0 : Int))).toNat, by have := Int.emod_nonneg d2 (b := W.horizon - 1 - (k0 : Int)) (by omega); omega⟩
  have bk1 := Int.emod_lt_of_pos d2 pd
  have mins1 : ∀ m ∈ [km], (m : Int) < W.horizon := fun m hm => by rw [List.mem_singleton.mp hm]; omega
  refine ⟨(by show 6 ≤ sizeLine; decide), fun tk htk => ?_⟩
  have stk := same_new htk (.tup [.str "room", .str "station", .str "satellite", .str "store", .str "energy", .str "energy from"])
  have hp2 := stk _ _ hp
  have htk2 : SqT K (upd H1 tk (.tup [.str "room", .str "station", .str "satellite", .str "store", .str "energy", .str "energy from"])) tk [.str "room", .str "station", .str "satellite", .str "store", .str "energy", .str "energy from"] := SqT.of upd_same
  generalize upd H1 tk (.tup [.str "room", .str "station", .str "satellite", .str "store", .str "energy", .str "energy from"]) = H2 at stk hp2 htk2
  have gw2 := stk _ _ gw
  have sA := s1.trans stk
  have kd : d0 % 6 = 0 ∨ d0 % 6 = 1 ∨ d0 % 6 = 2 ∨ d0 % 6 = 3 ∨ d0 % 6 = 4 ∨ d0 % 6 = 5 := by omega
  rcases kd with e | e | e | e | e | e
  · refine ⟨_, rfl, _, _, 0, _, rfl, rfl, SqL.of hp2, rfl, _, _, rfl, rfl, (by show (0 : Int) < _; decide), tk, _, _, _, rfl, rfl, htk2, (by rw [e]; rfl), ?_⟩
    refine ⟨_, rfl, rfl, _, rfl, iteT' (by show decide (V.str (Str.ofString "room") = V.str _) = true; decide +kernel) ?_⟩
    refine ⟨_, rfl, _, rfl, _, _, 1, _, rfl, rfl, SqL.of hp2, rfl, _, rfl, ac, CW, dx, _, _, rfl, gw2, T.c_World.cl, T.n_World_passes, lk_World_passes, t3, x3, rfl, .inr (Same.tup stk j3), _, _, rfl, rfl, p3, sz2_, fun v hv => ?_⟩
    refine q v (.room kp) _ (sA.trans (same_new hv _)) ⟨by show kp < W.pass.length; omega, fun m hm => (nomatch hm), True.intro⟩ (SqT.of ?_)
    rw [upd_same]
    show some (HO.tup [.str "room", .int (d1 % (x3.length : Int))]) = _
    rw [ekp]
    rfl
  · refine ⟨_, rfl, _, _, 0, _, rfl, rfl, SqL.of hp2, rfl, _, _, rfl, rfl, (by show (0 : Int) < _; decide), tk, _, _, _, rfl, rfl, htk2, (by rw [e]; rfl), ?_⟩
    refine ⟨_, rfl, rfl, _, rfl, iteF' (by show decide (V.str (Str.ofString "station") = V.str _) = false; decide +kernel) ?_⟩
    refine ⟨_, rfl, rfl, _, rfl, iteT' (by show decide (V.str (Str.ofString "station") = V.str _) = true; decide +kernel) ?_⟩
    refine ⟨_, rfl, _, rfl, _, _, 1, _, rfl, rfl, SqL.of hp2, rfl, _, rfl, ac, CW, dx, _, _, rfl, gw2, T.c_World.cl, T.n_World_stations, lk_World_stations, t1, x1, rfl, .inr (Same.tup stk j1), _, _, rfl, rfl, p1, _, rfl, _, _, 2, _, rfl, rfl, SqL.of hp2, rfl, _, rfl, ac, CW, dx, _, _, rfl, gw2, T.c_World.cl, T.n_World_horizon, lk_World_horizon, _, _, rfl, rfl, hz, (by show 3 ≤ sizeLine; decide), fun v hv => ?_⟩
    refine q v (.sta kt km) _ (sA.trans (same_new hv _)) ⟨by show kt < W.stas.length; omega, mins1, True.intro⟩ (SqT.of ?_)
    rw [upd_same]
    show some (HO.tup [.str "station", .int (d1 % (x1.length : Int)), .int (d2 % W.horizon)]) = _
    rw [ekt, ekm]
    rfl
  · refine ⟨_, rfl, _, _, 0, _, rfl, rfl, SqL.of hp2, rfl, _, _, rfl, rfl, (by show (0 : Int) < _; decide), tk, _, _, _, rfl, rfl, htk2, (by rw [e]; rfl), ?_⟩
    refine ⟨_, rfl, rfl, _, rfl, iteF' (by show decide (V.str (Str.ofString "satellite") = V.str _) = false; decide +kernel) ?_⟩
    refine ⟨_, rfl, rfl, _, rfl, iteF' (by show decide (V.str (Str.ofString "satellite") = V.str _) = false; decide +kernel) ?_⟩
    refine ⟨_, rfl, _, _, 1, _, rfl, rfl, SqL.of hp2, rfl, _, rfl, ac, CW, dx, _, _, rfl, gw2, T.c_World.cl, T.n_World_satellites, lk_World_satellites, t0, x0, rfl, .inr (Same.tup stk j0), _, _, rfl, rfl, p0, ?_⟩
    refine ⟨_, rfl, _, _, 2, _, rfl, rfl, SqL.of hp2, rfl, _, rfl, ac, CW, dx, _, _, rfl, gw2, T.c_World.cl, T.n_World_horizon, lk_World_horizon, _, _, rfl, rfl, hz, ?_⟩
    refine ⟨_, rfl, rfl, _, rfl, iteT' (by show (!decide (V.str (Str.ofString "satellite") = V.str _)) = true; decide +kernel) ?_⟩
    refine ⟨_, rfl, _, rfl, _, rfl, (by show 3 ≤ sizeLine; decide), fun v hv => ?_⟩
    refine q v (.sat ks km) _ (sA.trans (same_new hv _)) ⟨by show ks < W.sats.length; omega, mins1, True.intro⟩ (SqT.of ?_)
    rw [upd_same]
    show some (HO.tup [.str "satellite", .int (d1 % (x0.length : Int)), .int (d2 % W.horizon)]) = _
    rw [eks, ekm]
    rfl
  · refine ⟨_, rfl, _, _, 0, _, rfl, rfl, SqL.of hp2, rfl, _, _, rfl, rfl, (by show (0 : Int) < _; decide), tk, _, _, _, rfl, rfl, htk2, (by rw [e]; rfl), ?_⟩
    refine ⟨_, rfl, rfl, _, rfl, iteF' (by show decide (V.str (Str.ofString "store") = V.str _) = false; decide +kernel) ?_⟩
    refine ⟨_, rfl, rfl, _, rfl, iteF' (by show decide (V.str (Str.ofString "store") = V.str _) = false; decide +kernel) ?_⟩
    refine ⟨_, rfl, _, _, 1, _, rfl, rfl, SqL.of hp2, rfl, _, rfl, ac, CW, dx, _, _, rfl, gw2, T.c_World.cl, T.n_World_satellites, lk_World_satellites, t0, x0, rfl, .inr (Same.tup stk j0), _, _, rfl, rfl, p0, ?_⟩
    refine ⟨_, rfl, _, _, 2, _, rfl, rfl, SqL.of hp2, rfl, _, rfl, ac, CW, dx, _, _, rfl, gw2, T.c_World.cl, T.n_World_horizon, lk_World_horizon, _, _, rfl, rfl, hz, ?_⟩
    refine ⟨_, rfl, rfl, _, rfl, iteT' (by show (!decide (V.str (Str.ofString "store") = V.str _)) = true; decide +kernel) ?_⟩
    refine ⟨_, rfl, _, rfl, _, rfl, (by show 3 ≤ sizeLine; decide), fun v hv => ?_⟩
    refine q v (.store ks km) _ (sA.trans (same_new hv _)) ⟨by show ks < W.sats.length; omega, mins1, True.intro⟩ (SqT.of ?_)
    rw [upd_same]
    show some (HO.tup [.str "store", .int (d1 % (x0.length : Int)), .int (d2 % W.horizon)]) = _
    rw [eks, ekm]
    rfl
  · refine ⟨_, rfl, _, _, 0, _, rfl, rfl, SqL.of hp2, rfl, _, _, rfl, rfl, (by show (0 : Int) < _; decide), tk, _, _, _, rfl, rfl, htk2, (by rw [e]; rfl), ?_⟩
    refine ⟨_, rfl, rfl, _, rfl, iteF' (by show decide (V.str (Str.ofString "energy") = V.str _) = false; decide +kernel) ?_⟩
    refine ⟨_, rfl, rfl, _, rfl, iteF' (by show decide (V.str (Str.ofString "energy") = V.str _) = false; decide +kernel) ?_⟩
    refine ⟨_, rfl, _, _, 1, _, rfl, rfl, SqL.of hp2, rfl, _, rfl, ac, CW, dx, _, _, rfl, gw2, T.c_World.cl, T.n_World_satellites, lk_World_satellites, t0, x0, rfl, .inr (Same.tup stk j0), _, _, rfl, rfl, p0, ?_⟩
    refine ⟨_, rfl, _, _, 2, _, rfl, rfl, SqL.of hp2, rfl, _, rfl, ac, CW, dx, _, _, rfl, gw2, T.c_World.cl, T.n_World_horizon, lk_World_horizon, _, _, rfl, rfl, hz, ?_⟩
    refine ⟨_, rfl, rfl, _, rfl, iteT' (by show (!decide (V.str (Str.ofString "energy") = V.str _)) = true; decide +kernel) ?_⟩
    refine ⟨_, rfl, _, rfl, _, rfl, (by show 3 ≤ sizeLine; decide), fun v hv => ?_⟩
    refine q v (.energy ks km) _ (sA.trans (same_new hv _)) ⟨by show ks < W.sats.length; omega, mins1, True.intro⟩ (SqT.of ?_)
    rw [upd_same]
    show some (HO.tup [.str "energy", .int (d1 % (x0.length : Int)), .int (d2 % W.horizon)]) = _
    rw [eks, ekm]
    rfl
  · refine ⟨_, rfl, _, _, 0, _, rfl, rfl, SqL.of hp2, rfl, _, _, rfl, rfl, (by show (0 : Int) < _; decide), tk, _, _, _, rfl, rfl, htk2, (by rw [e]; rfl), ?_⟩
    refine ⟨_, rfl, rfl, _, rfl, iteF' (by show decide (V.str (Str.ofString "energy from") = V.str _) = false; decide +kernel) ?_⟩
    refine ⟨_, rfl, rfl, _, rfl, iteF' (by show decide (V.str (Str.ofString "energy from") = V.str _) = false; decide +kernel) ?_⟩
    refine ⟨_, rfl, _, _, 1, _, rfl, rfl, SqL.of hp2, rfl, _, rfl, ac, CW, dx, _, _, rfl, gw2, T.c_World.cl, T.n_World_satellites, lk_World_satellites, t0, x0, rfl, .inr (Same.tup stk j0), _, _, rfl, rfl, p0, ?_⟩
    refine ⟨_, rfl, _, _, 2, _, rfl, rfl, SqL.of hp2, rfl, _, rfl, ac, CW, dx, _, _, rfl, gw2, T.c_World.cl, T.n_World_horizon, lk_World_horizon, _, _, rfl, rfl, hz, ?_⟩
    refine ⟨_, rfl, rfl, _, rfl, iteF' (by show (!decide (V.str (Str.ofString "energy from") = V.str _)) = false; decide +kernel) ?_⟩
    refine ⟨_, rfl, _, _, 3, _, rfl, rfl, SqL.of hp2, rfl, _, rfl, ac, CW, dx, _, _, rfl, gw2, T.c_World.cl, T.n_World_horizon, lk_World_horizon, _, _, rfl, rfl, _, _, rfl, rfl, (by show 0 < W.horizon - 1; omega), ?_⟩
    refine ⟨_, rfl, _, rfl, _, rfl, _, rfl, _, _, rfl, rfl, _, rfl, _, _, 2, _, rfl, rfl, SqL.of hp2, rfl, _, rfl, ac, CW, dx, _, _, rfl, gw2, T.c_World.cl, T.n_World_horizon, lk_World_horizon, _, _, rfl, rfl, _, rfl, _, _, rfl, rfl, _, _, rfl, rfl, (by show 0 < W.horizon - 1 - d3 % (W.horizon - 1); rw [ek0]; exact pd), _, _, rfl, rfl, (by show 4 ≤ sizeLine; decide), fun v hv => ?_⟩
    refine q v (.efrom ks k0 (k0 + 1 + k1)) _ (sA.trans (same_new hv _)) ⟨by show ks < W.sats.length; omega, fun m hm => ?_, by show k0 < k0 + 1 + k1; omega⟩ (SqT.of ?_)
    · rcases List.mem_cons.mp hm with rfl | hm
      · omega
      · rw [List.mem_singleton.mp hm]
        omega
    · rw [upd_same]
      show some (HO.tup [.str "energy from", .int (d1 % (x0.length : Int)), .int (d3 % (W.horizon - 1)), .int (d3 % (W.horizon - 1) + 1 + d2 % (W.horizon - 1 - d3 % (W.horizon - 1)))]) = _
      rw [eks, ek0, ek1, show (k0 : Int) + 1 + (k1 : Int) = ((k0 + 1 + k1 : Nat) : Int) by omega]
      rfl
end
end DP
/-! what is no row: check_row with what it raises, what the law catches -/
namespace DP
open PySem PySem.Spec PyProof.Rows L2
abbrev s__law_refused : Stmt := topS 59
theorem sc__law_refused : FnScope ["world", "row", "e"] ["world", "row"] (defScope s__law_refused) := ⟨rfl, rfl, rfl, by decide +kernel, rfl, by decide +kernel, by decide +kernel⟩
abbrev s__law_wrong : Stmt := topS 58
theorem sc__law_wrong : FnScope ["world", "row", "cell", "kind", "number", "counts", "above"] ["world", "row", "cell"] (defScope s__law_wrong) := ⟨rfl, rfl, rfl, by decide +kernel, rfl, by decide +kernel, by decide +kernel⟩
abbrev s_law : Stmt := topS 60
theorem sc_law : FnScope ["script", "world", "k", "row"] ["script"] (defScope s_law) := ⟨rfl, rfl, rfl, by decide +kernel, rfl, by decide +kernel, by decide +kernel⟩
/-- the class BadRow and its kin -/
structure TxtB (K : PySem.W.Frag) (mg : Str → Option Value) (CB CE CN : Addr) : Prop where
  gB : mg "BadRow" = some (.ref CB)
  xB : PySem.W.excIn K CB [.type "ValueError", .type "Exception", .type "BaseException", .type "object"] "ValueError.__new__" = true
  kB : PySem.W.keepIn K (.ref CB) = true
  bB : PySem.W.subIn K (.ref CB) (.type "BaseException") = some true
  tB : PySem.W.typeIn K (.ref CB) = some (.type "type")
  iB : PySem.W.isClsIn K CB = true
  sB : PySem.W.subIn K (.ref CB) (.ref CB) = some true
  gE : mg "PassError" = some (.ref CE)
  iE : PySem.W.isClsIn K CE = true
  tE : PySem.W.typeIn K (.ref CE) = some (.type "type")
  sE : PySem.W.subIn K (.ref CB) (.ref CE) = some true
  gN : mg "BadPrice" = some (.ref CN)
  iN : PySem.W.isClsIn K CN = true
  tN : PySem.W.typeIn K (.ref CN) = some (.type "type")
  sN : PySem.W.subIn K (.ref CB) (.ref CN) = some false
structure TxtI (K : PySem.W.Frag) (CB : Addr) : Prop where
  ex : ExcC K CB
structure TxtW4 (K : PySem.W.Frag) (aM : Addr) : Prop where
  w0 : PySem.W.nsIn K aM "rooms" = some none
  w1 : PySem.W.nsIn K aM "stations" = some none
  w2 : PySem.W.nsIn K aM "" = some none
  w3 : PySem.W.nsIn K aM "energy to" = some none
theorem TxtB.te {K : PySem.W.Frag} {mg : Str → Option Value} {CB CE CN : Addr} (T : TxtB K mg CB CE CN) : PySem.W.exmOne K (.ref CB) (.ref CB) = some true := by
  have e1 : (PySem.W.subIn K (.ref CB) (.type "BaseException") == some true) = true := by rw [T.bB] <;> rfl
  have e2 : ((PySem.W.clsIn K CB).isSome && PySem.W.typeIn K (.ref CB) == some (.type "type")) = true := by
    have h2' : (PySem.W.clsIn K CB).isSome = true := T.iB
    rw [h2', T.tB] <;> rfl
  show (if (PySem.W.subIn K (.ref CB) (.type "BaseException") == some true) = true then (if ((PySem.W.clsIn K CB).isSome && PySem.W.typeIn K (.ref CB) == some (.type "type")) = true then PySem.W.subIn K (.ref CB) (.ref CB) else none) else none) = some true
  rw [if_pos e1, if_pos e2]
  exact T.sB
theorem kit_of {K : PySem.W.Frag} {C D : Addr} {b : Bool} (i : PySem.W.isClsIn K D = true) (t : PySem.W.typeIn K (.ref D) = some (.type "type")) (s : PySem.W.subIn K (.ref C) (.ref D) = some b) (ne : b = false → C ≠ D) : PySem.W.kitOne K (.ref C) (.ref D) = some b := by
  have e2 : ((PySem.W.clsIn K D).isSome && PySem.W.typeIn K (.ref D) == some (.type "type")) = true := by
    have h2' : (PySem.W.clsIn K D).isSome = true := i
    rw [h2', t] <;> rfl
  show (if ((Value.ref C : Value) == .ref D) = true then some true else if ((PySem.W.clsIn K D).isSome && PySem.W.typeIn K (.ref D) == some (.type "type")) = true then PySem.W.subIn K (.ref C) (.ref D) else none) = some b
  by_cases c : ((Value.ref C : Value) == .ref D) = true
  · have e : C = D := Value.ref.inj (beq_iff_eq.mp c)
    cases b with
    | true => rw [if_pos c]
    | false => exact absurd e (ne rfl)
  · rw [if_neg c, if_pos e2]
    exact s
theorem TxtB.kE {K : PySem.W.Frag} {mg : Str → Option Value} {CB CE CN : Addr} (T : TxtB K mg CB CE CN) : PySem.W.kitOne K (.ref CB) (.ref CE) = some true := kit_of T.iE T.tE T.sE (fun z => Bool.noConfusion z)
theorem TxtB.kN {K : PySem.W.Frag} {mg : Str → Option Value} {CB CE CN : Addr} (T : TxtB K mg CB CE CN) : PySem.W.kitOne K (.ref CB) (.ref CN) = some false := kit_of T.iN T.tN T.sN (fun _ z => by
  have h := T.sN
  rw [← z, T.sB] at h
  exact Bool.noConfusion (Option.some.inj h))
section
variable {P : Program} {w : World} {K : PySem.W.Frag} {mg : Str → Option Value} {base : Heap} {x : Str} {st : Stmt} {ps N : List Str} {k : Nat} {sp sp' : Sp}
theorem At.okX (F : At K mg x st ps) (S : FnScope N ps (defScope st)) (len : ∀ vs H Q E, sp vs H Q E → vs.length = ps.length)
    (hbody : ∀ (f : Addr) (cdv : Value) (A : Around) (outer : List Env) (s : Shared) (H : Hp) (vs : List V) (Q : VK) (E : XK), Room k (A.deeper (envOfC x (defScope st) s.heap.objs.size f cdv)) → sp vs H Q E →
      ∃ t, PSs (cxOf (L2.CX P w) P w K mg base N x (defScope st) f cdv A outer s H E) (defBody st) t ∧ t { nx := fun _ H' => Q .non H', rt := Q } (start N vs) H) : DefOk P w K mg base (L2.CX P w) (k + 1) x ps sp := by
  obtain ⟨f, fd, G, m, b⟩ := F.ex
  obtain ⟨oc, od, _, _, _, _, _, _, osl, _, lk, _⟩ := G.ex
  exact ⟨f, fd, G.okX S len (fun cdv A outer s H vs Q E hr h => hbody f cdv A outer s H vs Q E hr h), m, G.kp, b, oc, od, osl, lk⟩
/-- a call within a try: what it raises is the clauses' -/
theorem pe_fS {X : Cx} {W : WX} {e : Expr} {es : List Expr} {t : TA} {p pos : Pos} (D : DefOk X.prog X.w X.K X.mg X.base (L2.CX X.prog X.w) k x ps sp) (hr : Room k X.A) (tk : Takes X W) (ha : PA X (e :: es) t)
    (hg : Gl X x := by rfl) (hdb : (x == ("__debug__" : Str)) = false := by decide) (he : starEach (e :: es) X.env = (false, eval e X.env) :: starEach es X.env := by rfl) (hpl : (backTo pos (starEach es X.env)).any (·.1) = false := by rfl) :
    PE X (.Call (.Name x p) (e :: es) [] pos) (tCallS sp (WE W) t) := by
  obtain ⟨f, fd, G, m, kp, b, _⟩ := D.ex
  exact pe_callS G hr hg m kp b (fun σ => passAt tk σ) ha hdb he hpl
end
def minOk (W : WorldD) (m : Int) : Bool := decide (0 ≤ m) && decide (m < W.horizon)
def ascB (x : Str) : List Int → Bool
  | [m0, m1] => !(decide (x = ("energy from" : Str)) && decide (m0 ≥ m1))
  | _ => true
def bodyB (W : WorldD) (x : Str) : List Int → Bool
  | [] => false
  | n :: ms => decide (0 ≤ n) && decide (n < ((manyW W x : Nat) : Int)) && ms.all (minOk W) && ascB x ms
def okRowB (W : WorldD) (x : Str) (ns : List Int) (o : Option Nat) : Bool := formB ns.length o && bodyB W x ns
theorem ok_form {W : WorldD} {x : Str} {ns : List Int} {o : Option Nat} (h : formB ns.length o = false) : okRowB W x ns o = false := by unfold okRowB; rw [h]; rfl
theorem ok_body {W : WorldD} {x : Str} {ns : List Int} {o : Option Nat} (h : bodyB W x ns = false) : okRowB W x ns o = false := by unfold okRowB; rw [h, Bool.and_false]
section
variable {P : Program} {w : World} {K : PySem.W.Frag} {mg : Str → Option Value} {base : Heap} {CL CS CT CR CP CW aS aR fS fT fR fP aM CB CE CN : Addr}
def spCheckRowX (K : PySem.W.Frag) (CS CT CR CP CW aM CB : Addr) : Sp := fun vs H Q E => ∃ (ac t : Addr) (W : WorldD) (x : Str) (ns : List Int) (o : Option Nat), vs = [.ref ac, .ref t] ∧ WorldAt K CS CT CR CP CW H ac W ∧ SqT K H t (.str x :: ns.map V.int) ∧ ns.length ≤ 100 ∧ MinIs K aM x o ∧
  (okRowB W x ns o = true → ∀ H', Same H H' → Q .non H') ∧ (okRowB W x ns o = false → ∀ H', Same H H' → E (.ref CB) none H')
set_option maxHeartbeats 8000000 in
theorem d_check_rowX (T : TxtW K mg CL CS CT CR CP CW aS aR fS fT fR fP) (TR : TxtR K w mg aM) (TE : TxtB K mg CB CE CN) (D_has_row_form : DefOk P w K mg base CX0 2 "has_row_form" ["row"] (spForm K aM)) (D_things_of : DefOk P w K mg base CX0 1 "things_of" ["world", "word"] (spThingsOf K CS CT CR CP CW)) (A : At K mg "check_row" s_check_row ["world", "row"]) :
    DefOk P w K mg base (L2.CX P w) 3 "check_row" ["world", "row"] (spCheckRowX K CS CT CR CP CW aM CB) := by
  have B := T.L.B
  refine A.okX sc_check_row (fun vs H Q E h => ?_) (fun f cdv A outer s H vs Q E hr h => ?_)
  · obtain ⟨ac, t, W, x, ns, o, rfl, _⟩ := h
    rfl
  obtain ⟨ac, t, W, x, ns, o, rfl, hW, ht, hl, mi, q, qe⟩ := h
  obtain ⟨dx, t0, t1, t2, t3, x0, x1, x2, x3, gw, _⟩ := hW.ex
  refine ⟨_, pss_cons (ps_if (pt_not (pt_val (pe_f D_has_row_form (hr.mono (by omega)) pass0 (pa_cons (pv 1) pa_nil))))
      (pss_one (ps_raise rfl (takes_of rfl rfl rfl rfl) (pmk_own PySem.F.excBase_ValueError TE.xB TE.gB TE.kB (raises_own TE.bB TE.tB) rfl)))
      (pss_nil))
  (pss_cons (ps_asg (pv 1) (pg_star (i := 2) (by rfl) (pgs_cons (pg_name (i := 2) sc_check_row.nd rfl (Or.inl rfl)) (pgs_cons (pg_name (i := 3) sc_check_row.nd rfl (Or.inl rfl)) (pgs_consS (pg_name (i := 4) sc_check_row.nd rfl (Or.inl rfl)) (pgs_nil))))))
  (pss_cons (ps_if (pt_not (pt_chain op_le op_lt pe_int (pv 3) (pe_f D_things_of (hr.mono (by omega)) pass0 (pa_cons (pv 0) (pa_cons (pv 2) pa_nil)))))
      (pss_one (ps_raise rfl (takes_of rfl rfl rfl rfl) (pmk_own PySem.F.excBase_ValueError TE.xB TE.gB TE.kB (raises_own TE.bB TE.tB) rfl)))
      (pss_nil))
  (pss_cons (ps_if (pt_not (pt_val (pe_callB (cr_all rfl) (by rfl) B.all (by decide +kernel) (pa_cons (pe_lc (own := [("minute", 5)])  rfl sc_check_row.nd (pi_list (pv 4)) (blkOk_by (own := [("minute", 5)]) (N := ["world", "row", "word", "number", "minutes", "minute"]) (sc := defScope s_check_row) (by decide +kernel)) (fun _ _ _ _ _ => pg_name (i := 5) sc_check_row.nd rfl (Or.inl rfl)) (fun _ _ _ _ _ => pts_nil) (fun _ _ _ _ _ => (pe_chain op_le op_lt pe_int (pv 5) (pe_fldK (K := K) rfl (pv 0) rfl)))) pa_nil))))
      (pss_one (ps_raise rfl (takes_of rfl rfl rfl rfl) (pmk_own PySem.F.excBase_ValueError TE.xB TE.gB TE.kB (raises_own TE.bB TE.tB) rfl)))
      (pss_nil))
  (pss_one (ps_if (PW.pt (pw_and (pt_cmpR op_eq (pv 2) pe_str (nomark _)) (pw_and1 (pt_cmpR op_ge (pe_ix ix_list (pv 4) pe_int (fun _ _ => rfl)) (pe_ix ix_list (pv 4) pe_int (fun _ _ => rfl)) (nomark _)))))
      (pss_one (ps_raise rfl (takes_of rfl rfl rfl rfl) (pmk_own PySem.F.excBase_ValueError TE.xB TE.gB TE.kB (raises_own TE.bB TE.tB) rfl)))
      (pss_nil))))))
    , ?_⟩
  refine ⟨_, rfl, t, x, ns, o, rfl, ht, hl, mi, fun H1 s1 => ⟨_, rfl, ite2 (fun k => ?_) (fun k => ?_)⟩⟩
  · exact qe (ok_form (by cases e : formB ns.length o with | false => rfl | true => rw [e] at k; exact Bool.noConfusion k)) _ s1
  have hf : formB ns.length o = true := by
    cases e : formB ns.length o with
    | true => rfl
    | false => exact absurd (show (!formB ns.length o) = true by rw [e]; rfl) k
  obtain ⟨ko, eo⟩ : ∃ ko, o = some ko := by
    cases o with
    | none => exact Bool.noConfusion hf
    | some ko => exact ⟨ko, rfl⟩
  subst eo
  have ln : ns.length = 1 + ko := of_decide_eq_true hf
  obtain ⟨n, ms, en⟩ : ∃ n ms, ns = n :: ms := by
    cases ns with
    | nil => simp at ln; omega
    | cons n ms => exact ⟨n, ms, rfl⟩
  subst en
  have lm : ms.length = ko := by rw [List.length_cons] at ln; omega
  have lm2 : ms.length ≤ 99 := by rw [List.length_cons] at hl; omega
  refine ⟨_, rfl, t, _, rfl, Same.tup s1 ht, (by simp), (by simp; omega), fun D hD => ⟨_, _, rfl, _, _, rfl, _, _, rfl, rfl, ?_⟩⟩
  have sD := s1.trans (same_new hD (.lst ((V.str x :: (n :: ms).map V.int).drop 2)))
  have hDD : (upd H1 D (.lst ((V.str x :: (n :: ms).map V.int).drop 2))) D = some (.lst (ms.map V.int)) := upd_same
  generalize upd H1 D (.lst ((V.str x :: (n :: ms).map V.int).drop 2)) = H2 at sD hDD
  have bodyF : (decide (0 ≤ n) && decide (n < ((manyW W x : Nat) : Int)) && ms.all (minOk W) && ascB x ms) = false → okRowB W x (n :: ms) (some ko) = false := fun h => ok_body h
  have bodyT : (decide (0 ≤ n) && decide (n < ((manyW W x : Nat) : Int)) && ms.all (minOk W) && ascB x ms) = true → okRowB W x (n :: ms) (some ko) = true := fun h => by
    unfold okRowB
    rw [hf, Bool.true_and]
    exact h
  refine ⟨_, rfl, _, _, rfl, rfl, _, rfl, ite2 (fun k1 => ⟨_, rfl, _, rfl, ac, W, x, rfl, hW.same sD, _, _, rfl, rfl, _, rfl, ite2 (fun k2 => ?_) (fun k2 => ?_)⟩) (fun k1 => ?_)⟩
  · exact qe (bodyF (by
      have k3 : (!decide (n < ((manyW W x : Nat) : Int))) = true := k2
      rw [show decide (n < ((manyW W x : Nat) : Int)) = false by cases e : decide (n < ((manyW W x : Nat) : Int)) with | false => rfl | true => rw [e] at k3; exact Bool.noConfusion k3, Bool.and_false]
      rfl)) _ sD
  · refine ⟨_, rfl, D, rfl, ⟨_, SqL.of hDD⟩, fun F hF => lc_list (K := K) (a := D) (xs := ms.map V.int) (fun i H' => Same H2 H' ∧ H' F = some (.lst (((ms.take i).map (minOk W)).map V.bl))) ⟨same_new hF _, upd_same⟩ (fun i H' _ h => SqL.of (h.1 _ _ hDD)) (fun i y H3 hy hI => ?_) (fun H3 hI => ?_)⟩
    · obtain ⟨hs, hFF⟩ := hI
      rw [List.getElem?_map] at hy
      cases hn : ms[i]? with
      | none => rw [hn] at hy; cases hy
      | some m =>
        rw [hn] at hy
        have ey : V.int m = y := Option.some.inj hy
        subst ey
        have hi := (List.getElem?_eq_some_iff.mp hn).1
        have tk : (ms.take (i + 1)).map (minOk W) = (ms.take i).map (minOk W) ++ [minOk W m] := by
          rw [List.take_succ, hn, List.map_append]
          rfl
        have sm : (((ms.take i).map (minOk W)).map V.bl).length + 1 ≤ sizeLine := by
          rw [List.length_map, List.length_map, List.length_take]
          exact small1000 (by omega)
        refine ⟨rfl, _, rfl, _, _, rfl, rfl, _, rfl, ite2 (fun c1 => ⟨_, rfl, ac, CW, dx, _, _, rfl, (sD.trans hs) _ _ gw, T.c_World.cl, T.n_World_horizon, lk_World_horizon, _, _, rfl, rfl, _, hFF, sm, same_at hF hs _, ?_⟩) (fun c1 => ⟨_, hFF, sm, same_at hF hs _, ?_⟩)⟩
        · rw [upd_same, tk, List.map_append]
          show some (HO.lst (_ ++ [V.bl (decide (m < W.horizon))])) = _
          rw [show minOk W m = decide (m < W.horizon) by unfold minOk; rw [show decide (0 ≤ m) = true from c1, Bool.true_and]]
          rfl
        · rw [upd_same, tk, List.map_append]
          rw [show minOk W m = false by unfold minOk; rw [show decide (0 ≤ m) = false from Bool.eq_false_iff.mpr c1]; rfl]
          rfl
    obtain ⟨s3, hFF⟩ := hI
    rw [List.length_map, List.take_length] at hFF
    have hn1 : decide (0 ≤ n) = true := k1
    have hn2 : decide (n < ((manyW W x : Nat) : Int)) = true := by
      cases e : decide (n < ((manyW W x : Nat) : Int)) with
      | true => rfl
      | false => exact absurd (show (!decide (n < ((manyW W x : Nat) : Int))) = true by rw [e]; rfl) k2
    have eall : (ms.map (minOk W)).all id = ms.all (minOk W) := by rw [List.all_map]; rfl
    have sE := sD.trans s3
    refine ⟨F, _, rfl, SqL.of hFF, _, rfl, ite2 (fun k3 => ?_) (fun k3 => ?_)⟩
    · exact qe (bodyF (by
        have k4 : (!(ms.map (minOk W)).all id) = true := k3
        rw [show ms.all (minOk W) = false by rw [← eall]; cases e : (ms.map (minOk W)).all id with | false => rfl | true => rw [e] at k4; exact Bool.noConfusion k4, Bool.and_false]
        rfl)) _ sE
    have h3 : ms.all (minOk W) = true := by
      rw [← eall]
      cases e : (ms.map (minOk W)).all id with
      | true => rfl
      | false => exact absurd (show (!(ms.map (minOk W)).all id) = true by rw [e]; rfl) k3
    have hDE := s3 _ _ hDD
    refine ⟨_, rfl, rfl, _, rfl, ite2 (fun k5 => ?_) (fun k5 => ?_)⟩
    · have ex : x = ("energy from" : Str) := V.str.inj (of_decide_eq_true k5)
      have e2 : ko = 2 := by
        obtain ⟨tk, hk⟩ := TR.m_efrom
        obtain ⟨tk2, hk2⟩ := mi
        rw [ex, hk] at hk2
        have := Option.some.inj (Option.some.inj hk2)
        have := Value.int.inj this
        omega
      obtain ⟨m0, m1, em⟩ : ∃ m0 m1, ms = [m0, m1] := by
        match ms, lm.trans e2 with
        | [m0, m1], _ => exact ⟨m0, m1, rfl⟩
      subst em
      refine ⟨_, rfl, D, _, 0, _, rfl, rfl, SqL.of hDE, rfl, _, rfl, D, _, 1, _, rfl, rfl, SqL.of hDE, rfl, _, _, rfl, rfl, _, rfl, ite2 (fun k6 => ?_) (fun k6 => ?_)⟩
      · exact qe (bodyF (by rw [show ascB x [m0, m1] = false by show (!(decide (x = ("energy from" : Str)) && decide (m0 ≥ m1))) = false; rw [decide_eq_true ex, show decide (m0 ≥ m1) = true from k6]; rfl, Bool.and_false])) _ sE
      · exact q (bodyT (by rw [hn1, hn2, h3, show ascB x [m0, m1] = true by show (!(decide (x = ("energy from" : Str)) && decide (m0 ≥ m1))) = true; rw [show decide (m0 ≥ m1) = false from Bool.eq_false_iff.mpr k6, Bool.and_false]; rfl]; rfl)) _ sE
    · have ex : x ≠ ("energy from" : Str) := fun z => k5 (by rw [z]; exact decide_eq_true rfl)
      exact q (bodyT (by
        rw [hn1, hn2, h3, show ascB x ms = true by
          unfold ascB
          split
          · rw [decide_eq_false ex]; rfl
          · rfl]
        rfl)) _ sE
  · exact ⟨_, rfl, iteT' rfl (qe (bodyF (by rw [show decide (0 ≤ n) = false from Bool.eq_false_iff.mpr k1]; rfl)) _ sD)⟩
def spRefused (K : PySem.W.Frag) (CS CT CR CP CW aM : Addr) : Sp := fun vs H Q _ => ∃ (ac t : Addr) (W : WorldD) (x : Str) (ns : List Int) (o : Option Nat), vs = [.ref ac, .ref t] ∧ WorldAt K CS CT CR CP CW H ac W ∧ SqT K H t (.str x :: ns.map V.int) ∧ ns.length ≤ 100 ∧ MinIs K aM x o ∧ okRowB W x ns o = false ∧ ∀ H', Same H H' → Q (.bl true) H'
theorem pss_when {X : Cx} {p : Prop} {ss : List Stmt} {t : TS} (h : p → PSs X ss t) : PSs X ss (fun D σ H => p ∧ t D σ H) := ⟨fun pins s σ H D I q => (h q.1).run pins s σ H D I q.2⟩
set_option maxHeartbeats 8000000 in
theorem d_refused (B : Bt mg) (TE : TxtB K mg CB CE CN) (TI : TxtI K CB) (D_check_row : DefOk P w K mg base (L2.CX P w) 3 "check_row" ["world", "row"] (spCheckRowX K CS CT CR CP CW aM CB)) (A : At K mg "_law_refused" s__law_refused ["world", "row"]) :
    DefOk P w K mg base CX0 4 "_law_refused" ["world", "row"] (spRefused K CS CT CR CP CW aM) := by
  refine A.ok sc__law_refused (fun vs H Q E h => ?_) (fun f cdv A outer s H vs Q E hr h => ?_)
  · obtain ⟨ac, t, W, x, ns, o, rfl, _⟩ := h
    rfl
  obtain ⟨ac, t, W, x, ns, o, rfl, hW, ht, hl, mi, hno, q⟩ := h
  have hr1 : Room 3 _ := hr.mono (by omega)
  refine ⟨_, pss_cons (ps_try_as (i := 2) (Wout := fun _ _ _ _ => False) rfl rfl sc__law_refused.nd rfl rfl ⟨rfl, by decide, Or.inl TE.gB⟩ takes0
      (fun W pn xe tk _ => pss_one (ps_expr (by exact (pe_fS D_check_row hr1 tk (pa_cons (pv 0) (pa_cons (pv 1) pa_nil))))))
      (fun a oe cls d pn hz hf => pss_when (p := cls = Value.ref CB ∧ d = none) (fun h => pss_one (ps_ret (pe_and (pe_callB (call_isE TI.ex (by rw [← h.1, ← h.2]; exact hz) hf) (by rfl) B.isinstance (by decide +kernel) (pa_cons (pv 2) (pa_cons (pe_ga TE.gE) pa_nil))) (pe_one (pe_not (pe_callB (call_isE TI.ex (by rw [← h.1, ← h.2]; exact hz) hf) (by rfl) B.isinstance (by decide +kernel) (pa_cons (pv 2) (pa_cons (pe_ga TE.gN) pa_nil)))))))))) (pss_one (ps_ret pe_bl))
    , ?_⟩
  have kE := TE.kE
  have kN := TE.kN
  refine ⟨_, rfl, _, rfl, ac, t, W, x, ns, o, rfl, hW, ht, hl, mi, fun h => ?_, fun _ H1 s1 => ⟨true, TE.te, fun _ a0 ha => ⟨⟨rfl, rfl⟩, ?_⟩, fun z => Bool.noConfusion z⟩⟩
  · rw [hno] at h; exact Bool.noConfusion h
  refine ⟨_, rfl, _, .ref CE, true, rfl, fun u hu => by cases hu; rfl, kE, true, rfl, iteT ?_⟩
  exact ⟨_, rfl, _, .ref CN, false, rfl, fun u hu => by cases hu; rfl, kN, false, rfl, q _ s1⟩
theorem six_m1 (n d : Nat) (h : 1 ≤ n) : HT.sIx n d (some (-1)) = n - 1 := by
  show (if (-1 : Int) < 0 then ((-1 : Int) + (n : Int)).toNat else min (-1 : Int).toNat n) = n - 1
  rw [if_pos (by decide)]
  omega
theorem cut_m1 {y : V} {ns : List Int} (h : 1 ≤ ns.length) : cutV (y :: ns.map V.int) none (some (-1)) = y :: (ns.dropLast).map V.int := by
  unfold cutV
  rw [HT.sIx_none, six_m1 _ _ (by rw [List.length_cons]; omega), List.drop_zero, List.length_cons, List.length_map]
  obtain ⟨n, hn⟩ : ∃ n, ns.length = n + 1 := ⟨ns.length - 1, by omega⟩
  rw [hn, List.dropLast_eq_take, hn]
  show List.take (n + 1) (y :: ns.map V.int) = _
  rw [List.take_succ_cons, List.map_take]
  rfl
theorem cut_2 {y z : V} {xs : List V} : cutV (y :: z :: xs) (some 2) none = xs := by
  unfold cutV
  rw [show HT.sIx (y :: z :: xs).length 0 (some 2) = min 2 (y :: z :: xs).length from HT.sIx_nat _ _ 2, HT.sIx_none, List.length_cons, List.length_cons, Nat.min_eq_left (by omega)]
  exact List.take_of_length_le (by rw [List.length_drop, List.length_cons, List.length_cons]; exact Nat.le_refl _)
theorem cntV {a b : Int} {x : Str} : valV (mergeK [] [((Sum.inr "room" : Key), V.int a), ((Sum.inr "station" : Key), V.int b)]) (Sum.inr x) = if x = ("room" : Str) then some (V.int a) else if x = ("station" : Str) then some (V.int b) else none := by
  have e : mergeK [] [((Sum.inr "room" : Key), V.int a), ((Sum.inr "station" : Key), V.int b)] = [((Sum.inr "room" : Key), V.int a), ((Sum.inr "station" : Key), V.int b)] := by
    unfold mergeK
    show putK (putK [] (Sum.inr "room" : Key) (V.int a)) (Sum.inr "station" : Key) (V.int b) = _
    have h1 : putK [] (Sum.inr "room" : Key) (V.int a) = [((Sum.inr "room" : Key), V.int a)] := by unfold putK; rfl
    rw [h1]
    unfold putK
    rw [if_neg]
    · rfl
    · rw [List.any_cons, List.any_nil, Bool.or_false]
      intro h
      have := Sum.inr.inj (of_decide_eq_true h)
      exact absurd this (by show ¬ (Str.ofString "room" = Str.ofString "station"); decide +kernel)
  rw [e]
  unfold valV
  by_cases c : x = ("room" : Str)
  · rw [if_pos c, List.find?_cons_of_pos (by rw [c]; exact decide_eq_true rfl)]
    rfl
  · rw [if_neg c, List.find?_cons_of_neg (by intro h; exact c (Sum.inr.inj (of_decide_eq_true h)).symm)]
    by_cases c2 : x = ("station" : Str)
    · rw [if_pos c2, List.find?_cons_of_pos (by rw [c2]; exact decide_eq_true rfl)]
      rfl
    · rw [if_neg c2, List.find?_cons_of_neg (by intro h; exact c2 (Sum.inr.inj (of_decide_eq_true h)).symm)]
      rfl
theorem bad3 {W : WorldD} {r : RowD} {val : Int} {o : Option Nat} (hm : 1 ≤ r.mins.length) (hv : minOk W val = false) : okRowB W r.word ((rowI r).dropLast ++ [val]) o = false := by
  refine ok_body ?_
  unfold rowI
  rw [List.dropLast_cons_of_ne_nil (by intro h; have := congrArg List.length h; rw [List.length_map, List.length_nil] at this; omega), List.cons_append]
  show (_ && _ && List.all _ (minOk W) && _) = false
  rw [List.all_append, List.all_cons, hv, Bool.false_and, Bool.and_false, Bool.and_false, Bool.false_and]
def spWrong (K : PySem.W.Frag) (CS CT CR CP CW aM : Addr) : Sp := fun vs H Q _ => ∃ (ac t : Addr) (W : WorldD) (r : RowD) (c : Int), vs = [.ref ac, .ref t, .int c] ∧ CG W ∧ WorldAt K CS CT CR CP CW H ac W ∧ SqT K H t (rowV r) ∧ RowOk W r ∧
  ∀ (u : Addr) (x : Str) (ns : List Int) (o : Option Nat) (H' : Hp), Same H H' → SqT K H' u (.str x :: ns.map V.int) → ns.length ≤ 100 → MinIs K aM x o → okRowB W x ns o = false → Q (.ref u) H'
set_option maxHeartbeats 8000000 in
theorem d_wrong (T : TxtW K mg CL CS CT CR CP CW aS aR fS fT fR fP) (TR : TxtR K w mg aM) (TW : TxtW4 K aM) (A : At K mg "_law_wrong" s__law_wrong ["world", "row", "cell"]) : DefOk P w K mg base CX0 1 "_law_wrong" ["world", "row", "cell"] (spWrong K CS CT CR CP CW aM) := by
  have B := T.L.B
  refine A.ok sc__law_wrong (fun vs H Q E h => ?_) (fun f cdv A outer s H vs Q E hr h => ?_)
  · obtain ⟨ac, t, W, r, c, rfl, _⟩ := h
    rfl
  obtain ⟨ac, t, W, r, c, rfl, wg, hW, ht, rok, q⟩ := h
  refine ⟨_, pss_cons (ps_set (i := 3) sc__law_wrong.nd rfl (Or.inl rfl) (pe_op op_mod (pe_callTy (call_int1) (by rfl) B.int (by decide +kernel) (pa_cons (pv 2) pa_nil)) pe_int))
  (pss_cons (ps_set (i := 4) sc__law_wrong.nd rfl (Or.inl rfl) (pe_op op_mod (pe_op op_fdiv (pe_callTy (call_int1) (by rfl) B.int (by decide +kernel) (pa_cons (pv 2) pa_nil)) pe_int) pe_int))
  (pss_cons (ps_set (i := 5) sc__law_wrong.nd rfl (Or.inl rfl) (pe_disp (pps_cons pe_str (pe_callB (call_len_seq) (by rfl) B.len (by decide +kernel) (pa_cons (pe_fld (pv 0) rfl) pa_nil)) (pps_cons pe_str (pe_callB (call_len_seq) (by rfl) B.len (by decide +kernel) (pa_cons (pe_fld (pv 0) rfl) pa_nil)) pps_nil)) (by rfl) (by rfl) (fun z => by cases z) (by decide)))
  (pss_cons (ps_if (pt_cmpR op_eq (pv 3) pe_int (nomark _))
      (pss_one (ps_ret (pe_op op_catT (pe_tup (pa_cons (pe_ix ix_tup (pe_tup (pa_cons pe_str (pa_cons pe_str (pa_cons pe_str (pa_cons pe_str pa_nil))))) (pe_op op_mod (pv 4) pe_int) (fun _ _ => rfl)) pa_nil)) (pe_slice sl_tup (pv 1) (po_some pe_int) po_none))))
      (pss_nil))
  (pss_cons (ps_if (pt_cmpR op_eq (pv 3) pe_int (nomark _))
      (pss_one (ps_ret (pe_ifExp (pt_cmpR op_eq (pe_op op_mod (pv 4) pe_int) pe_int (nomark _)) (pe_slice sl_tup (pv 1) po_none (po_some (pe_un un_neg pe_int))) (pe_op op_catT (pv 1) (pe_tup (pa_cons (pv 4) pa_nil))))))
      (pss_nil))
  (pss_cons (ps_if (pt_cmpR op_eq (pv 3) pe_int (nomark _))
      (pss_cons (ps_set (i := 6) sc__law_wrong.nd rfl (Or.inl rfl) (pe_callB (call_len_seq) (by rfl) B.len (by decide +kernel) (pa_cons (pe_fld (pv 0) rfl) pa_nil)))
      (C8.pss_cut (ps_if (pt_cmp (pc_din (hu_of hr) (pe_ix ix_tup (pv 1) pe_int (fun _ _ => rfl)) (pv 5)))
          (pss_one (ps_set (i := 6) sc__law_wrong.nd rfl (Or.inl rfl) (pe_dget (hu_of hr) (pv 5) (pe_ix ix_tup (pv 1) pe_int (fun _ _ => rfl)) (fun _ _ => rfl))))
          (pss_nil))
      (pss_one (ps_ret (pe_op op_catT (pe_tup (pa_cons (pe_ix ix_tup (pv 1) pe_int (fun _ _ => rfl)) (pa_cons (pe_ix ix_tup (pe_tup (pa_cons (pe_op op_add (pv 6) (pv 4)) (pa_cons (pe_op op_sub (pe_un un_neg pe_int) (pv 4)) pa_nil))) (pe_op op_mod (pv 4) pe_int) (fun _ _ => rfl)) pa_nil))) (pe_slice sl_tup (pv 1) (po_some pe_int) po_none))))))
      (pss_nil))
  (pss_cons (ps_if (pt_cmpR op_lt (pe_callB (call_len_seq) (by rfl) B.len (by decide +kernel) (pa_cons (pv 1) pa_nil)) pe_int (nomark _))
      (pss_one (ps_ret (pe_tup (pa_cons (pe_ix ix_tup (pv 1) pe_int (fun _ _ => rfl)) (pa_cons (pe_un un_neg pe_int) pa_nil)))))
      (pss_nil))
  (pss_cons (ps_if (PW.pt (pw_or (pt_cmpR op_eq (pv 3) pe_int (nomark _)) (pw_or1 (pt_cmpR op_eq (pe_callB (call_len_seq) (by rfl) B.len (by decide +kernel) (pa_cons (pv 1) pa_nil)) pe_int (nomark _)))))
      (pss_one (ps_ret (pe_op op_catT (pe_slice sl_tup (pv 1) po_none (po_some (pe_un un_neg pe_int))) (pe_tup (pa_cons (pe_ix ix_tup (pe_tup (pa_cons (pe_op op_add pe_int (pv 4)) (pa_cons (pe_op op_sub (pe_un un_neg pe_int) (pv 4)) pa_nil))) (pe_op op_mod (pv 4) pe_int) (fun _ _ => rfl)) pa_nil)))))
      (pss_nil))
  (pss_one (ps_ret (pe_tup (pa_cons (pe_ix ix_tup (pv 1) pe_int (fun _ _ => rfl)) (pa_cons (pe_ix ix_tup (pv 1) pe_int (fun _ _ => rfl)) (pa_cons (pe_ix ix_tup (pv 1) pe_int (fun _ _ => rfl)) (pa_cons (pe_op op_add (pe_ix ix_tup (pv 1) pe_int (fun _ _ => rfl)) (pe_op op_mul (pe_op op_sub (pe_ix ix_tup (pv 1) pe_int (fun _ _ => rfl)) (pe_ix ix_tup (pv 1) pe_int (fun _ _ => rfl))) (pe_op op_mod (pv 4) pe_int))) pa_nil))))))))))))))
    , ?_⟩
  obtain ⟨dx, t0, t1, t2, t3, x0, x1, x2, x3, gw, j0, q0, j1, q1, j2, q2, j3, q3⟩ := hW.ex
  have l0 := paired_len q0
  have l1 := paired_len q1
  have l3 := paired_len q3
  have nS := wg.nS
  have nT := wg.nT
  have nP := wg.nP
  have hh := wg.hor
  have lm : (rowI r).length = 1 + r.mins.length := by unfold rowI; rw [List.length_cons, List.length_map]; omega
  have lm2 : r.mins.length ≤ 2 := by cases r <;> simp [RowD.mins]
  rw [rowV_eq] at ht
  have mI := TR.min r
  refine ⟨_, rfl, .inl ⟨_, rfl, _, _, rfl, rfl, (by show (0 : Int) < _; decide), ?_⟩⟩
  refine ⟨_, rfl, .inl ⟨_, rfl, _, _, rfl, rfl, ⟨by decide, by decide⟩, _, _, rfl, rfl, (by show (0 : Int) < _; decide), ?_⟩⟩
  have k0 := Int.emod_nonneg c (b := 5) (by omega)
  have k1 := Int.emod_lt_of_pos c (b := 5) (by omega)
  have n0 := Int.emod_nonneg (c / 5) (b := 30) (by omega)
  have n1 := Int.emod_lt_of_pos (c / 5) (b := 30) (by omega)
  refine fun p hp => ?_
  have sp := same_new hp (.dK [])
  refine ⟨_, rfl, ac, CW, dx, _, _, rfl, sp _ _ gw, T.c_World.cl, T.n_World_passes, lk_World_passes, t3, x3, rfl, .inr (Same.tup sp j3), _, rfl, ac, CW, dx, _, _, rfl, sp _ _ gw, T.c_World.cl, T.n_World_stations, lk_World_stations, t1, x1, rfl, .inr (Same.tup sp j1), upd_same, [(Sum.inr "room", V.int x3.length), (Sum.inr "station", V.int x1.length)], rfl, (by show 2 ≤ 15; decide), ?_⟩
  have s2 := same_at hp sp (.dK (mergeK [] [((Sum.inr "room" : Key), V.int x3.length), ((Sum.inr "station" : Key), V.int x1.length)]))
  have hD : (upd (upd H p (.dK [])) p (.dK (mergeK [] [((Sum.inr "room" : Key), V.int x3.length), ((Sum.inr "station" : Key), V.int x1.length)]))) p = some (.dK (mergeK [] [((Sum.inr "room" : Key), V.int x3.length), ((Sum.inr "station" : Key), V.int x1.length)])) := upd_same
  generalize upd (upd H p (.dK [])) p (.dK (mergeK [] [((Sum.inr "room" : Key), V.int x3.length), ((Sum.inr "station" : Key), V.int x1.length)])) = H2 at s2 hD
  have ht2 := Same.tup s2 ht
  have gw2 := s2 _ _ gw
  refine ⟨_, rfl, rfl, _, rfl, ite2 (fun e => ?_) (fun e => ?_)⟩
  · refine ⟨(by show 4 ≤ sizeLine; decide), fun v hv => ?_⟩
    obtain ⟨wd, hw, hno⟩ : ∃ wd : Str, atI [V.str "rooms", V.str "stations", V.str "", V.str "energy to"] ((c / 5 % 30) % 4) = some (V.str wd) ∧ MinIs K aM wd none := by
      rcases (show (c / 5 % 30) % 4 = 0 ∨ (c / 5 % 30) % 4 = 1 ∨ (c / 5 % 30) % 4 = 2 ∨ (c / 5 % 30) % 4 = 3 by omega) with e | e | e | e
      · exact ⟨_, by rw [e]; rfl, TW.w0⟩
      · exact ⟨_, by rw [e]; rfl, TW.w1⟩
      · exact ⟨_, by rw [e]; rfl, TW.w2⟩
      · exact ⟨_, by rw [e]; rfl, TW.w3⟩
    have s3 := s2.trans (same_new hv (.tup [V.str "rooms", V.str "stations", V.str "", V.str "energy to"]))
    refine ⟨_, rfl, _, _, rfl, rfl, (by show (0 : Int) < _; decide), v, _, _, _, rfl, rfl, SqT.of upd_same, hw, (by show 1 ≤ sizeLine; decide), fun u hu => ?_⟩
    have s4 := s3.trans (same_new hu (.tup [V.str wd]))
    have hu4 : SqT K (upd (upd H2 v (.tup [V.str "rooms", V.str "stations", V.str "", V.str "energy to"])) u (.tup [V.str wd])) u [V.str wd] := SqT.of upd_same
    generalize upd (upd H2 v (.tup [V.str "rooms", V.str "stations", V.str "", V.str "energy to"])) u (.tup [V.str wd]) = H4 at s4 hu4
    refine ⟨_, rfl, 1, rfl, t, _, rfl, Same.tup s4 ht, ?_, fun z hz => ?_⟩
    · intro h
      have := h.1
      rw [show HT.sIx (V.str r.word :: (rowI r).map V.int).length 0 (some 1) = min 1 (V.str r.word :: (rowI r).map V.int).length from HT.sIx_nat _ _ 1, List.length_cons] at this
      omega
    rw [cut_1]
    have sz := same_new hz (.tup ((rowI r).map V.int))
    have s5 := s4.trans sz
    have hu5 := Same.tup sz hu4
    have hz5 : SqT K (upd H4 z (.tup ((rowI r).map V.int))) z ((rowI r).map V.int) := SqT.of upd_same
    generalize upd H4 z (.tup ((rowI r).map V.int)) = H5 at s5 hu5 hz5
    refine ⟨u, z, _, _, rfl, rfl, hu5, hz5, (fun h => nomatch h), (by rw [List.length_map]; show 1 + (rowI r).length ≤ sizeLine; exact Nat.le_trans (by omega) (show 100 ≤ sizeLine by decide)), fun h => ?_, fun _ y hy => ?_⟩
    · have := congrArg List.length h
      rw [List.length_map, List.length_nil] at this
      omega
    exact q y wd (rowI r) none _ (s5.trans (same_new hy _)) (SqT.of upd_same) (by omega) hno (ok_form rfl)
  · refine ⟨_, rfl, rfl, _, rfl, ite2 (fun e1 => ?_) (fun e1 => ?_)⟩
    · refine ⟨_, rfl, _, _, rfl, rfl, (by show (0 : Int) < _; decide), rfl, _, rfl, ite2 (fun e2 => ?_) (fun e2 => ?_)⟩
      · refine ⟨_, rfl, _, rfl, _, rfl, t, _, rfl, ht2, ?_, fun u hu => ?_⟩
        · intro h
          have := h.2
          rw [six_m1 _ _ (by rw [List.length_cons]; omega), List.length_cons] at this
          omega
        refine q u r.word (rowI r).dropLast _ _ (s2.trans (same_new hu _)) (SqT.of (upd_same.trans ?_)) (by rw [List.length_dropLast]; omega) mI (ok_form (decide_eq_false (by rw [List.length_dropLast]; omega)))
        rw [cut_m1 (by omega)]
      · refine ⟨_, rfl, _, rfl, (by show 1 ≤ sizeLine; decide), fun u hu => ?_⟩
        have su := same_new hu (.tup [V.int (c / 5 % 30)])
        refine ⟨t, u, _, _, rfl, rfl, Same.tup su ht2, SqT.of upd_same, (fun h => nomatch h), (by rw [List.length_cons, List.length_map]; exact Nat.le_trans (show _ ≤ 100 by show (rowI r).length + 1 + 1 ≤ 100; omega) (show 100 ≤ sizeLine by decide)), (fun h => nomatch h), fun _ y hy => ?_⟩
        refine q y r.word (rowI r ++ [(c / 5 % 30)]) _ _ ((s2.trans su).trans (same_new hy _)) (SqT.of (upd_same.trans ?_)) (by rw [List.length_append]; show (rowI r).length + 1 ≤ 100; omega) mI (ok_form (decide_eq_false (by rw [List.length_append]; show ¬ (rowI r).length + 1 = _; omega)))
        rw [List.map_append]
        rfl
    · refine ⟨_, rfl, rfl, _, rfl, ite2 (fun e2 => ?_) (fun e2 => ?_)⟩
      · refine ⟨_, rfl, ac, CW, dx, _, _, rfl, gw2, T.c_World.cl, T.n_World_satellites, lk_World_satellites, t0, x0, rfl, .inr (Same.tup s2 j0), ?_⟩
        refine ⟨fun σ' H' => σ' = [some (.ref ac), some (.ref t), some (.int c), some (.int (c % 5)), some (.int (c / 5 % 30)), some (.ref p), some (.int ((manyW W r.word : Nat) : Int))] ∧ H' = H2, ?_, fun σ' H' h => ?_⟩
        · refine ⟨_, rfl, t, _, 0, _, rfl, rfl, ht2, atI_nat (j := 0) rfl, _, rfl, p, _, rfl, DGet.k (k := Sum.inr r.word) hD, _, rfl, ?_⟩
          have hval := cntV (a := x3.length) (b := x1.length) (x := r.word)
          by_cases c1 : r.word = ("room" : Str)
          · rw [if_pos c1] at hval
            have em : manyW W r.word = x3.length := by unfold manyW; rw [if_pos c1, l3]
            refine iteT' (by rw [hval]; rfl) ⟨_, rfl, _, rfl, t, _, 0, _, rfl, rfl, ht2, atI_nat (j := 0) rfl, ?_⟩
            refine ⟨p, _, rfl, hval ▸ DGet.k (k := Sum.inr r.word) hD, ?_⟩
            rw [em]
            exact ⟨rfl, rfl⟩
          · rw [if_neg c1] at hval
            by_cases c2 : r.word = ("station" : Str)
            · rw [if_pos c2] at hval
              have em : manyW W r.word = x1.length := by unfold manyW; rw [if_neg c1, if_pos c2, l1]
              refine iteT' (by rw [hval]; rfl) ⟨_, rfl, _, rfl, t, _, 0, _, rfl, rfl, ht2, atI_nat (j := 0) rfl, ?_⟩
              refine ⟨p, _, rfl, hval ▸ DGet.k (k := Sum.inr r.word) hD, ?_⟩
              rw [em]
              exact ⟨rfl, rfl⟩
            · rw [if_neg c2] at hval
              have em : manyW W r.word = x0.length := by unfold manyW; rw [if_neg c1, if_neg c2, l0]
              refine iteF' (by rw [hval]; rfl) ?_
              rw [em]
              exact ⟨rfl, rfl⟩
        obtain ⟨rfl, rfl⟩ := h
        generalize em : manyW W r.word = mw
        obtain ⟨val, hw, hb⟩ : ∃ val : Int, atI [V.int ((mw : Nat) + (c / 5 % 30)), V.int (-1 - (c / 5 % 30))] (c / 5 % 30 % 2) = some (V.int val) ∧ (val < 0 ∨ (mw : Int) ≤ val) := by
          rcases (show c / 5 % 30 % 2 = 0 ∨ c / 5 % 30 % 2 = 1 by omega) with e | e
          · exact ⟨_, by rw [e]; rfl, .inr (by omega)⟩
          · exact ⟨_, by rw [e]; rfl, .inl (by omega)⟩
        refine ⟨_, rfl, t, _, 0, _, rfl, rfl, ht2, atI_nat (j := 0) rfl, _, rfl, _, rfl, _, _, rfl, rfl, _, rfl, _, rfl, _, _, rfl, rfl, (by show 2 ≤ sizeLine; decide), fun v hv => ⟨_, rfl, _, _, rfl, rfl, (by show (0 : Int) < _; decide), v, _, _, _, rfl, rfl, SqT.of upd_same, hw, (by show 2 ≤ sizeLine; decide), fun u hu => ?_⟩⟩
        have s3 := same_new hv (.tup [V.int ((mw : Nat) + (c / 5 % 30)), V.int (-1 - (c / 5 % 30))])
        have s4 := s3.trans (same_new hu (.tup [V.str r.word, V.int val]))
        have hu4 : SqT K (upd (upd H' v (.tup [V.int ((mw : Nat) + (c / 5 % 30)), V.int (-1 - (c / 5 % 30))])) u (.tup [V.str r.word, V.int val])) u [V.str r.word, V.int val] := SqT.of upd_same
        generalize upd (upd H' v (.tup [V.int ((mw : Nat) + (c / 5 % 30)), V.int (-1 - (c / 5 % 30))])) u (.tup [V.str r.word, V.int val]) = H4 at s4 hu4
        have bad : okRowB W r.word (val :: r.mins.map fun (m : Nat) => (m : Int)) (some r.mins.length) = false := ok_body (by
          show (decide (0 ≤ val) && decide (val < ((manyW W r.word : Nat) : Int)) && _ && _) = false
          rw [em]
          rcases hb with hb | hb
          · rw [decide_eq_false (show ¬ 0 ≤ val by omega)]; rfl
          · rw [decide_eq_false (show ¬ val < (mw : Int) by omega), Bool.and_false]; rfl)
        refine ⟨_, rfl, 2, rfl, t, _, rfl, Same.tup s4 ht2, ?_, fun z hz => ?_⟩
        · intro h
          have := h.1
          rw [show HT.sIx (V.str r.word :: (rowI r).map V.int).length 0 (some 2) = min 2 (V.str r.word :: (rowI r).map V.int).length from HT.sIx_nat _ _ 2, List.length_cons, List.length_map] at this
          omega
        rw [show (rowI r).map V.int = V.int (r.num : Int) :: (r.mins.map fun (m : Nat) => (m : Int)).map V.int from rfl, cut_2]
        have sz := same_new hz (.tup ((r.mins.map fun (m : Nat) => (m : Int)).map V.int))
        have s5 := s4.trans sz
        have hu5 := Same.tup sz hu4
        have hz5 : SqT K (upd H4 z (.tup ((r.mins.map fun (m : Nat) => (m : Int)).map V.int))) z ((r.mins.map fun (m : Nat) => (m : Int)).map V.int) := SqT.of upd_same
        generalize upd H4 z (.tup ((r.mins.map fun (m : Nat) => (m : Int)).map V.int)) = H5 at s5 hu5 hz5
        refine ⟨u, z, _, _, rfl, rfl, hu5, hz5, (fun h => nomatch h), (by rw [List.length_map, List.length_map]; show 2 + r.mins.length ≤ sizeLine; exact Nat.le_trans (by omega) (show 100 ≤ sizeLine by decide)), fun h => ?_, fun _ y hy => ?_⟩
        · refine q u r.word (val :: r.mins.map fun (m : Nat) => (m : Int)) _ _ (s2.trans s5) ?_ (by rw [List.length_cons, List.length_map]; omega) mI bad
          rw [List.map_cons, h]
          exact hu5
        · refine q y r.word (val :: r.mins.map fun (m : Nat) => (m : Int)) _ _ (s2.trans (s5.trans (same_new hy _))) (SqT.of upd_same) (by rw [List.length_cons, List.length_map]; omega) mI bad
      · have lt : (V.str r.word :: (rowI r).map V.int).length = 2 + r.mins.length := by rw [List.length_cons, List.length_map]; omega
        refine ⟨_, rfl, t, _, rfl, .inr ht2, _, _, rfl, rfl, _, rfl, ite2 (fun e3 => ?_) (fun e3 => ?_)⟩
        · refine ⟨_, rfl, t, _, 0, _, rfl, rfl, ht2, atI_nat (j := 0) rfl, _, rfl, (by show 2 ≤ sizeLine; decide), fun u hu => ?_⟩
          exact q u r.word [-1] _ _ (s2.trans (same_new hu _)) (SqT.of upd_same) (by show 1 ≤ 100; decide) mI (ok_body (by
            show (decide ((0 : Int) ≤ -1) && decide ((-1 : Int) < ((manyW W r.word : Nat) : Int)) && ([] : List Int).all (minOk W) && ascB r.word []) = false
            rfl))
        have hm : 1 ≤ r.mins.length := by
          rcases Nat.lt_or_ge r.mins.length 1 with h | h
          · exact absurd (show decide (((V.str r.word :: (rowI r).map V.int).length : Int) < 3) = true from decide_eq_true (by omega)) e3
          · exact h
        obtain ⟨val, hw, hb⟩ : ∃ val : Int, atI [V.int (40 + (c / 5 % 30)), V.int (-1 - (c / 5 % 30))] (c / 5 % 30 % 2) = some (V.int val) ∧ minOk W val = false := by
          rcases (show c / 5 % 30 % 2 = 0 ∨ c / 5 % 30 % 2 = 1 by omega) with e | e
          · refine ⟨_, by rw [e]; rfl, ?_⟩
            unfold minOk
            rw [decide_eq_false (show ¬ 40 + (c / 5 % 30) < W.horizon by omega), Bool.and_false]
          · refine ⟨_, by rw [e]; rfl, ?_⟩
            unfold minOk
            rw [decide_eq_false (show ¬ 0 ≤ -1 - (c / 5 % 30) by omega)]
            rfl
        refine ⟨_, rfl, rfl, _, rfl, ite2 (fun e4 => ?_) (fun e4 => ⟨_, rfl, t, _, rfl, .inr ht2, rfl, _, rfl, ite2 (fun e5 => ?_) (fun e5 => ?_)⟩)⟩
        · refine iteT' rfl ?_
          refine ⟨_, rfl, _, rfl, _, rfl, t, _, rfl, ht2, ?_, fun u hu => ?_⟩
          · intro h
            have := h.2
            rw [six_m1 _ _ (by rw [List.length_cons]; omega), List.length_cons] at this
            omega
          rw [cut_m1 (by omega)]
          have s3 := same_new hu (.tup (V.str r.word :: ((rowI r).dropLast).map V.int))
          have hu3 : SqT K (upd H2 u (.tup (V.str r.word :: ((rowI r).dropLast).map V.int))) u (V.str r.word :: ((rowI r).dropLast).map V.int) := SqT.of upd_same
          generalize upd H2 u (.tup (V.str r.word :: ((rowI r).dropLast).map V.int)) = H3 at s3 hu3
          refine ⟨_, rfl, _, _, rfl, rfl, _, rfl, _, rfl, _, _, rfl, rfl, (by show 2 ≤ sizeLine; decide), fun v hv => ⟨_, rfl, _, _, rfl, rfl, (by show (0 : Int) < _; decide), v, _, _, _, rfl, rfl, SqT.of upd_same, hw, (by show 1 ≤ sizeLine; decide), fun z hz => ?_⟩⟩
          have s4 := same_new hv (.tup [V.int (40 + (c / 5 % 30)), V.int (-1 - (c / 5 % 30))])
          have s5 := s4.trans (same_new hz (.tup [V.int val]))
          refine ⟨u, z, _, _, rfl, rfl, Same.tup s5 hu3, SqT.of upd_same, (fun h => nomatch h), (by rw [List.length_cons, List.length_map, List.length_dropLast]; exact Nat.le_trans (show _ ≤ 100 by show (rowI r).length - 1 + 1 + 1 ≤ 100; omega) (show 100 ≤ sizeLine by decide)), (fun h => nomatch h), fun _ y hy => ?_⟩
          refine q y r.word ((rowI r).dropLast ++ [val]) _ _ ((s2.trans s3).trans (s5.trans (same_new hy _))) (SqT.of (upd_same.trans ?_)) (by rw [List.length_append, List.length_dropLast]; show (rowI r).length - 1 + 1 ≤ 100; omega) mI (bad3 hm hb)
          rw [List.map_append]
          rfl

        · skip
          refine ⟨_, rfl, _, rfl, _, rfl, t, _, rfl, ht2, ?_, fun u hu => ?_⟩
          · intro h
            have := h.2
            rw [six_m1 _ _ (by rw [List.length_cons]; omega), List.length_cons] at this
            omega
          rw [cut_m1 (by omega)]
          have s3 := same_new hu (.tup (V.str r.word :: ((rowI r).dropLast).map V.int))
          have hu3 : SqT K (upd H2 u (.tup (V.str r.word :: ((rowI r).dropLast).map V.int))) u (V.str r.word :: ((rowI r).dropLast).map V.int) := SqT.of upd_same
          generalize upd H2 u (.tup (V.str r.word :: ((rowI r).dropLast).map V.int)) = H3 at s3 hu3
          refine ⟨_, rfl, _, _, rfl, rfl, _, rfl, _, rfl, _, _, rfl, rfl, (by show 2 ≤ sizeLine; decide), fun v hv => ⟨_, rfl, _, _, rfl, rfl, (by show (0 : Int) < _; decide), v, _, _, _, rfl, rfl, SqT.of upd_same, hw, (by show 1 ≤ sizeLine; decide), fun z hz => ?_⟩⟩
          have s4 := same_new hv (.tup [V.int (40 + (c / 5 % 30)), V.int (-1 - (c / 5 % 30))])
          have s5 := s4.trans (same_new hz (.tup [V.int val]))
          refine ⟨u, z, _, _, rfl, rfl, Same.tup s5 hu3, SqT.of upd_same, (fun h => nomatch h), (by rw [List.length_cons, List.length_map, List.length_dropLast]; exact Nat.le_trans (show _ ≤ 100 by show (rowI r).length - 1 + 1 + 1 ≤ 100; omega) (show 100 ≤ sizeLine by decide)), (fun h => nomatch h), fun _ y hy => ?_⟩
          refine q y r.word ((rowI r).dropLast ++ [val]) _ _ ((s2.trans s3).trans (s5.trans (same_new hy _))) (SqT.of (upd_same.trans ?_)) (by rw [List.length_append, List.length_dropLast]; show (rowI r).length - 1 + 1 ≤ 100; omega) mI (bad3 hm hb)
          rw [List.map_append]
          rfl

        · have l2 : ¬ r.mins.length = 1 := fun h => e5 (decide_eq_true (by rw [lt, h]; rfl))
          cases r with
          | room a => simp [RowD.mins] at hm
          | sta a b => exact absurd rfl l2
          | sat a b => exact absurd rfl l2
          | store a b => exact absurd rfl l2
          | energy a b => exact absurd rfl l2
          | efrom a m0 m1 =>
            have asc : m0 < m1 := rok.asc
            have b0 := Int.emod_nonneg (c / 5 % 30) (b := 2) (by omega)
            have b1 := Int.emod_lt_of_pos (c / 5 % 30) (b := 2) (by omega)
            refine ⟨_, rfl, t, _, 0, _, rfl, rfl, ht2, rfl, _, rfl, t, _, 1, _, rfl, rfl, ht2, rfl, _, rfl, t, _, 3, _, rfl, rfl, ht2, rfl, _, rfl, t, _, 2, _, rfl, rfl, ht2, rfl, _, rfl, t, _, 3, _, rfl, rfl, ht2, rfl, _, rfl, t, _, 2, _, rfl, rfl, ht2, rfl, _, _, rfl, rfl, _, rfl, _, _, rfl, rfl, (by show (0 : Int) < _; decide), _, _, rfl, rfl, .inr ⟨by omega, by omega⟩, _, _, rfl, rfl, (by show 4 ≤ sizeLine; decide), fun u hu => ?_⟩
            refine q u "energy from" [(a : Int), (m1 : Int), (m0 : Int) + ((m1 : Int) - m0) * (c / 5 % 30 % 2)] _ _ (s2.trans (same_new hu _)) (SqT.of upd_same) (by show 3 ≤ 100; decide) mI (ok_body ?_)
            show (_ && _ && _ && (!(decide ((Str.ofString "energy from" : Str) = ("energy from" : Str)) && decide ((m1 : Int) ≥ (m0 : Int) + ((m1 : Int) - m0) * (c / 5 % 30 % 2))))) = false
            have hle : (m1 : Int) ≥ (m0 : Int) + ((m1 : Int) - m0) * (c / 5 % 30 % 2) := by
              rcases (show c / 5 % 30 % 2 = 0 ∨ c / 5 % 30 % 2 = 1 by omega) with e | e
              · rw [e, Int.mul_zero]; omega
              · rw [e, Int.mul_one]; omega
            rw [decide_eq_true hle, show decide ((Str.ofString "energy from" : Str) = ("energy from" : Str)) = true from decide_eq_true rfl]
            exact Bool.and_false _
def spLaw (K : PySem.W.Frag) : Sp := fun vs H Q _ => ∃ (a : Addr) (ns : List Int), vs = [.ref a] ∧ SqL K H a (ns.map V.int) ∧ ∀ H', Q (.bl true) H'
set_option maxHeartbeats 8000000 in
theorem d_law (T : TxtW K mg CL CS CT CR CP CW aS aR fS fT fR fP) (TR : TxtR K w mg aM) (D_law_cell : DefOk P w K mg base CX0 1 "_law_cell" ["script", "k"] (spCell K)) (D_law_world : DefOk P w K mg base CX0 8 "_law_world" ["script"] (spWorldC K CS CT CR CP CW))
    (D_law_row : DefOk P w K mg base CX0 2 "_law_row" ["world", "cell"] (spLawRow K CS CT CR CP CW)) (D_check_row : DefOk P w K mg base CX0 3 "check_row" ["world", "row"] (spCheckRow K CS CT CR CP CW))
    (D_law_refused : DefOk P w K mg base CX0 4 "_law_refused" ["world", "row"] (spRefused K CS CT CR CP CW aM)) (D_law_wrong : DefOk P w K mg base CX0 1 "_law_wrong" ["world", "row", "cell"] (spWrong K CS CT CR CP CW aM)) (A : At K mg "law" s_law ["script"]) : DefOk P w K mg base CX0 9 "law" ["script"] (spLaw K) := by
  have B := T.L.B
  refine A.ok sc_law (fun vs H Q E h => ?_) (fun f cdv A outer s H vs Q E hr h => ?_)
  · obtain ⟨a, ns, rfl, _⟩ := h
    rfl
  obtain ⟨a, ns, rfl, hS, q⟩ := h
  refine ⟨_, pss_cons (ps_set (i := 1) sc_law.nd rfl (Or.inl rfl) (pe_f D_law_world (hr.mono (by omega)) pass0 (pa_cons (pv 0) pa_nil)))
  (pss_cons (ps_for PassesOwn.never rfl (pi_range1 (by rfl) B.range (pa_cons pe_int pa_nil)) (pg_name (i := 2) sc_law.nd rfl (Or.inl rfl))
      (pss_cons (ps_set (i := 3) sc_law.nd rfl (Or.inl rfl) (pe_f D_law_row (hr.mono (by omega)) pass0 (pa_cons (pv 1) (pa_cons (pe_f D_law_cell (hr.mono (by omega)) pass0 (pa_cons (pv 0) (pa_cons (pe_op op_add pe_int (pv 2)) pa_nil))) pa_nil))))
      (pss_cons (ps_if (pt_cmpR op_notN (pe_f D_check_row (hr.mono (by omega)) pass0 (pa_cons (pv 1) (pa_cons (pv 3) pa_nil))) pe_non (nomark _))
          (pss_one (ps_ret pe_bl))
          (pss_nil))
      (pss_one (ps_if (pt_not (pt_val (pe_f D_law_refused (hr.mono (by omega)) pass0 (pa_cons (pv 1) (pa_cons (pe_f D_law_wrong (hr.mono (by omega)) pass0 (pa_cons (pv 1) (pa_cons (pv 3) (pa_cons (pe_f D_law_cell (hr.mono (by omega)) pass0 (pa_cons (pv 0) (pa_cons (pe_op op_add pe_int (pv 2)) pa_nil))) pa_nil)))) pa_nil)))))
          (pss_one (ps_ret pe_bl))
          (pss_nil))))))
  (pss_one (ps_ret pe_bl)))
    , ?_⟩
  refine ⟨_, rfl, a, ns, rfl, hS, fun ac W H1 s1 wg hW => ?_⟩
  refine ⟨6, rfl, by decide, by decide, for_range (lo := 0) (n := 6) (fun i σ H' => ∃ y2 y3, σ = [some (.ref a), some (.ref ac), y2, y3] ∧ Same H1 H') ⟨none, none, rfl, Same.refl _⟩ (fun i σ H3 hi hI => ?_) (fun σ H3 hI => ?_)⟩
  · obtain ⟨y2, y3, rfl, hs⟩ := hI
    have s13 := s1.trans hs
    refine ⟨_, rfl, _, rfl, _, rfl, _, _, rfl, rfl, a, ns, 22 + (0 + (i : Int)), rfl, s13.seq hS, by omega, fun u2 => ⟨ac, W, u2, rfl, wg, hW.same hs, fun t r H4 s4 rok ht => ?_⟩⟩
    have hs4 := hs.trans s4
    refine ⟨_, rfl, _, rfl, ac, t, W, r, rfl, hW.same hs4, ht, rok, fun H5 s5 => ?_⟩
    have hs5 := hs4.trans s5
    refine ⟨rfl, _, rfl, iteF' rfl ⟨_, rfl, _, rfl, _, rfl, _, rfl, _, rfl, _, _, rfl, rfl, a, ns, 30 + (0 + (i : Int)), rfl, (s1.trans hs5).seq hS, by omega, fun u3 => ⟨ac, t, W, r, u3, rfl, wg, hW.same hs5, Same.tup s5 ht, rok, fun u x ms o H6 s6 hu hl mi hno => ?_⟩⟩⟩
    have hs6 := hs5.trans s6
    exact ⟨ac, u, W, x, ms, o, rfl, hW.same hs6, hu, hl, mi, hno, fun H7 s7 => ⟨_, rfl, iteF' rfl ⟨_, _, rfl, hs6.trans s7⟩⟩⟩
  · obtain ⟨y2, y3, rfl, hs⟩ := hI
    exact q _
end
end DP
/-! what the top has written, put together -/
namespace DP
open PySem PySem.Spec PyProof.Rows L2
section
variable {h : Heap} {K : PySem.W.Frag} {mg : Str → Option Value} {x m qual : Str} {st : Stmt} {ps : List Str} {C f p T : Addr} {oc oc' kV doc pm cdv ct : Value} {od od' an : Option Addr} {osl osl' : Array (Option Value)} {rest : List Value}
theorem cls_mk (X : K.In h) (G : h.Ns mainGlobals mg) (g : PySem.W.nsIn K mainGlobals x = some (some (.ref C))) (pg : PySem.W.plainGet K C Str.empty = true) (hd : PySem.W.hasDictIn K C = true) (po : PySem.W.plainOver K C = true)
    (sa : PySem.W.findIn K (.ref C) "__setattr__" = some (some (.builtin "object.__setattr__"))) (mk : PySem.W.makesIn K C = true) (kp : PySem.W.keepIn K (.ref C) = true) : ClsAt K mg x C := ⟨⟨pg, hd, po, sa⟩, mk, kp, PySem.W.mg_of X G g⟩
theorem met_mk (a : PySem.W.findIn K (.ref C) m = some (some (.ref f))) (i : PySem.W.isFn K (.ref f) = true) (l : K.lookup f = some ⟨oc, od, .func (PySem.W.fnOf m qual (defArgs st) (defBody st) (defScope st) .none kV doc pm an cdv ct), osl⟩)
    (c : PySem.W.codeIn K cdv qual = true) (k : PySem.W.keepIn K (.ref f) = true)
    (hb : ∀ (kV doc pm : Value) (an : Option Addr) (cdv ct : Value) (us : List Value), us.length = ps.length → bindArgs (PySem.W.fnOf m qual (defArgs st) (defBody st) (defScope st) .none kV doc pm an cdv ct) ⟨us, []⟩ = pure (ps.zip us)) : MAt K C m qual st ps := by
  have F := fun_mk (st := st) l c k
  exact ⟨f, _, F, ⟨a, i, k⟩, F.binds hb⟩
/-- one default, an int -/
theorem metD_mk {d : Int} {t : Tok} {n : Nat} (a : PySem.W.findIn K (.ref C) m = some (some (.ref f))) (i : PySem.W.isFn K (.ref f) = true) (l : K.lookup f = some ⟨oc, od, .func (PySem.W.fnOf m qual (defArgs st) (defBody st) (defScope st) (.ref T) kV doc pm an cdv ct), osl⟩)
    (lT : K.lookup T = some ⟨oc', od', .seq #[.int d t] n, osl'⟩)
    (c : PySem.W.codeIn K cdv qual = true) (k : PySem.W.keepIn K (.ref f) = true) (j : Nat) (hn : j + 1 = ps.length)
    (hb : ∀ (T : Addr) (kV doc pm : Value) (an : Option Addr) (cdv ct : Value) (us its : List Value), us.length = j → its.length = 1 →
      ∃ k, bindArgs (PySem.W.fnOf m qual (defArgs st) (defBody st) (defScope st) (.ref T) kV doc pm an cdv ct) ⟨us, []⟩ = seqItems? (.ref T) >>= k ∧ k (some its.toArray) = pure (ps.zip (us ++ its.drop 0))) : MAtD K C m qual st ps [.int d] := by
  have F : FunD K m qual (defArgs st) (defBody st) (defScope st) [.int d] [] f (PySem.W.fnOf m qual (defArgs st) (defBody st) (defScope st) (.ref T) kV doc pm an cdv ct) :=
    ⟨⟨oc, od, .ref T, kV, doc, pm, an, cdv, ct, osl, rfl, l, c, .inr ⟨List.cons_ne_nil _ _, T, _, [.int d t], n, rfl, lT, rfl, .cons ⟨t, rfl⟩ .nil⟩, .inl rfl⟩, k⟩
  obtain ⟨ds, v, b⟩ := F.binds1 (ps := ps) j 0 (List.cons_ne_nil _ _) hn hb
  exact ⟨f, _, ds, F, ⟨a, i, k⟩, b, v⟩
theorem smet_mk (a : PySem.W.findCls K (.ref C) (.type "type") m = some (.get (.builtin "staticmethod.__get__") (.ref p) .none (.ref C))) (r : PySem.W.recIn K p "staticmethod" = some (.ref f :: rest))
    (l : K.lookup f = some ⟨oc, od, .func (PySem.W.fnOf m qual (defArgs st) (defBody st) (defScope st) .none kV doc pm an cdv ct), osl⟩)
    (c : PySem.W.codeIn K cdv qual = true) (k : PySem.W.keepIn K (.ref f) = true)
    (hb : ∀ (kV doc pm : Value) (an : Option Addr) (cdv ct : Value) (us : List Value), us.length = ps.length → bindArgs (PySem.W.fnOf m qual (defArgs st) (defBody st) (defScope st) .none kV doc pm an cdv ct) ⟨us, []⟩ = pure (ps.zip us)) : SAt K C m qual st ps := by
  have F := fun_mk (st := st) l c k
  exact ⟨f, _, F, ⟨p, rest, a, r⟩, F.binds hb⟩
theorem int_mk {i : Int} {t : Tok} (X : K.In h) (G : h.Ns mainGlobals mg) (g : PySem.W.nsIn K mainGlobals x = some (some (.int i t))) : ∃ t, mg x = some (.int i t) := ⟨t, PySem.W.mg_of X G g⟩
theorem str_mk {z : Str} {t : Tok} (X : K.In h) (G : h.Ns mainGlobals mg) (g : PySem.W.nsIn K mainGlobals x = some (some (.str z t))) : ∃ t, mg x = some (.str z t) := ⟨t, PySem.W.mg_of X G g⟩
theorem cval_mk {i : Int} {t : Tok} (g : PySem.W.findCls K (.ref C) (.type "type") x = some (.val (.int i t))) : ∃ t, ClX.CVal K C (.type "type") x (.int i) (.int i t) := ⟨t, g, ⟨t, rfl⟩⟩
theorem tup4s_mk {a b c d : Str} {t0 t1 t2 t3 : Tok} {n : Nat} (l : K.lookup T = some ⟨.type "tuple", none, .seq #[.str a t0, .str b t1, .str c t2, .str d t3] n, osl⟩) : ∀ H, SqT K H T (([a, b, c, d]).map V.str) := fun H =>
  .inr ⟨_, _, _, l, rfl, rfl, by show 4 ≤ sizeLine; exact sz4_, .cons ⟨_, rfl⟩ (.cons ⟨_, rfl⟩ (.cons ⟨_, rfl⟩ (.cons ⟨_, rfl⟩ .nil)))⟩
theorem tup4r_mk {a b c d : Addr} {n : Nat} (l : K.lookup T = some ⟨.type "tuple", none, .seq #[.ref a, .ref b, .ref c, .ref d] n, osl⟩) : ∀ H, SqT K H T [.ref a, .ref b, .ref c, .ref d] := fun H =>
  .inr ⟨_, _, _, l, rfl, rfl, by show 4 ≤ sizeLine; exact sz4_, .cons rfl (.cons rfl (.cons rfl (.cons rfl .nil)))⟩
theorem tupk_mk {its : Array Value} {n : Nat} (l : K.lookup T = some ⟨.type "tuple", none, .seq its n, osl⟩) : ∃ o, K.lookup T = some o ∧ o.cls = .type "tuple" ∧ o.dict = none := ⟨_, l, rfl, rfl⟩
end
end DP
/-! the program's defs as they stand, and World.parse of them -/
namespace DP
open PySem PySem.Spec PyProof.Rows L2
structure PF (K : PySem.W.Frag) (mg : Str → Option Value) (CL CS CT CR CP CW : Addr) : Prop where
  p_names_of : At K mg "names_of" s_names_of ["things"]
  p_read_light : At K mg "read_light" s_read_light ["line", "horizon"]
  p_read_satellite : At K mg "read_satellite" s_read_satellite ["line", "horizon", "things"]
  p_read_station : At K mg "read_station" s_read_station ["line", "_", "things"]
  p_read_recording : At K mg "read_recording" s_read_recording ["line", "horizon", "things"]
  p_read_pass : At K mg "read_pass" s_read_pass ["line", "horizon", "things"]
  p_most_things : At K mg "most_things" s_most_things ["sort"]
  p_read_sort : At K mg "read_sort" s_read_sort ["line", "ahead", "things"]
  p_read_things : At K mg "read_things" s_read_things ["lines", "horizon"]
  p_lines_of : At K mg "lines_of" s_lines_of ["text"]
  p_is_name : At K mg "is_name" s_is_name ["word"]
  p_is_number : At K mg "is_number" s_is_number ["word"]
  p_Line___init__ : MAt K CL "__init__" "Line.__init__" s_Line___init__ ["self", "number", "row"]
  p_Line_has_more : MAt K CL "has_more" "Line.has_more" s_Line_has_more ["self"]
  p_Line_due : MAt K CL "due" "Line.due" s_Line_due ["self"]
  p_Line_step : MAt K CL "step" "Line.step" s_Line_step ["self"]
  p_Line_read_choice : MAt K CL "read_choice" "Line.read_choice" s_Line_read_choice ["self", "choices"]
  p_Line_read_number : MAt K CL "read_number" "Line.read_number" s_Line_read_number ["self", "least", "most"]
  p_Line_read_field : MAt K CL "read_field" "Line.read_field" s_Line_read_field ["self", "word", "least", "most"]
  p_Line_due_name : MAt K CL "due_name" "Line.due_name" s_Line_due_name ["self"]
  p_Line_read_new_name : MAt K CL "read_new_name" "Line.read_new_name" s_Line_read_new_name ["self", "used"]
  p_Line_read_known_name : MAtD K CL "read_known_name" "Line.read_known_name" s_Line_read_known_name ["self", "names", "least"] [.int 0]
  p_Line_finish : MAt K CL "finish" "Line.finish" s_Line_finish ["self"]
  p_Satellite___init__ : MAt K CS "__init__" "Satellite.__init__" s_Satellite___init__ ["self", "name", "store", "battery", "start_level", "reserve", "charge", "settle", "light"]
  p_Station___init__ : MAt K CT "__init__" "Station.__init__" s_Station___init__ ["self", "name", "antennas", "turn"]
  p_Recording___init__ : MAt K CR "__init__" "Recording.__init__" s_Recording___init__ ["self", "name", "satellite", "earliest", "latest", "length", "size", "energy", "worth", "rank", "deadline"]
  p_Pass___init__ : MAt K CP "__init__" "Pass.__init__" s_Pass___init__ ["self", "name", "satellite", "station", "span", "room", "energy", "fee"]
  p_World___init__ : MAt K CW "__init__" "World.__init__" s_World___init__ ["self", "text", "horizon", "things"]
  p_World_parse : SAt K CW "parse" "World.parse" s_World_parse ["text"]
theorem hb_names_of : ∀ (kV doc pm : Value) (an : Option Addr) (cdv ct : Value) (us : List Value), us.length = (["things"] : List Str).length → bindArgs (PySem.W.fnOf "names_of" "names_of" (defArgs s_names_of) (defBody s_names_of) (defScope s_names_of) .none kV doc pm an cdv ct) ⟨us, []⟩ = pure ((["things"] : List Str).zip us) :=
  fun _ _ _ _ _ _ us hl => match us, hl with | [_], _ => rfl
theorem hb_read_light : ∀ (kV doc pm : Value) (an : Option Addr) (cdv ct : Value) (us : List Value), us.length = (["line", "horizon"] : List Str).length → bindArgs (PySem.W.fnOf "read_light" "read_light" (defArgs s_read_light) (defBody s_read_light) (defScope s_read_light) .none kV doc pm an cdv ct) ⟨us, []⟩ = pure ((["line", "horizon"] : List Str).zip us) :=
  fun _ _ _ _ _ _ us hl => match us, hl with | [_, _], _ => rfl
theorem hb_read_satellite : ∀ (kV doc pm : Value) (an : Option Addr) (cdv ct : Value) (us : List Value), us.length = (["line", "horizon", "things"] : List Str).length → bindArgs (PySem.W.fnOf "read_satellite" "read_satellite" (defArgs s_read_satellite) (defBody s_read_satellite) (defScope s_read_satellite) .none kV doc pm an cdv ct) ⟨us, []⟩ = pure ((["line", "horizon", "things"] : List Str).zip us) :=
  fun _ _ _ _ _ _ us hl => match us, hl with | [_, _, _], _ => rfl
theorem hb_read_station : ∀ (kV doc pm : Value) (an : Option Addr) (cdv ct : Value) (us : List Value), us.length = (["line", "_", "things"] : List Str).length → bindArgs (PySem.W.fnOf "read_station" "read_station" (defArgs s_read_station) (defBody s_read_station) (defScope s_read_station) .none kV doc pm an cdv ct) ⟨us, []⟩ = pure ((["line", "_", "things"] : List Str).zip us) :=
  fun _ _ _ _ _ _ us hl => match us, hl with | [_, _, _], _ => rfl
theorem hb_read_recording : ∀ (kV doc pm : Value) (an : Option Addr) (cdv ct : Value) (us : List Value), us.length = (["line", "horizon", "things"] : List Str).length → bindArgs (PySem.W.fnOf "read_recording" "read_recording" (defArgs s_read_recording) (defBody s_read_recording) (defScope s_read_recording) .none kV doc pm an cdv ct) ⟨us, []⟩ = pure ((["line", "horizon", "things"] : List Str).zip us) :=
  fun _ _ _ _ _ _ us hl => match us, hl with | [_, _, _], _ => rfl
theorem hb_read_pass : ∀ (kV doc pm : Value) (an : Option Addr) (cdv ct : Value) (us : List Value), us.length = (["line", "horizon", "things"] : List Str).length → bindArgs (PySem.W.fnOf "read_pass" "read_pass" (defArgs s_read_pass) (defBody s_read_pass) (defScope s_read_pass) .none kV doc pm an cdv ct) ⟨us, []⟩ = pure ((["line", "horizon", "things"] : List Str).zip us) :=
  fun _ _ _ _ _ _ us hl => match us, hl with | [_, _, _], _ => rfl
theorem hb_most_things : ∀ (kV doc pm : Value) (an : Option Addr) (cdv ct : Value) (us : List Value), us.length = (["sort"] : List Str).length → bindArgs (PySem.W.fnOf "most_things" "most_things" (defArgs s_most_things) (defBody s_most_things) (defScope s_most_things) .none kV doc pm an cdv ct) ⟨us, []⟩ = pure ((["sort"] : List Str).zip us) :=
  fun _ _ _ _ _ _ us hl => match us, hl with | [_], _ => rfl
theorem hb_read_sort : ∀ (kV doc pm : Value) (an : Option Addr) (cdv ct : Value) (us : List Value), us.length = (["line", "ahead", "things"] : List Str).length → bindArgs (PySem.W.fnOf "read_sort" "read_sort" (defArgs s_read_sort) (defBody s_read_sort) (defScope s_read_sort) .none kV doc pm an cdv ct) ⟨us, []⟩ = pure ((["line", "ahead", "things"] : List Str).zip us) :=
  fun _ _ _ _ _ _ us hl => match us, hl with | [_, _, _], _ => rfl
theorem hb_read_things : ∀ (kV doc pm : Value) (an : Option Addr) (cdv ct : Value) (us : List Value), us.length = (["lines", "horizon"] : List Str).length → bindArgs (PySem.W.fnOf "read_things" "read_things" (defArgs s_read_things) (defBody s_read_things) (defScope s_read_things) .none kV doc pm an cdv ct) ⟨us, []⟩ = pure ((["lines", "horizon"] : List Str).zip us) :=
  fun _ _ _ _ _ _ us hl => match us, hl with | [_, _], _ => rfl
theorem hb_lines_of : ∀ (kV doc pm : Value) (an : Option Addr) (cdv ct : Value) (us : List Value), us.length = (["text"] : List Str).length → bindArgs (PySem.W.fnOf "lines_of" "lines_of" (defArgs s_lines_of) (defBody s_lines_of) (defScope s_lines_of) .none kV doc pm an cdv ct) ⟨us, []⟩ = pure ((["text"] : List Str).zip us) :=
  fun _ _ _ _ _ _ us hl => match us, hl with | [_], _ => rfl
theorem hb_is_name : ∀ (kV doc pm : Value) (an : Option Addr) (cdv ct : Value) (us : List Value), us.length = (["word"] : List Str).length → bindArgs (PySem.W.fnOf "is_name" "is_name" (defArgs s_is_name) (defBody s_is_name) (defScope s_is_name) .none kV doc pm an cdv ct) ⟨us, []⟩ = pure ((["word"] : List Str).zip us) :=
  fun _ _ _ _ _ _ us hl => match us, hl with | [_], _ => rfl
theorem hb_is_number : ∀ (kV doc pm : Value) (an : Option Addr) (cdv ct : Value) (us : List Value), us.length = (["word"] : List Str).length → bindArgs (PySem.W.fnOf "is_number" "is_number" (defArgs s_is_number) (defBody s_is_number) (defScope s_is_number) .none kV doc pm an cdv ct) ⟨us, []⟩ = pure ((["word"] : List Str).zip us) :=
  fun _ _ _ _ _ _ us hl => match us, hl with | [_], _ => rfl
theorem hb_Line___init__ : ∀ (kV doc pm : Value) (an : Option Addr) (cdv ct : Value) (us : List Value), us.length = (["self", "number", "row"] : List Str).length → bindArgs (PySem.W.fnOf "__init__" "Line.__init__" (defArgs s_Line___init__) (defBody s_Line___init__) (defScope s_Line___init__) .none kV doc pm an cdv ct) ⟨us, []⟩ = pure ((["self", "number", "row"] : List Str).zip us) :=
  fun _ _ _ _ _ _ us hl => match us, hl with | [_, _, _], _ => rfl
theorem hb_Line_has_more : ∀ (kV doc pm : Value) (an : Option Addr) (cdv ct : Value) (us : List Value), us.length = (["self"] : List Str).length → bindArgs (PySem.W.fnOf "has_more" "Line.has_more" (defArgs s_Line_has_more) (defBody s_Line_has_more) (defScope s_Line_has_more) .none kV doc pm an cdv ct) ⟨us, []⟩ = pure ((["self"] : List Str).zip us) :=
  fun _ _ _ _ _ _ us hl => match us, hl with | [_], _ => rfl
theorem hb_Line_due : ∀ (kV doc pm : Value) (an : Option Addr) (cdv ct : Value) (us : List Value), us.length = (["self"] : List Str).length → bindArgs (PySem.W.fnOf "due" "Line.due" (defArgs s_Line_due) (defBody s_Line_due) (defScope s_Line_due) .none kV doc pm an cdv ct) ⟨us, []⟩ = pure ((["self"] : List Str).zip us) :=
  fun _ _ _ _ _ _ us hl => match us, hl with | [_], _ => rfl
theorem hb_Line_step : ∀ (kV doc pm : Value) (an : Option Addr) (cdv ct : Value) (us : List Value), us.length = (["self"] : List Str).length → bindArgs (PySem.W.fnOf "step" "Line.step" (defArgs s_Line_step) (defBody s_Line_step) (defScope s_Line_step) .none kV doc pm an cdv ct) ⟨us, []⟩ = pure ((["self"] : List Str).zip us) :=
  fun _ _ _ _ _ _ us hl => match us, hl with | [_], _ => rfl
theorem hb_Line_read_choice : ∀ (kV doc pm : Value) (an : Option Addr) (cdv ct : Value) (us : List Value), us.length = (["self", "choices"] : List Str).length → bindArgs (PySem.W.fnOf "read_choice" "Line.read_choice" (defArgs s_Line_read_choice) (defBody s_Line_read_choice) (defScope s_Line_read_choice) .none kV doc pm an cdv ct) ⟨us, []⟩ = pure ((["self", "choices"] : List Str).zip us) :=
  fun _ _ _ _ _ _ us hl => match us, hl with | [_, _], _ => rfl
theorem hb_Line_read_number : ∀ (kV doc pm : Value) (an : Option Addr) (cdv ct : Value) (us : List Value), us.length = (["self", "least", "most"] : List Str).length → bindArgs (PySem.W.fnOf "read_number" "Line.read_number" (defArgs s_Line_read_number) (defBody s_Line_read_number) (defScope s_Line_read_number) .none kV doc pm an cdv ct) ⟨us, []⟩ = pure ((["self", "least", "most"] : List Str).zip us) :=
  fun _ _ _ _ _ _ us hl => match us, hl with | [_, _, _], _ => rfl
theorem hb_Line_read_field : ∀ (kV doc pm : Value) (an : Option Addr) (cdv ct : Value) (us : List Value), us.length = (["self", "word", "least", "most"] : List Str).length → bindArgs (PySem.W.fnOf "read_field" "Line.read_field" (defArgs s_Line_read_field) (defBody s_Line_read_field) (defScope s_Line_read_field) .none kV doc pm an cdv ct) ⟨us, []⟩ = pure ((["self", "word", "least", "most"] : List Str).zip us) :=
  fun _ _ _ _ _ _ us hl => match us, hl with | [_, _, _, _], _ => rfl
theorem hb_Line_due_name : ∀ (kV doc pm : Value) (an : Option Addr) (cdv ct : Value) (us : List Value), us.length = (["self"] : List Str).length → bindArgs (PySem.W.fnOf "due_name" "Line.due_name" (defArgs s_Line_due_name) (defBody s_Line_due_name) (defScope s_Line_due_name) .none kV doc pm an cdv ct) ⟨us, []⟩ = pure ((["self"] : List Str).zip us) :=
  fun _ _ _ _ _ _ us hl => match us, hl with | [_], _ => rfl
theorem hb_Line_read_new_name : ∀ (kV doc pm : Value) (an : Option Addr) (cdv ct : Value) (us : List Value), us.length = (["self", "used"] : List Str).length → bindArgs (PySem.W.fnOf "read_new_name" "Line.read_new_name" (defArgs s_Line_read_new_name) (defBody s_Line_read_new_name) (defScope s_Line_read_new_name) .none kV doc pm an cdv ct) ⟨us, []⟩ = pure ((["self", "used"] : List Str).zip us) :=
  fun _ _ _ _ _ _ us hl => match us, hl with | [_, _], _ => rfl
theorem hb_Line_read_known_name : ∀ (T : Addr) (kV doc pm : Value) (an : Option Addr) (cdv ct : Value) (us its : List Value), us.length = 2 → its.length = 1 →
    ∃ k, bindArgs (PySem.W.fnOf "read_known_name" "Line.read_known_name" (defArgs s_Line_read_known_name) (defBody s_Line_read_known_name) (defScope s_Line_read_known_name) (.ref T) kV doc pm an cdv ct) ⟨us, []⟩ = seqItems? (.ref T) >>= k ∧ k (some its.toArray) = pure ((["self", "names", "least"] : List Str).zip (us ++ its.drop 0)) :=
  fun _ _ _ _ _ _ _ us its h1 h2 => match us, its, h1, h2 with | [_, _], [_], _, _ => ⟨_, rfl, rfl⟩
theorem hb_Line_finish : ∀ (kV doc pm : Value) (an : Option Addr) (cdv ct : Value) (us : List Value), us.length = (["self"] : List Str).length → bindArgs (PySem.W.fnOf "finish" "Line.finish" (defArgs s_Line_finish) (defBody s_Line_finish) (defScope s_Line_finish) .none kV doc pm an cdv ct) ⟨us, []⟩ = pure ((["self"] : List Str).zip us) :=
  fun _ _ _ _ _ _ us hl => match us, hl with | [_], _ => rfl
theorem hb_Satellite___init__ : ∀ (kV doc pm : Value) (an : Option Addr) (cdv ct : Value) (us : List Value), us.length = (["self", "name", "store", "battery", "start_level", "reserve", "charge", "settle", "light"] : List Str).length → bindArgs (PySem.W.fnOf "__init__" "Satellite.__init__" (defArgs s_Satellite___init__) (defBody s_Satellite___init__) (defScope s_Satellite___init__) .none kV doc pm an cdv ct) ⟨us, []⟩ = pure ((["self", "name", "store", "battery", "start_level", "reserve", "charge", "settle", "light"] : List Str).zip us) :=
  fun _ _ _ _ _ _ us hl => match us, hl with | [_, _, _, _, _, _, _, _, _], _ => rfl
theorem hb_Station___init__ : ∀ (kV doc pm : Value) (an : Option Addr) (cdv ct : Value) (us : List Value), us.length = (["self", "name", "antennas", "turn"] : List Str).length → bindArgs (PySem.W.fnOf "__init__" "Station.__init__" (defArgs s_Station___init__) (defBody s_Station___init__) (defScope s_Station___init__) .none kV doc pm an cdv ct) ⟨us, []⟩ = pure ((["self", "name", "antennas", "turn"] : List Str).zip us) :=
  fun _ _ _ _ _ _ us hl => match us, hl with | [_, _, _, _], _ => rfl
theorem hb_Recording___init__ : ∀ (kV doc pm : Value) (an : Option Addr) (cdv ct : Value) (us : List Value), us.length = (["self", "name", "satellite", "earliest", "latest", "length", "size", "energy", "worth", "rank", "deadline"] : List Str).length → bindArgs (PySem.W.fnOf "__init__" "Recording.__init__" (defArgs s_Recording___init__) (defBody s_Recording___init__) (defScope s_Recording___init__) .none kV doc pm an cdv ct) ⟨us, []⟩ = pure ((["self", "name", "satellite", "earliest", "latest", "length", "size", "energy", "worth", "rank", "deadline"] : List Str).zip us) :=
  fun _ _ _ _ _ _ us hl => match us, hl with | [_, _, _, _, _, _, _, _, _, _, _], _ => rfl
theorem hb_Pass___init__ : ∀ (kV doc pm : Value) (an : Option Addr) (cdv ct : Value) (us : List Value), us.length = (["self", "name", "satellite", "station", "span", "room", "energy", "fee"] : List Str).length → bindArgs (PySem.W.fnOf "__init__" "Pass.__init__" (defArgs s_Pass___init__) (defBody s_Pass___init__) (defScope s_Pass___init__) .none kV doc pm an cdv ct) ⟨us, []⟩ = pure ((["self", "name", "satellite", "station", "span", "room", "energy", "fee"] : List Str).zip us) :=
  fun _ _ _ _ _ _ us hl => match us, hl with | [_, _, _, _, _, _, _, _], _ => rfl
theorem hb_World___init__ : ∀ (kV doc pm : Value) (an : Option Addr) (cdv ct : Value) (us : List Value), us.length = (["self", "text", "horizon", "things"] : List Str).length → bindArgs (PySem.W.fnOf "__init__" "World.__init__" (defArgs s_World___init__) (defBody s_World___init__) (defScope s_World___init__) .none kV doc pm an cdv ct) ⟨us, []⟩ = pure ((["self", "text", "horizon", "things"] : List Str).zip us) :=
  fun _ _ _ _ _ _ us hl => match us, hl with | [_, _, _, _], _ => rfl
theorem hb_World_parse : ∀ (kV doc pm : Value) (an : Option Addr) (cdv ct : Value) (us : List Value), us.length = (["text"] : List Str).length → bindArgs (PySem.W.fnOf "parse" "World.parse" (defArgs s_World_parse) (defBody s_World_parse) (defScope s_World_parse) .none kV doc pm an cdv ct) ⟨us, []⟩ = pure ((["text"] : List Str).zip us) :=
  fun _ _ _ _ _ _ us hl => match us, hl with | [_], _ => rfl
section
variable {P : Program} {w : World} {K : PySem.W.Frag} {mg : Str → Option Value} {base : Heap} {CL CS CT CR CP CW aS aR fS fT fR fP : Addr}
theorem prog_parse (T : TxtW K mg CL CS CT CR CP CW aS aR fS fT fR fP) (F : PF K mg CL CS CT CR CP CW) : SDef P w K mg base CX0 7 CW "parse" ["text"] (spParse K CS CT CR CP CW) := by
  have L := T.L
  have B := L.B
  have D_init : MDef P w K mg base CX0 1 CL "__init__" _ [] _ := d_Line_init L F.p_Line___init__
  have D_has_more : MDef P w K mg base CX0 1 CL "has_more" _ [] _ := d_has_more L F.p_Line_has_more
  have D_due : MDef P w K mg base CX0 2 CL "due" _ [] _ := d_due L D_has_more F.p_Line_due
  have D_step : MDef P w K mg base CX0 1 CL "step" _ [] _ := d_step L F.p_Line_step
  have D_choice : MDef P w K mg base CX0 3 CL "read_choice" _ [] _ := d_read_choice L D_due D_step F.p_Line_read_choice
  have D_isnum : DefOk P w K mg base CX0 1 "is_number" _ _ := d_is_number L F.p_is_number
  have D_number : MDef P w K mg base CX0 3 CL "read_number" _ [] _ := d_read_number L D_isnum D_due D_step F.p_Line_read_number
  have D_field : MDef P w K mg base CX0 4 CL "read_field" _ [] _ := d_read_field L D_choice D_number F.p_Line_read_field
  have D_isname : DefOk P w K mg base CX0 1 "is_name" _ _ := d_is_name L F.p_is_name
  have D_due_name : MDef P w K mg base CX0 3 CL "due_name" _ [] _ := d_due_name L D_isname D_due F.p_Line_due_name
  have D_new : MDef P w K mg base CX0 4 CL "read_new_name" _ [] _ := d_read_new_name L D_due_name D_step F.p_Line_read_new_name
  have D_known : MDef P w K mg base CX0 4 CL "read_known_name" _ _ _ := d_read_known_name L D_due_name D_step F.p_Line_read_known_name
  have D_finish : MDef P w K mg base CX0 3 CL "finish" _ [] _ := d_finish L D_has_more F.p_Line_finish
  have D_lines : DefOk P w K mg base CX0 3 "lines_of" _ _ := d_lines_of L D_init F.p_lines_of
  have D_names : DefOk P w K mg base CX0 1 "names_of" _ _ := d_names_of B F.p_names_of
  have D_light : DefOk P w K mg base CX0 4 "read_light" _ _ := d_read_light T D_has_more D_number F.p_read_light
  have D1 : DefOk P w K mg base CX0 5 "read_satellite" _ _ := d_read_satellite T D_names D_new D_field D_choice D_light (dI_Satellite T F.p_Satellite___init__) F.p_read_satellite
  have D2 : DefOk P w K mg base CX0 5 "read_station" _ _ := d_read_station T D_names D_new D_field (dI_Station T F.p_Station___init__) F.p_read_station
  have D3 : DefOk P w K mg base CX0 5 "read_recording" _ _ := d_read_recording T D_names D_new D_field D_choice D_known (dI_Recording T F.p_Recording___init__) F.p_read_recording
  have D4 : DefOk P w K mg base CX0 5 "read_pass" _ _ := d_read_pass T D_names D_new D_field D_choice D_known (dI_Pass T F.p_Pass___init__) F.p_read_pass
  have D_most : DefOk P w K mg base CX0 1 "most_things" _ _ := d_most_things T F.p_most_things
  have D_sort : DefOk P w K mg base CX0 3 "read_sort" _ _ := d_read_sort T D_due D_step D_most F.p_read_sort
  have D_things : DefOk P w K mg base CX0 6 "read_things" _ _ := d_read_things T D_sort D1 D2 D3 D4
    (at_ne F.p_read_station F.p_read_satellite T.r_station T.r_satellite (by decide)) (at_ne F.p_read_recording F.p_read_satellite T.r_recording T.r_satellite (by decide)) (at_ne F.p_read_recording F.p_read_station T.r_recording T.r_station (by decide))
    (at_ne F.p_read_pass F.p_read_satellite T.r_pass T.r_satellite (by decide)) (at_ne F.p_read_pass F.p_read_station T.r_pass T.r_station (by decide)) (at_ne F.p_read_pass F.p_read_recording T.r_pass T.r_recording (by decide)) D_finish F.p_read_things
  exact d_parse T D_lines D_field D_finish D_things (dI_World T F.p_World___init__) F.p_World_parse
end
end DP
namespace DP
open PySem PySem.Spec PyProof.Rows L2
theorem the_law {P : Program} {w : World} {K : PySem.W.Frag} {mg : Str → Option Value} {base : Heap} {CL CS CT CR CP CW aS aR fS fT fR fP aM CB CE CN : Addr} (T : TxtW K mg CL CS CT CR CP CW aS aR fS fT fR fP) (F : PF K mg CL CS CT CR CP CW)
    (a1 : At K mg "_law_cell" s__law_cell ["script", "k"]) (a2 : At K mg "_law_draws" s__law_draws ["cell", "count"]) (a3 : At K mg "_law_satellite" s__law_satellite ["cell", "k"]) (a4 : At K mg "_law_recording" s__law_recording ["cell", "k", "satellites"]) (a5 : At K mg "_law_pass" s__law_pass ["cell", "k", "satellites", "stations"]) (a6 : At K mg "_law_text" s__law_text ["script", "recordings", "passes"]) (a7 : At K mg "_law_world" s__law_world ["script"])
    (c1 : At K mg "is_integer" s_is_integer ["thing"]) (c2 : At K mg "has_row_form" s_has_row_form ["row"]) (c3 : At K mg "things_of" s_things_of ["world", "word"]) (c4 : At K mg "check_row" s_check_row ["world", "row"])
    (e1 : At K mg "_law_row" s__law_row ["world", "cell"]) (e2 : At K mg "_law_wrong" s__law_wrong ["world", "row", "cell"]) (e3 : At K mg "_law_refused" s__law_refused ["world", "row"]) (e7 : At K mg "law" s_law ["script"])
    (TR : TxtR K w mg aM) (TW : TxtW4 K aM) (TE : TxtB K mg CB CE CN) (TI : TxtI K CB) : DefOk P w K mg base CX0 9 "law" ["script"] (spLaw K) := by
  have B := T.L.B
  have D_cell : DefOk P w K mg base CX0 1 "_law_cell" _ _ := d_cell B a1
  have D_draws : DefOk P w K mg base CX0 1 "_law_draws" _ _ := d_draws B a2
  have D_world : DefOk P w K mg base CX0 8 "_law_world" _ _ := d_worldC T D_cell (d_textC B D_cell D_draws (d_satC B D_draws a3) (d_recC B D_draws a4) (d_pasC B D_draws a5) a6) (prog_parse T F) a7
  have D_form : DefOk P w K mg base CX0 2 "has_row_form" _ _ := d_form B TR (d_isint B c1) c2
  have D_things : DefOk P w K mg base CX0 1 "things_of" _ _ := d_things_of T c3
  exact d_law T TR D_cell D_world (d_law_row T D_draws e1) (d_check_row T TR D_form D_things c4) (d_refused B TE TI (d_check_rowX T TR TE D_form D_things c4) e3) (d_wrong T TR TW e2) e7
theorem hb__law_cell : ∀ (kV doc pm : Value) (an : Option Addr) (cdv ct : Value) (us : List Value), us.length = (["script", "k"] : List Str).length → bindArgs (PySem.W.fnOf "_law_cell" "_law_cell" (defArgs s__law_cell) (defBody s__law_cell) (defScope s__law_cell) .none kV doc pm an cdv ct) ⟨us, []⟩ = pure ((["script", "k"] : List Str).zip us) :=
  fun _ _ _ _ _ _ us hl => match us, hl with | [_, _], _ => rfl
theorem hb__law_draws : ∀ (kV doc pm : Value) (an : Option Addr) (cdv ct : Value) (us : List Value), us.length = (["cell", "count"] : List Str).length → bindArgs (PySem.W.fnOf "_law_draws" "_law_draws" (defArgs s__law_draws) (defBody s__law_draws) (defScope s__law_draws) .none kV doc pm an cdv ct) ⟨us, []⟩ = pure ((["cell", "count"] : List Str).zip us) :=
  fun _ _ _ _ _ _ us hl => match us, hl with | [_, _], _ => rfl
theorem hb__law_satellite : ∀ (kV doc pm : Value) (an : Option Addr) (cdv ct : Value) (us : List Value), us.length = (["cell", "k"] : List Str).length → bindArgs (PySem.W.fnOf "_law_satellite" "_law_satellite" (defArgs s__law_satellite) (defBody s__law_satellite) (defScope s__law_satellite) .none kV doc pm an cdv ct) ⟨us, []⟩ = pure ((["cell", "k"] : List Str).zip us) :=
  fun _ _ _ _ _ _ us hl => match us, hl with | [_, _], _ => rfl
theorem hb__law_recording : ∀ (kV doc pm : Value) (an : Option Addr) (cdv ct : Value) (us : List Value), us.length = (["cell", "k", "satellites"] : List Str).length → bindArgs (PySem.W.fnOf "_law_recording" "_law_recording" (defArgs s__law_recording) (defBody s__law_recording) (defScope s__law_recording) .none kV doc pm an cdv ct) ⟨us, []⟩ = pure ((["cell", "k", "satellites"] : List Str).zip us) :=
  fun _ _ _ _ _ _ us hl => match us, hl with | [_, _, _], _ => rfl
theorem hb__law_pass : ∀ (kV doc pm : Value) (an : Option Addr) (cdv ct : Value) (us : List Value), us.length = (["cell", "k", "satellites", "stations"] : List Str).length → bindArgs (PySem.W.fnOf "_law_pass" "_law_pass" (defArgs s__law_pass) (defBody s__law_pass) (defScope s__law_pass) .none kV doc pm an cdv ct) ⟨us, []⟩ = pure ((["cell", "k", "satellites", "stations"] : List Str).zip us) :=
  fun _ _ _ _ _ _ us hl => match us, hl with | [_, _, _, _], _ => rfl
theorem hb__law_text : ∀ (kV doc pm : Value) (an : Option Addr) (cdv ct : Value) (us : List Value), us.length = (["script", "recordings", "passes"] : List Str).length → bindArgs (PySem.W.fnOf "_law_text" "_law_text" (defArgs s__law_text) (defBody s__law_text) (defScope s__law_text) .none kV doc pm an cdv ct) ⟨us, []⟩ = pure ((["script", "recordings", "passes"] : List Str).zip us) :=
  fun _ _ _ _ _ _ us hl => match us, hl with | [_, _, _], _ => rfl
theorem hb__law_world : ∀ (kV doc pm : Value) (an : Option Addr) (cdv ct : Value) (us : List Value), us.length = (["script"] : List Str).length → bindArgs (PySem.W.fnOf "_law_world" "_law_world" (defArgs s__law_world) (defBody s__law_world) (defScope s__law_world) .none kV doc pm an cdv ct) ⟨us, []⟩ = pure ((["script"] : List Str).zip us) :=
  fun _ _ _ _ _ _ us hl => match us, hl with | [_], _ => rfl
theorem hb_is_integer : ∀ (kV doc pm : Value) (an : Option Addr) (cdv ct : Value) (us : List Value), us.length = (["thing"] : List Str).length → bindArgs (PySem.W.fnOf "is_integer" "is_integer" (defArgs s_is_integer) (defBody s_is_integer) (defScope s_is_integer) .none kV doc pm an cdv ct) ⟨us, []⟩ = pure ((["thing"] : List Str).zip us) :=
  fun _ _ _ _ _ _ us hl => match us, hl with | [_], _ => rfl
theorem hb_has_row_form : ∀ (kV doc pm : Value) (an : Option Addr) (cdv ct : Value) (us : List Value), us.length = (["row"] : List Str).length → bindArgs (PySem.W.fnOf "has_row_form" "has_row_form" (defArgs s_has_row_form) (defBody s_has_row_form) (defScope s_has_row_form) .none kV doc pm an cdv ct) ⟨us, []⟩ = pure ((["row"] : List Str).zip us) :=
  fun _ _ _ _ _ _ us hl => match us, hl with | [_], _ => rfl
theorem hb_things_of : ∀ (kV doc pm : Value) (an : Option Addr) (cdv ct : Value) (us : List Value), us.length = (["world", "word"] : List Str).length → bindArgs (PySem.W.fnOf "things_of" "things_of" (defArgs s_things_of) (defBody s_things_of) (defScope s_things_of) .none kV doc pm an cdv ct) ⟨us, []⟩ = pure ((["world", "word"] : List Str).zip us) :=
  fun _ _ _ _ _ _ us hl => match us, hl with | [_, _], _ => rfl
theorem hb_check_row : ∀ (kV doc pm : Value) (an : Option Addr) (cdv ct : Value) (us : List Value), us.length = (["world", "row"] : List Str).length → bindArgs (PySem.W.fnOf "check_row" "check_row" (defArgs s_check_row) (defBody s_check_row) (defScope s_check_row) .none kV doc pm an cdv ct) ⟨us, []⟩ = pure ((["world", "row"] : List Str).zip us) :=
  fun _ _ _ _ _ _ us hl => match us, hl with | [_, _], _ => rfl
theorem hb__law_row : ∀ (kV doc pm : Value) (an : Option Addr) (cdv ct : Value) (us : List Value), us.length = (["world", "cell"] : List Str).length → bindArgs (PySem.W.fnOf "_law_row" "_law_row" (defArgs s__law_row) (defBody s__law_row) (defScope s__law_row) .none kV doc pm an cdv ct) ⟨us, []⟩ = pure ((["world", "cell"] : List Str).zip us) :=
  fun _ _ _ _ _ _ us hl => match us, hl with | [_, _], _ => rfl
theorem hb__law_wrong : ∀ (kV doc pm : Value) (an : Option Addr) (cdv ct : Value) (us : List Value), us.length = (["world", "row", "cell"] : List Str).length → bindArgs (PySem.W.fnOf "_law_wrong" "_law_wrong" (defArgs s__law_wrong) (defBody s__law_wrong) (defScope s__law_wrong) .none kV doc pm an cdv ct) ⟨us, []⟩ = pure ((["world", "row", "cell"] : List Str).zip us) :=
  fun _ _ _ _ _ _ us hl => match us, hl with | [_, _, _], _ => rfl
theorem hb__law_refused : ∀ (kV doc pm : Value) (an : Option Addr) (cdv ct : Value) (us : List Value), us.length = (["world", "row"] : List Str).length → bindArgs (PySem.W.fnOf "_law_refused" "_law_refused" (defArgs s__law_refused) (defBody s__law_refused) (defScope s__law_refused) .none kV doc pm an cdv ct) ⟨us, []⟩ = pure ((["world", "row"] : List Str).zip us) :=
  fun _ _ _ _ _ _ us hl => match us, hl with | [_, _], _ => rfl
theorem hb_law : ∀ (kV doc pm : Value) (an : Option Addr) (cdv ct : Value) (us : List Value), us.length = (["script"] : List Str).length → bindArgs (PySem.W.fnOf "law" "law" (defArgs s_law) (defBody s_law) (defScope s_law) .none kV doc pm an cdv ct) ⟨us, []⟩ = pure ((["script"] : List Str).zip us) :=
  fun _ _ _ _ _ _ us hl => match us, hl with | [_], _ => rfl
theorem fin {l : PySem.W.OpenLaw} {w : World} {K : PySem.W.Frag} {mg : Str → Option Value} {fa CL CS CT CR CP CW aS aR fS fT fR fP CB aM CE CN : Addr} (hfa : mg "law" = some (.ref fa)) (T : TxtW K mg CL CS CT CR CP CW aS aR fS fT fR fP) (F : PF K mg CL CS CT CR CP CW)
    (a__law_cell : At K mg "_law_cell" s__law_cell ["script", "k"])
    (a__law_draws : At K mg "_law_draws" s__law_draws ["cell", "count"])
    (a__law_satellite : At K mg "_law_satellite" s__law_satellite ["cell", "k"])
    (a__law_recording : At K mg "_law_recording" s__law_recording ["cell", "k", "satellites"])
    (a__law_pass : At K mg "_law_pass" s__law_pass ["cell", "k", "satellites", "stations"])
    (a__law_text : At K mg "_law_text" s__law_text ["script", "recordings", "passes"])
    (a__law_world : At K mg "_law_world" s__law_world ["script"])
    (a_is_integer : At K mg "is_integer" s_is_integer ["thing"])
    (a_has_row_form : At K mg "has_row_form" s_has_row_form ["row"])
    (a_things_of : At K mg "things_of" s_things_of ["world", "word"])
    (a_check_row : At K mg "check_row" s_check_row ["world", "row"])
    (a__law_row : At K mg "_law_row" s__law_row ["world", "cell"])
    (a__law_wrong : At K mg "_law_wrong" s__law_wrong ["world", "row", "cell"])
    (a__law_refused : At K mg "_law_refused" s__law_refused ["world", "row"])
    (a_law : At K mg "law" s_law ["script"])
    (TR : TxtR K w mg aM)
    (TW : TxtW4 K aM)
    (TE : TxtB K mg CB CE CN)
    (TI : TxtI K CB)
    : ∃ fd : FuncData, (∀ (s : Shared) (v : Value), BindsTo s fd ⟨[v], []⟩ [("script", v)]) ∧ ∀ base : Heap, K.In base → base.Ns mainGlobals mg → FnOk l.prog w K mg base CX0 9 fa fd ["script"] (spLaw K) :=
  a_law.end_ hfa (fun base => the_law T F a__law_cell a__law_draws a__law_satellite a__law_recording a__law_pass a__law_text a__law_world a_is_integer a_has_row_form a_things_of a_check_row a__law_row a__law_wrong a__law_refused a_law TR TW TE TI) (fun _ _ _ _ _ _ _ => rfl)
end DP
open PySem PySem.W PyProof.Rows
set_option maxHeartbeats 0 in
theorem PySem.Challenge.cw_downpass_k53_what_is_no_row_holds : PySem.Challenge.rw_downpass_k53_what_is_no_row.Holds := by
  w_on; o_law; k_head; (case hw => w_witness2)
  k_fill
  refine L2.walk_of (l := PySem.Challenge.rw_downpass_k53_what_is_no_row) (n := 63) (k := 9) (x := "script") (CX := fun _ => L2.CX0) (sp := fun w => DP.spLaw _) rfl (by decide) rfl ⟨rfl, by decide, by decide⟩ (fun w h Y => PySem.W.kIn_of Y) ?F (fun _ _ a ns hl _ hS => ⟨a, ns, rfl, hS, fun _ => rfl⟩) (fun _ _ _ _ _ h => h)
  case F =>
    intro w mg fa h KX G hmg
    refine' DP.fin hmg ⟨⟨⟨?z_len, ?z_range, ?z_int, ?z_abs, ?z_isinstance, ?z_bool, ?z_str, ?z_tuple, ?z_list, ?z_sum, ?z_max, ?z_min, ?z_all, ?z_enumerate, ?z_zip, ?z_dict⟩, ?c_Line, ?n_Line_number, ?n_Line_words, ?n_Line_read, ?n_Line_column, ?g_LETTERS, ?g_DIGITS, ?g_MOST_NAME, ?g_MOST_DIGITS⟩, ?c_Satellite, ?c_Station, ?c_Recording, ?c_Pass, ?c_World, ?n_Satellite_name, ?n_Satellite_store, ?n_Satellite_battery, ?n_Satellite_start_level, ?n_Satellite_reserve, ?n_Satellite_charge, ?n_Satellite_settle, ?n_Satellite_light, ?n_Station_name, ?n_Station_antennas, ?n_Station_turn, ?n_Recording_name, ?n_Recording_satellite, ?n_Recording_earliest, ?n_Recording_latest, ?n_Recording_length, ?n_Recording_size, ?n_Recording_energy, ?n_Recording_worth, ?n_Recording_rank, ?n_Recording_deadline, ?n_Pass_name, ?n_Pass_satellite, ?n_Pass_station, ?n_Pass_span, ?n_Pass_room, ?n_Pass_energy, ?n_Pass_fee, ?n_World_text, ?n_World_horizon, ?n_World_satellites, ?n_World_stations, ?n_World_recordings, ?n_World_passes, ?g_SATELLITES, ?g_STATIONS, ?g_RECORDINGS, ?g_PASSES, ?g_MOST_UNITS, ?g_MOST_CHARGE, ?g_MOST_DELAY, ?g_MOST_ANTENNAS, ?g_MOST_WORTH, ?g_MOST_RANK, ?g_MOST_FEE, ?g_SORTS, ?t_SORTS, ?k_SORTS, ?g_READERS, ?t_READERS, ?r_satellite, ?r_station, ?r_recording, ?r_pass, ?rdW, ?v_MOST_HORIZON, ?v_MOST_SATELLITES, ?v_MOST_STATIONS, ?v_MOST_RECORDINGS, ?v_MOST_PASSES, ?v_MOST_SHIFT⟩ ⟨?p_names_of, ?p_read_light, ?p_read_satellite, ?p_read_station, ?p_read_recording, ?p_read_pass, ?p_most_things, ?p_read_sort, ?p_read_things, ?p_lines_of, ?p_is_name, ?p_is_number, ?p_Line___init__, ?p_Line_has_more, ?p_Line_due, ?p_Line_step, ?p_Line_read_choice, ?p_Line_read_number, ?p_Line_read_field, ?p_Line_due_name, ?p_Line_read_new_name, ?p_Line_read_known_name, ?p_Line_finish, ?p_Satellite___init__, ?p_Station___init__, ?p_Recording___init__, ?p_Pass___init__, ?p_World___init__, ?p_World_parse⟩ ?a__law_cell ?a__law_draws ?a__law_satellite ?a__law_recording ?a__law_pass ?a__law_text ?a__law_world ?a_is_integer ?a_has_row_form ?a_things_of ?a_check_row ?a__law_row ?a__law_wrong ?a__law_refused ?a_law ?TR ?TW ?TE ?TI
    (case c_Line => (refine' DP.cls_mk KX G ?g_u17 ?pg_u17 ?hd_u17 ?po_u17 ?sa_u17 ?mk_u17 ?kp_u17; (case g_u17 => k_is); (case pg_u17 => k_is); (case hd_u17 => k_is); (case po_u17 => k_is); (case sa_u17 => k_is); (case mk_u17 => k_is); (case kp_u17 => k_is)))
    (case c_Satellite => (refine' DP.cls_mk KX G ?g_u18 ?pg_u18 ?hd_u18 ?po_u18 ?sa_u18 ?mk_u18 ?kp_u18; (case g_u18 => k_is); (case pg_u18 => k_is); (case hd_u18 => k_is); (case po_u18 => k_is); (case sa_u18 => k_is); (case mk_u18 => k_is); (case kp_u18 => k_is)))
    (case c_Station => (refine' DP.cls_mk KX G ?g_u19 ?pg_u19 ?hd_u19 ?po_u19 ?sa_u19 ?mk_u19 ?kp_u19; (case g_u19 => k_is); (case pg_u19 => k_is); (case hd_u19 => k_is); (case po_u19 => k_is); (case sa_u19 => k_is); (case mk_u19 => k_is); (case kp_u19 => k_is)))
    (case c_Recording => (refine' DP.cls_mk KX G ?g_u20 ?pg_u20 ?hd_u20 ?po_u20 ?sa_u20 ?mk_u20 ?kp_u20; (case g_u20 => k_is); (case pg_u20 => k_is); (case hd_u20 => k_is); (case po_u20 => k_is); (case sa_u20 => k_is); (case mk_u20 => k_is); (case kp_u20 => k_is)))
    (case c_Pass => (refine' DP.cls_mk KX G ?g_u21 ?pg_u21 ?hd_u21 ?po_u21 ?sa_u21 ?mk_u21 ?kp_u21; (case g_u21 => k_is); (case pg_u21 => k_is); (case hd_u21 => k_is); (case po_u21 => k_is); (case sa_u21 => k_is); (case mk_u21 => k_is); (case kp_u21 => k_is)))
    (case c_World => (refine' DP.cls_mk KX G ?g_u22 ?pg_u22 ?hd_u22 ?po_u22 ?sa_u22 ?mk_u22 ?kp_u22; (case g_u22 => k_is); (case pg_u22 => k_is); (case hd_u22 => k_is); (case po_u22 => k_is); (case sa_u22 => k_is); (case mk_u22 => k_is); (case kp_u22 => k_is)))
    (case TR => (refine' ⟨PySem.W.mg_of KX G ?rm0, ⟨_, _, ⟨?rm1, ?rm2, ?rm3⟩⟩, ⟨_, ?rm4⟩, ⟨_, ?rm5⟩, ⟨_, ?rm6⟩, ⟨_, ?rm7⟩, ⟨_, ?rm8⟩, ⟨_, ?rm9⟩⟩; (case rm0 => k_is); (case rm1 => k_is); (case rm2 => k_keys); (case rm3 => decide); (case rm4 => exact rfl); (case rm5 => exact rfl); (case rm6 => exact rfl); (case rm7 => exact rfl); (case rm8 => exact rfl); (case rm9 => exact rfl)))
    (case TW => (refine' ⟨?ww0, ?ww1, ?ww2, ?ww3⟩; (case ww0 => exact rfl); (case ww1 => exact rfl); (case ww2 => exact rfl); (case ww3 => exact rfl)))
    (case TE => (refine' ⟨PySem.W.mg_of KX G ?eb1, ?eb2, ?eb3, ?eb4, ?eb5, ?eb6, ?eb7, PySem.W.mg_of KX G ?ee1, ?ee2, ?ee3, ?ee4, PySem.W.mg_of KX G ?en1, ?en2, ?en3, ?en4⟩; (case eb1 => k_is); (case eb2 => k_exc); (case eb3 => k_is); (case eb4 => k_is); (case eb5 => k_is); (case eb6 => k_is); (case eb7 => first | rfl | k_is); (case ee1 => k_is); (case ee2 => k_is); (case ee3 => k_is); (case ee4 => k_is); (case en1 => k_is); (case en2 => k_is); (case en3 => k_is); (case en4 => k_is)))
    (case TI => (refine' ⟨⟨?xc1, ?xc2, ?xc3, ?xc4, ?xc5, ?xc6, ?xc7, ?xc8⟩⟩; (case xc1 => k_is); (case xc2 => k_is); (case xc3 => k_is); (case xc4 => k_is); (case xc5 => k_is); (case xc6 => k_is); (case xc7 => k_is); (case xc8 => k_is)))
    (case r_satellite => (refine' PySem.W.mg_of KX G ?q_u38; (case q_u38 => k_is)))
    (case r_station => (refine' PySem.W.mg_of KX G ?q_u39; (case q_u39 => k_is)))
    (case r_recording => (refine' PySem.W.mg_of KX G ?q_u40; (case q_u40 => k_is)))
    (case r_pass => (refine' PySem.W.mg_of KX G ?q_u41; (case q_u41 => k_is)))
    (case g_SORTS => (refine' PySem.W.mg_of KX G ?q_u42; (case q_u42 => k_is)))
    (case t_SORTS => (refine' DP.tup4s_mk ?q_u43; (case q_u43 => k_is)))
    (case k_SORTS => (refine' DP.tupk_mk ?q_u44; (case q_u44 => k_is)))
    (case g_READERS => (refine' PySem.W.mg_of KX G ?q_u45; (case q_u45 => k_is)))
    (case t_READERS => (refine' DP.tup4r_mk ?q_u46; (case q_u46 => k_is)))
    (case n_Line_number => (show PySem.W.findIn _ _ _ = some none; k_is))
    (case n_Line_words => (show PySem.W.findIn _ _ _ = some none; k_is))
    (case n_Line_read => (show PySem.W.findIn _ _ _ = some none; k_is))
    (case n_Line_column => (show PySem.W.findIn _ _ _ = some none; k_is))
    (case n_Satellite_name => (show PySem.W.findIn _ _ _ = some none; k_is))
    (case n_Satellite_store => (show PySem.W.findIn _ _ _ = some none; k_is))
    (case n_Satellite_battery => (show PySem.W.findIn _ _ _ = some none; k_is))
    (case n_Satellite_start_level => (show PySem.W.findIn _ _ _ = some none; k_is))
    (case n_Satellite_reserve => (show PySem.W.findIn _ _ _ = some none; k_is))
    (case n_Satellite_charge => (show PySem.W.findIn _ _ _ = some none; k_is))
    (case n_Satellite_settle => (show PySem.W.findIn _ _ _ = some none; k_is))
    (case n_Satellite_light => (show PySem.W.findIn _ _ _ = some none; k_is))
    (case n_Station_name => (show PySem.W.findIn _ _ _ = some none; k_is))
    (case n_Station_antennas => (show PySem.W.findIn _ _ _ = some none; k_is))
    (case n_Station_turn => (show PySem.W.findIn _ _ _ = some none; k_is))
    (case n_Recording_name => (show PySem.W.findIn _ _ _ = some none; k_is))
    (case n_Recording_satellite => (show PySem.W.findIn _ _ _ = some none; k_is))
    (case n_Recording_earliest => (show PySem.W.findIn _ _ _ = some none; k_is))
    (case n_Recording_latest => (show PySem.W.findIn _ _ _ = some none; k_is))
    (case n_Recording_length => (show PySem.W.findIn _ _ _ = some none; k_is))
    (case n_Recording_size => (show PySem.W.findIn _ _ _ = some none; k_is))
    (case n_Recording_energy => (show PySem.W.findIn _ _ _ = some none; k_is))
    (case n_Recording_worth => (show PySem.W.findIn _ _ _ = some none; k_is))
    (case n_Recording_rank => (show PySem.W.findIn _ _ _ = some none; k_is))
    (case n_Recording_deadline => (show PySem.W.findIn _ _ _ = some none; k_is))
    (case n_Pass_name => (show PySem.W.findIn _ _ _ = some none; k_is))
    (case n_Pass_satellite => (show PySem.W.findIn _ _ _ = some none; k_is))
    (case n_Pass_station => (show PySem.W.findIn _ _ _ = some none; k_is))
    (case n_Pass_span => (show PySem.W.findIn _ _ _ = some none; k_is))
    (case n_Pass_room => (show PySem.W.findIn _ _ _ = some none; k_is))
    (case n_Pass_energy => (show PySem.W.findIn _ _ _ = some none; k_is))
    (case n_Pass_fee => (show PySem.W.findIn _ _ _ = some none; k_is))
    (case n_World_text => (show PySem.W.findIn _ _ _ = some none; k_is))
    (case n_World_horizon => (show PySem.W.findIn _ _ _ = some none; k_is))
    (case n_World_satellites => (show PySem.W.findIn _ _ _ = some none; k_is))
    (case n_World_stations => (show PySem.W.findIn _ _ _ = some none; k_is))
    (case n_World_recordings => (show PySem.W.findIn _ _ _ = some none; k_is))
    (case n_World_passes => (show PySem.W.findIn _ _ _ = some none; k_is))
    (case z_len => (refine' PySem.W.mg_none_of KX G ?q_u1; (case q_u1 => k_is)))
    (case z_range => (refine' PySem.W.mg_none_of KX G ?q_u2; (case q_u2 => k_is)))
    (case z_int => (refine' PySem.W.mg_none_of KX G ?q_u3; (case q_u3 => k_is)))
    (case z_abs => (refine' PySem.W.mg_none_of KX G ?q_u4; (case q_u4 => k_is)))
    (case z_isinstance => (refine' PySem.W.mg_none_of KX G ?q_u5; (case q_u5 => k_is)))
    (case z_bool => (refine' PySem.W.mg_none_of KX G ?q_u6; (case q_u6 => k_is)))
    (case z_str => (refine' PySem.W.mg_none_of KX G ?q_u7; (case q_u7 => k_is)))
    (case z_tuple => (refine' PySem.W.mg_none_of KX G ?q_u8; (case q_u8 => k_is)))
    (case z_list => (refine' PySem.W.mg_none_of KX G ?q_u9; (case q_u9 => k_is)))
    (case z_sum => (refine' PySem.W.mg_none_of KX G ?q_u10; (case q_u10 => k_is)))
    (case z_max => (refine' PySem.W.mg_none_of KX G ?q_u11; (case q_u11 => k_is)))
    (case z_min => (refine' PySem.W.mg_none_of KX G ?q_u12; (case q_u12 => k_is)))
    (case z_all => (refine' PySem.W.mg_none_of KX G ?q_u13; (case q_u13 => k_is)))
    (case z_enumerate => (refine' PySem.W.mg_none_of KX G ?q_u14; (case q_u14 => k_is)))
    (case z_zip => (refine' PySem.W.mg_none_of KX G ?q_u15; (case q_u15 => k_is)))
    (case z_dict => (refine' PySem.W.mg_none_of KX G ?q_u16; (case q_u16 => k_is)))
    (case g_LETTERS => (refine' DP.str_mk KX G ?q_u23; (case q_u23 => k_is)))
    (case g_DIGITS => (refine' DP.str_mk KX G ?q_u24; (case q_u24 => k_is)))
    (case g_MOST_NAME => (refine' DP.int_mk KX G ?q_u25; (case q_u25 => k_is)))
    (case g_MOST_DIGITS => (refine' DP.int_mk KX G ?q_u26; (case q_u26 => k_is)))
    (case g_SATELLITES => (refine' DP.int_mk KX G ?q_u27; (case q_u27 => k_is)))
    (case g_STATIONS => (refine' DP.int_mk KX G ?q_u28; (case q_u28 => k_is)))
    (case g_RECORDINGS => (refine' DP.int_mk KX G ?q_u29; (case q_u29 => k_is)))
    (case g_PASSES => (refine' DP.int_mk KX G ?q_u30; (case q_u30 => k_is)))
    (case g_MOST_UNITS => (refine' DP.int_mk KX G ?q_u31; (case q_u31 => k_is)))
    (case g_MOST_CHARGE => (refine' DP.int_mk KX G ?q_u32; (case q_u32 => k_is)))
    (case g_MOST_DELAY => (refine' DP.int_mk KX G ?q_u33; (case q_u33 => k_is)))
    (case g_MOST_ANTENNAS => (refine' DP.int_mk KX G ?q_u34; (case q_u34 => k_is)))
    (case g_MOST_WORTH => (refine' DP.int_mk KX G ?q_u35; (case q_u35 => k_is)))
    (case g_MOST_RANK => (refine' DP.int_mk KX G ?q_u36; (case q_u36 => k_is)))
    (case g_MOST_FEE => (refine' DP.int_mk KX G ?q_u37; (case q_u37 => k_is)))
    (case rdW => (refine' ⟨?rd_u47, ?ga_u47⟩; (case rd_u47 => k_is); (case ga_u47 => k_is)))
    (case v_MOST_HORIZON => (refine' DP.cval_mk ?q_u48; (case q_u48 => k_is)))
    (case v_MOST_SATELLITES => (refine' DP.cval_mk ?q_u49; (case q_u49 => k_is)))
    (case v_MOST_STATIONS => (refine' DP.cval_mk ?q_u50; (case q_u50 => k_is)))
    (case v_MOST_RECORDINGS => (refine' DP.cval_mk ?q_u51; (case q_u51 => k_is)))
    (case v_MOST_PASSES => (refine' DP.cval_mk ?q_u52; (case q_u52 => k_is)))
    (case v_MOST_SHIFT => (refine' DP.cval_mk ?q_u53; (case q_u53 => k_is)))
    (case p_names_of => (refine' DP.at_mk KX G ?a_u54 ?l_u54 ?c_u54 ?k_u54 DP.hb_names_of; (case a_u54 => k_is); (case l_u54 => k_is); (case c_u54 => k_is); (case k_u54 => k_is)))
    (case p_read_light => (refine' DP.at_mk KX G ?a_u55 ?l_u55 ?c_u55 ?k_u55 DP.hb_read_light; (case a_u55 => k_is); (case l_u55 => k_is); (case c_u55 => k_is); (case k_u55 => k_is)))
    (case p_read_satellite => (refine' DP.at_mk KX G ?a_u56 ?l_u56 ?c_u56 ?k_u56 DP.hb_read_satellite; (case a_u56 => k_is); (case l_u56 => k_is); (case c_u56 => k_is); (case k_u56 => k_is)))
    (case p_read_station => (refine' DP.at_mk KX G ?a_u57 ?l_u57 ?c_u57 ?k_u57 DP.hb_read_station; (case a_u57 => k_is); (case l_u57 => k_is); (case c_u57 => k_is); (case k_u57 => k_is)))
    (case p_read_recording => (refine' DP.at_mk KX G ?a_u58 ?l_u58 ?c_u58 ?k_u58 DP.hb_read_recording; (case a_u58 => k_is); (case l_u58 => k_is); (case c_u58 => k_is); (case k_u58 => k_is)))
    (case p_read_pass => (refine' DP.at_mk KX G ?a_u59 ?l_u59 ?c_u59 ?k_u59 DP.hb_read_pass; (case a_u59 => k_is); (case l_u59 => k_is); (case c_u59 => k_is); (case k_u59 => k_is)))
    (case p_most_things => (refine' DP.at_mk KX G ?a_u60 ?l_u60 ?c_u60 ?k_u60 DP.hb_most_things; (case a_u60 => k_is); (case l_u60 => k_is); (case c_u60 => k_is); (case k_u60 => k_is)))
    (case p_read_sort => (refine' DP.at_mk KX G ?a_u61 ?l_u61 ?c_u61 ?k_u61 DP.hb_read_sort; (case a_u61 => k_is); (case l_u61 => k_is); (case c_u61 => k_is); (case k_u61 => k_is)))
    (case p_read_things => (refine' DP.at_mk KX G ?a_u62 ?l_u62 ?c_u62 ?k_u62 DP.hb_read_things; (case a_u62 => k_is); (case l_u62 => k_is); (case c_u62 => k_is); (case k_u62 => k_is)))
    (case p_lines_of => (refine' DP.at_mk KX G ?a_u63 ?l_u63 ?c_u63 ?k_u63 DP.hb_lines_of; (case a_u63 => k_is); (case l_u63 => k_is); (case c_u63 => k_is); (case k_u63 => k_is)))
    (case p_is_name => (refine' DP.at_mk KX G ?a_u64 ?l_u64 ?c_u64 ?k_u64 DP.hb_is_name; (case a_u64 => k_is); (case l_u64 => k_is); (case c_u64 => k_is); (case k_u64 => k_is)))
    (case p_is_number => (refine' DP.at_mk KX G ?a_u65 ?l_u65 ?c_u65 ?k_u65 DP.hb_is_number; (case a_u65 => k_is); (case l_u65 => k_is); (case c_u65 => k_is); (case k_u65 => k_is)))
    (case p_Line___init__ => (refine' DP.met_mk ?a_u66 ?i_u66 ?l_u66 ?c_u66 ?k_u66 DP.hb_Line___init__; (case a_u66 => k_is); (case i_u66 => k_is); (case l_u66 => k_is); (case c_u66 => k_is); (case k_u66 => k_is)))
    (case p_Line_has_more => (refine' DP.met_mk ?a_u67 ?i_u67 ?l_u67 ?c_u67 ?k_u67 DP.hb_Line_has_more; (case a_u67 => k_is); (case i_u67 => k_is); (case l_u67 => k_is); (case c_u67 => k_is); (case k_u67 => k_is)))
    (case p_Line_due => (refine' DP.met_mk ?a_u68 ?i_u68 ?l_u68 ?c_u68 ?k_u68 DP.hb_Line_due; (case a_u68 => k_is); (case i_u68 => k_is); (case l_u68 => k_is); (case c_u68 => k_is); (case k_u68 => k_is)))
    (case p_Line_step => (refine' DP.met_mk ?a_u69 ?i_u69 ?l_u69 ?c_u69 ?k_u69 DP.hb_Line_step; (case a_u69 => k_is); (case i_u69 => k_is); (case l_u69 => k_is); (case c_u69 => k_is); (case k_u69 => k_is)))
    (case p_Line_read_choice => (refine' DP.met_mk ?a_u70 ?i_u70 ?l_u70 ?c_u70 ?k_u70 DP.hb_Line_read_choice; (case a_u70 => k_is); (case i_u70 => k_is); (case l_u70 => k_is); (case c_u70 => k_is); (case k_u70 => k_is)))
    (case p_Line_read_number => (refine' DP.met_mk ?a_u71 ?i_u71 ?l_u71 ?c_u71 ?k_u71 DP.hb_Line_read_number; (case a_u71 => k_is); (case i_u71 => k_is); (case l_u71 => k_is); (case c_u71 => k_is); (case k_u71 => k_is)))
    (case p_Line_read_field => (refine' DP.met_mk ?a_u72 ?i_u72 ?l_u72 ?c_u72 ?k_u72 DP.hb_Line_read_field; (case a_u72 => k_is); (case i_u72 => k_is); (case l_u72 => k_is); (case c_u72 => k_is); (case k_u72 => k_is)))
    (case p_Line_due_name => (refine' DP.met_mk ?a_u73 ?i_u73 ?l_u73 ?c_u73 ?k_u73 DP.hb_Line_due_name; (case a_u73 => k_is); (case i_u73 => k_is); (case l_u73 => k_is); (case c_u73 => k_is); (case k_u73 => k_is)))
    (case p_Line_read_new_name => (refine' DP.met_mk ?a_u74 ?i_u74 ?l_u74 ?c_u74 ?k_u74 DP.hb_Line_read_new_name; (case a_u74 => k_is); (case i_u74 => k_is); (case l_u74 => k_is); (case c_u74 => k_is); (case k_u74 => k_is)))
    (case p_Line_read_known_name => (refine' DP.metD_mk ?a_u75 ?i_u75 ?l_u75 ?lT_u75 ?c_u75 ?k_u75 2 rfl DP.hb_Line_read_known_name; (case a_u75 => k_is); (case i_u75 => k_is); (case l_u75 => k_is); (case lT_u75 => k_is); (case c_u75 => k_is); (case k_u75 => k_is)))
    (case p_Line_finish => (refine' DP.met_mk ?a_u76 ?i_u76 ?l_u76 ?c_u76 ?k_u76 DP.hb_Line_finish; (case a_u76 => k_is); (case i_u76 => k_is); (case l_u76 => k_is); (case c_u76 => k_is); (case k_u76 => k_is)))
    (case p_Satellite___init__ => (refine' DP.met_mk ?a_u77 ?i_u77 ?l_u77 ?c_u77 ?k_u77 DP.hb_Satellite___init__; (case a_u77 => k_is); (case i_u77 => k_is); (case l_u77 => k_is); (case c_u77 => k_is); (case k_u77 => k_is)))
    (case p_Station___init__ => (refine' DP.met_mk ?a_u78 ?i_u78 ?l_u78 ?c_u78 ?k_u78 DP.hb_Station___init__; (case a_u78 => k_is); (case i_u78 => k_is); (case l_u78 => k_is); (case c_u78 => k_is); (case k_u78 => k_is)))
    (case p_Recording___init__ => (refine' DP.met_mk ?a_u79 ?i_u79 ?l_u79 ?c_u79 ?k_u79 DP.hb_Recording___init__; (case a_u79 => k_is); (case i_u79 => k_is); (case l_u79 => k_is); (case c_u79 => k_is); (case k_u79 => k_is)))
    (case p_Pass___init__ => (refine' DP.met_mk ?a_u80 ?i_u80 ?l_u80 ?c_u80 ?k_u80 DP.hb_Pass___init__; (case a_u80 => k_is); (case i_u80 => k_is); (case l_u80 => k_is); (case c_u80 => k_is); (case k_u80 => k_is)))
    (case p_World___init__ => (refine' DP.met_mk ?a_u81 ?i_u81 ?l_u81 ?c_u81 ?k_u81 DP.hb_World___init__; (case a_u81 => k_is); (case i_u81 => k_is); (case l_u81 => k_is); (case c_u81 => k_is); (case k_u81 => k_is)))
    (case p_World_parse => (refine' DP.smet_mk ?a_u82 ?r_u82 ?l_u82 ?c_u82 ?k_u82 DP.hb_World_parse; (case a_u82 => k_is); (case r_u82 => k_is); (case l_u82 => k_is); (case c_u82 => k_is); (case k_u82 => k_is)))
    (case a__law_cell => (refine' DP.at_mk KX G ?a_u83 ?l_u83 ?c_u83 ?k_u83 DP.hb__law_cell; (case a_u83 => k_is); (case l_u83 => k_is); (case c_u83 => k_is); (case k_u83 => k_is)))
    (case a__law_draws => (refine' DP.at_mk KX G ?a_u84 ?l_u84 ?c_u84 ?k_u84 DP.hb__law_draws; (case a_u84 => k_is); (case l_u84 => k_is); (case c_u84 => k_is); (case k_u84 => k_is)))
    (case a__law_satellite => (refine' DP.at_mk KX G ?a_u85 ?l_u85 ?c_u85 ?k_u85 DP.hb__law_satellite; (case a_u85 => k_is); (case l_u85 => k_is); (case c_u85 => k_is); (case k_u85 => k_is)))
    (case a__law_recording => (refine' DP.at_mk KX G ?a_u86 ?l_u86 ?c_u86 ?k_u86 DP.hb__law_recording; (case a_u86 => k_is); (case l_u86 => k_is); (case c_u86 => k_is); (case k_u86 => k_is)))
    (case a__law_pass => (refine' DP.at_mk KX G ?a_u87 ?l_u87 ?c_u87 ?k_u87 DP.hb__law_pass; (case a_u87 => k_is); (case l_u87 => k_is); (case c_u87 => k_is); (case k_u87 => k_is)))
    (case a__law_text => (refine' DP.at_mk KX G ?a_u88 ?l_u88 ?c_u88 ?k_u88 DP.hb__law_text; (case a_u88 => k_is); (case l_u88 => k_is); (case c_u88 => k_is); (case k_u88 => k_is)))
    (case a__law_world => (refine' DP.at_mk KX G ?a_u89 ?l_u89 ?c_u89 ?k_u89 DP.hb__law_world; (case a_u89 => k_is); (case l_u89 => k_is); (case c_u89 => k_is); (case k_u89 => k_is)))
    (case a_is_integer => (refine' DP.at_mk KX G ?a_u90 ?l_u90 ?c_u90 ?k_u90 DP.hb_is_integer; (case a_u90 => k_is); (case l_u90 => k_is); (case c_u90 => k_is); (case k_u90 => k_is)))
    (case a_has_row_form => (refine' DP.at_mk KX G ?a_u91 ?l_u91 ?c_u91 ?k_u91 DP.hb_has_row_form; (case a_u91 => k_is); (case l_u91 => k_is); (case c_u91 => k_is); (case k_u91 => k_is)))
    (case a_things_of => (refine' DP.at_mk KX G ?a_u92 ?l_u92 ?c_u92 ?k_u92 DP.hb_things_of; (case a_u92 => k_is); (case l_u92 => k_is); (case c_u92 => k_is); (case k_u92 => k_is)))
    (case a_check_row => (refine' DP.at_mk KX G ?a_u93 ?l_u93 ?c_u93 ?k_u93 DP.hb_check_row; (case a_u93 => k_is); (case l_u93 => k_is); (case c_u93 => k_is); (case k_u93 => k_is)))
    (case a__law_row => (refine' DP.at_mk KX G ?a_u94 ?l_u94 ?c_u94 ?k_u94 DP.hb__law_row; (case a_u94 => k_is); (case l_u94 => k_is); (case c_u94 => k_is); (case k_u94 => k_is)))
    (case a__law_wrong => (refine' DP.at_mk KX G ?a_u95 ?l_u95 ?c_u95 ?k_u95 DP.hb__law_wrong; (case a_u95 => k_is); (case l_u95 => k_is); (case c_u95 => k_is); (case k_u95 => k_is)))
    (case a__law_refused => (refine' DP.at_mk KX G ?a_u96 ?l_u96 ?c_u96 ?k_u96 DP.hb__law_refused; (case a_u96 => k_is); (case l_u96 => k_is); (case c_u96 => k_is); (case k_u96 => k_is)))
    (case a_law => (refine' DP.at_mk KX G ?a_u97 ?l_u97 ?c_u97 ?k_u97 DP.hb_law; (case a_u97 => k_is); (case l_u97 => k_is); (case c_u97 => k_is); (case k_u97 => k_is)))
