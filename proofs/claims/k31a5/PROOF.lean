import PyProof.Rows.All
import Wide.All
import OpenK.AllK
import Wide.FinOn
import HandS.ForMost
import HandS.IsInst
import HandS.Sort
import HandS.Conv
import HandS.ClsMeth
import HandS.CallLocal
import HandS.Codes
import HandS.NoneIn
import HandS.Walk
import HandS.Defaults
import HandS.Strs
import HandS.SlotsOwn
import HandS.TupAny
import HandS.TupMul
import HandS.Deep
import HandS.FStr
import HandS.Zip
import HandS.TupLe
import HandS.Star
import HandS.TupSets
import KE.DataCmp
import HandS.Flow
import HandS.WordsExc
import HandS.TryOnly
import KE.GoesEnumKw
import PySem.Challenge.RW_downpass_k31_breaches_of_cases
set_option Elab.async false
set_option linter.all false
set_option maxRecDepth 100000
set_option maxHeartbeats 4000000
namespace DP
open PySem PySem.Spec PyProof.Rows L2
def isPl (p : Addr) (h : Heap) : Prop := ∃ (n : Int) (t : Tok) (k : Nat), h.get? p = some { cls := .type "list", data := .seq #[.int n t] k }
def plO (p : Addr) : HO := .ext (isPl p)
section
variable {P : Program} {w : World} {K : PySem.W.Frag} {mg : Str → Option Value} {base : Heap} {k : Nat} {f : Addr} {fd : FuncData} {ps : List Str} {sp sp' : Sp}
/-- the same objects by another heap that differs at p alone, where neither says own or tuple -/
theorem stay_at {H H' : Hp} {h : Heap} {p a : Addr} {o : HO} (x : ObjOk P w H h a o) (e : ∀ b, b ≠ p → H b = H' b) (n1 : ∀ y, H p ≠ some (.own y)) (n2 : ∀ xs, H p ≠ some (.tup xs)) : ObjOk P w H' h a o :=
  x.stay (fun _ _ _ q => q) (fun b q => by
    have hb : b ≠ p := fun z => n1 _ (z ▸ q)
    rw [← e b hb]; exact q) (fun b xs q => by
    have hb : b ≠ p := fun z => n2 _ (z ▸ q)
    rw [← e b hb]; exact q)
theorem pl_open {H : Hp} {h : Heap} {p : Addr} (ok : HOk P w H h) (e : H p = some (plO p)) : ∃ n : Int, HOk P w (upd H p (.lst [.int n])) h := by
  obtain ⟨⟨n, t, k, g⟩, _⟩ := (show ObjOk P w H h p (.ext (isPl p)) from ok p _ e)
  refine ⟨n, fun a o q => ?_⟩
  by_cases ha : a = p
  · subst ha
    rw [upd_same] at q
    cases q
    exact ⟨(by show 1 ≤ sizeLine; decide), [.int n t], k, .cons ⟨t, rfl⟩ .nil, g⟩
  · rw [upd_ne ha] at q
    exact stay_at (p := p) (ok a o q) (fun b hb => (upd_ne hb).symm) (fun y z => by rw [e] at z; cases z) (fun y z => by rw [e] at z; cases z)
theorem pl_close {H : Hp} {h : Heap} {p : Addr} {m : Int} (ok : HOk P w H h) (e : H p = some (.lst [.int m])) : HOk P w (upd H p (plO p)) h := by
  obtain ⟨_, its, k, r, g⟩ := (show ObjOk P w H h p (.lst [.int m]) from ok p _ e)
  refine fun a o q => ?_
  by_cases ha : a = p
  · subst ha
    rw [upd_same] at q
    cases q
    cases r with
    | cons r1 r2 =>
      cases r2
      obtain ⟨t, rfl⟩ := r1
      refine ⟨⟨m, t, k, g⟩, ⟨_, g⟩, fun h1 h2 z y => ?_⟩
      obtain ⟨n', t', k', g'⟩ := z
      exact ⟨n', t', k', y _ g'⟩
  · rw [upd_ne ha] at q
    exact stay_at (p := p) (ok a o q) (fun b hb => (upd_ne hb).symm) (fun y z => by rw [e] at z; cases z) (fun y z => by rw [e] at z; cases z)
/-- a def that turns the counter, told as one that changes nothing -/
theorem hide_in (F : FnOk P w K mg base CX0 k f fd ps sp) (hl : ∀ vs H Q E, sp' vs H Q E → vs.length = ps.length)
    (hs : ∀ vs H Q E, sp' vs H Q E → ∃ p, H p = some (plO p) ∧ ∀ n : Int, sp vs (upd H p (.lst [.int n])) (fun v H' => (∃ m : Int, H' = upd H p (.lst [.int m])) ∧ Q v H) E) : FnOk P w K mg base CX0 k f fd ps sp' := by
  refine ⟨hl, fun A outer s H args us vs Q E hr he hb hv h => ?_⟩
  obtain ⟨p, ep, h1⟩ := hs vs H Q E h
  obtain ⟨n, ok⟩ := pl_open he.hok ep
  have h2 := h1 n
  have hne : ∀ b, H b = none → b ≠ p := fun b z y => by rw [y, ep] at z; cases z
  refine codeAny_mono (F.run A outer s _ args us vs _ E hr ⟨he.frames, he.mod, fun b o z => ⟨(he.bs b o z).1, by rw [upd_ne (hne b (he.bs b o z).2)]; exact (he.bs b o z).2⟩, he.bsz, he.funs, fun b z => by rw [upd_ne (hne b (he.frf b z))]; exact he.frf b z, ok, he.bare⟩ hb hv h2) fun r s' hq => ?_
  cases r with
  | error e => exact hq.elim
  | ok fl =>
    cases fl with
    | next => exact False.elim hq
    | brk => exact False.elim hq
    | cont => exact False.elim hq
    | ret u =>
      obtain ⟨v, H', os, bare, un, hok, rv, ⟨m, rfl⟩, q⟩ := hq
      refine ⟨v, H, os, bare, ⟨fun b o z n hb hx => un.keep b o z (by rw [upd_ne (hne b n)]; exact n) hb hx, fun b o z n hb hx => un.slot b o z (by rw [upd_ne (hne b n)]; exact n) hb hx, fun _ _ _ n _ => n, un.there, fun _ _ z => z, fun _ _ _ z => z, fun _ ps z => ⟨#[], by rw [z]; simp⟩⟩, ?_, rv, q⟩
      have c := pl_close hok upd_same
      rw [upd_upd] at c
      intro a o z
      have c1 := c a
      have eq : upd H p (plO p) = H := by
        funext b
        by_cases hb : b = p
        · subst hb; rw [upd_same, ep]
        · rw [upd_ne hb]
      rw [eq] at c
      exact c a o z
/-- a def that hands back a heap with such a list: from then on it is a counter -/
theorem hide_out (F : FnOk P w K mg base CX0 k f fd ps sp) (hl : ∀ vs H Q E, sp' vs H Q E → vs.length = ps.length)
    (hs : ∀ vs H Q E, sp' vs H Q E → sp vs H (fun v H' => ∃ (p : Addr) (m : Int), H p = none ∧ H' p = some (.lst [.int m]) ∧ Q v (upd H' p (plO p))) E) : FnOk P w K mg base CX0 k f fd ps sp' := by
  refine ⟨hl, fun A outer s H args us vs Q E hr he hb hv h => ?_⟩
  refine codeAny_mono (F.run A outer s _ args us vs _ E hr he hb hv (hs vs H Q E h)) fun r s' hq => ?_
  cases r with
  | error e => exact hq.elim
  | ok fl =>
    cases fl with
    | next => exact False.elim hq
    | brk => exact False.elim hq
    | cont => exact False.elim hq
    | ret u =>
      obtain ⟨v, H', os, bare, un, hok, rv, p, m, n0, ep, q⟩ := hq
      refine ⟨v, _, os, bare, ⟨un.keep, un.slot, fun b o z n hx => ?_, un.there, fun b xs z => ?_, fun b o u z => ?_, fun b ps z => ?_⟩, pl_close hok ep, rv, q⟩
      · have e1 := un.free b o z n hx
        rw [upd_ne (fun y => by rw [y, ep] at e1; cases e1)]
        exact e1
      · rw [upd_ne (ne_of_none z n0)]; exact un.tups b xs z
      · rw [upd_ne (ne_of_none z n0)]; exact un.frzs b o u z
      · rw [upd_ne (ne_of_none z n0)]; exact un.tbls b ps z
end
end DP
namespace DP
open PySem PySem.Spec PyProof.Rows L2
/-- the built-in names that the text leaves alone -/
structure Bt (mg : Str → Option Value) : Prop where
  len : mg "len" = none
  range : mg "range" = none
  int : mg "int" = none
  abs : mg "abs" = none
  isinstance : mg "isinstance" = none
  bool : mg "bool" = none
  str : mg "str" = none
  tuple : mg "tuple" = none
  list : mg "list" = none
  sum : mg "sum" = none
  max : mg "max" = none
  min : mg "min" = none
  all : mg "all" = none
  enumerate : mg "enumerate" = none
structure DefOk (P : Program) (w : World) (K : PySem.W.Frag) (mg : Str → Option Value) (base : Heap) (CX : CXT) (k : Nat) (x : Str) (ps : List Str) (sp : Sp) : Prop where
  ex : ∃ f fd, FnOk P w K mg base CX k f fd ps sp ∧ mg x = some (.ref f) ∧ PySem.W.keepIn K (.ref f) = true ∧ Binds K fd ps [] ∧ ∃ oc od osl, K.lookup f = some ⟨oc, od, .func fd, osl⟩
/-- where a def stands -/
structure At (K : PySem.W.Frag) (mg : Str → Option Value) (x : Str) (st : Stmt) (ps : List Str) : Prop where
  ex : ∃ f fd, Fun K x x st f fd ∧ mg x = some (.ref f) ∧ Binds K fd ps []
theorem pe_f {X : Cx} {CX : CXT} {k : Nat} {x : Str} {ps : List Str} {sp : Sp} {E : XK} {e : Expr} {es : List Expr} {t : TA} {p pos : Pos} (D : DefOk X.prog X.w X.K X.mg X.base CX k x ps sp) (hr : Room k X.A) (hx : Passes CX X E) (ha : PA X (e :: es) t)
    (hg : Gl X x := by rfl) (hdb : (x == ("__debug__" : Str)) = false := by decide) (he : starEach (e :: es) X.env = (false, eval e X.env) :: starEach es X.env := by rfl) (hpl : (backTo pos (starEach es X.env)).any (·.1) = false := by rfl) :
    PE X (.Call (.Name x p) (e :: es) [] pos) (tCall sp [] E t) := by
  obtain ⟨f, fd, G, m, kp, b, _⟩ := D.ex
  exact pe_call G hr hg m kp b .nil hx ha hdb he hpl
section
variable {P : Program} {w : World} {K : PySem.W.Frag} {mg : Str → Option Value} {base : Heap} {x : Str} {st : Stmt} {ps N : List Str} {k : Nat} {sp sp' : Sp}
theorem At.ok (F : At K mg x st ps) (S : FnScope N ps (defScope st)) (len : ∀ vs H Q E, sp vs H Q E → vs.length = ps.length)
    (hbody : ∀ (f : Addr) (cdv : Value) (A : Around) (outer : List Env) (s : Shared) (H : Hp) (vs : List V) (Q : VK) (E : XK), Room k (A.deeper (envOfC x (defScope st) s.heap.objs.size f cdv)) → sp vs H Q E →
      ∃ t, PSs (cxOf CX0 P w K mg base N x (defScope st) f cdv A outer s H E).nox (defBody st) t ∧ t { nx := fun _ H' => Q .non H', rt := Q } (start N vs) H) : DefOk P w K mg base CX0 (k + 1) x ps sp := by
  obtain ⟨f, fd, G, m, b⟩ := F.ex
  obtain ⟨oc, od, _, _, _, _, _, _, osl, _, lk, _⟩ := G.ex
  exact ⟨f, fd, G.ok S len (fun cdv A outer s H vs Q E hr h => hbody f cdv A outer s H vs Q E hr h), m, G.kp, b, oc, od, osl, lk⟩
/-- the law's def, for the end -/
theorem At.end_ {l : PySem.W.OpenLaw} {fa : Addr} (F : At K mg x st ["script"]) (hfa : mg x = some (.ref fa)) (h : ∀ base : Heap, DefOk l.prog w K mg base CX0 k x ["script"] sp)
    (hb : ∀ (kV doc pm : Value) (an : Option Addr) (cdv ct v : Value), bindArgs (PySem.W.fnOf x x (defArgs st) (defBody st) (defScope st) .none kV doc pm an cdv ct) ⟨[v], []⟩ = pure [(("script" : Str), v)]) :
    ∃ fd : FuncData, (∀ (s : Shared) (v : Value), BindsTo s fd ⟨[v], []⟩ [("script", v)]) ∧ ∀ base : Heap, K.In base → base.Ns mainGlobals mg → FnOk l.prog w K mg base CX0 k fa fd ["script"] sp := by
  obtain ⟨f, fd, G, m, b⟩ := F.ex
  rw [hfa] at m
  cases m
  refine ⟨fd, fun s v => ?_, fun base _ _ => ?_⟩
  · obtain ⟨oc, od, kV, doc, pm, an, cdv, ct, osl, rfl, lk, _⟩ := G.ex
    exact .of_eq (hb kV doc pm an cdv ct v)
  obtain ⟨f', fd', G', m', _, _, oc', od', osl', lk'⟩ := (h base).ex
  rw [hfa] at m'
  cases m'
  obtain ⟨oc, od, _, _, _, _, _, _, osl, _, lk, _⟩ := G.ex
  rw [lk] at lk'
  cases lk'
  exact G'
theorem DefOk.hide_in (D : DefOk P w K mg base CX0 k x ps sp) (hl : ∀ vs H Q E, sp' vs H Q E → vs.length = ps.length)
    (hs : ∀ vs H Q E, sp' vs H Q E → ∃ p, H p = some (plO p) ∧ ∀ n : Int, sp vs (upd H p (.lst [.int n])) (fun v H' => (∃ m : Int, H' = upd H p (.lst [.int m])) ∧ Q v H) E) : DefOk P w K mg base CX0 k x ps sp' := by
  obtain ⟨f, fd, G, m, kp, b, lk⟩ := D.ex
  exact ⟨f, fd, DP.hide_in G hl hs, m, kp, b, lk⟩
theorem DefOk.hide_out (D : DefOk P w K mg base CX0 k x ps sp) (hl : ∀ vs H Q E, sp' vs H Q E → vs.length = ps.length)
    (hs : ∀ vs H Q E, sp' vs H Q E → sp vs H (fun v H' => ∃ (p : Addr) (m : Int), H p = none ∧ H' p = some (.lst [.int m]) ∧ Q v (upd H' p (plO p))) E) : DefOk P w K mg base CX0 k x ps sp' := by
  obtain ⟨f, fd, G, m, kp, b, lk⟩ := D.ex
  exact ⟨f, fd, DP.hide_out G hl hs, m, kp, b, lk⟩
theorem DefOk.imp (D : DefOk P w K mg base CX0 k x ps sp) (h : ∀ vs H Q E, sp' vs H Q E → sp vs H Q E) : DefOk P w K mg base CX0 k x ps sp' := by
  obtain ⟨f, fd, G, m, kp, b, lk⟩ := D.ex
  exact ⟨f, fd, G.imp h, m, kp, b, lk⟩
end
theorem at_mk {h : Heap} {K : PySem.W.Frag} {mg : Str → Option Value} (X : K.In h) (G : h.Ns mainGlobals mg) {x : Str} {st : Stmt} {ps : List Str} {f : Addr} {oc : Value} {od an : Option Addr} {osl : Array (Option Value)} {kV doc pm cdv ct : Value}
    (a : PySem.W.nsIn K mainGlobals x = some (some (.ref f))) (l : K.lookup f = some ⟨oc, od, .func (PySem.W.fnOf x x (defArgs st) (defBody st) (defScope st) .none kV doc pm an cdv ct), osl⟩)
    (c : PySem.W.codeIn K cdv x = true) (k : PySem.W.keepIn K (.ref f) = true)
    (hb : ∀ (kV doc pm : Value) (an : Option Addr) (cdv ct : Value) (us : List Value), us.length = ps.length → bindArgs (PySem.W.fnOf x x (defArgs st) (defBody st) (defScope st) .none kV doc pm an cdv ct) ⟨us, []⟩ = pure (ps.zip us)) : At K mg x st ps := by
  have F := fun_mk (st := st) l c k
  exact ⟨f, _, F, PySem.W.mg_of X G a, F.binds hb⟩
theorem same_new {H : Hp} {p : Addr} (h : H p = none) (o : HO) : Same H (upd H p o) := fun b u q => by rw [upd_ne (ne_of_none q h)]; exact q
theorem same_at {H H' : Hp} {p : Addr} (h : H p = none) (s : Same H H') (o : HO) : Same H (upd H' p o) := fun b u q => by rw [upd_ne (ne_of_none q h)]; exact s _ _ q
theorem Same.tup {K : PySem.W.Frag} {H H' : Hp} {a : Addr} {xs : List V} (e : Same H H') (h : SqT K H a xs) : SqT K H' a xs := by
  rcases h with (h | ⟨o, h⟩) | h
  · exact .inl (.inl (e _ _ h))
  · exact .inl (.inr ⟨o, e _ _ h⟩)
  · exact .inr h
theorem iteT' {c : Bool} {A B : Prop} (e : c = true) (h : A) : if c = true then A else B := by
  rw [if_pos e]
  exact h
theorem iteF' {c : Bool} {A B : Prop} (e : c = false) (h : B) : if c = true then A else B := by
  rw [e]
  exact iteF h
theorem small {n : Nat} (h : n ≤ 1000) : n ≤ sizeLine := Nat.le_of_lt (small1000 h)
section
variable {X : Cx} {K : PySem.W.Frag}
theorem ix_listK (h : X.K = K) : IxR X (rIxL K) := by subst h; exact ix_list
theorem ix_tupK (h : X.K = K) : IxR X (rIxT K) := by subst h; exact ix_tup
end
end DP
namespace DP
open PySem PySem.Spec PyProof.Rows L2
/-- a span of two ints -/
def SpanV (K : PySem.W.Frag) (H : Hp) (x : V) (q : Int × Int) : Prop := ∃ t, x = .ref t ∧ SqT K H t [.int q.1, .int q.2]
abbrev Spans (K : PySem.W.Frag) (H : Hp) (xs : List V) (qs : List (Int × Int)) : Prop := Paired (SpanV K H) xs qs
theorem paired_snoc {α β : Type} {F : α → β → Prop} : ∀ {xs : List α} {ys : List β} {x : α} {y : β}, Paired F xs ys → F x y → Paired F (xs ++ [x]) (ys ++ [y])
  | _, _, _, _, .nil, h => .cons h .nil
  | _, _, _, _, .cons a t, h => .cons a (paired_snoc t h)
theorem paired_at {α β : Type} {F : α → β → Prop} : ∀ {xs : List α} {ys : List β} {i : Nat} {x : α}, Paired F xs ys → xs[i]? = some x → ∃ y, ys[i]? = some y ∧ F x y
  | _, _, _, _, .nil, h => by simp at h
  | _, _, 0, _, .cons a _, h => ⟨_, rfl, by rw [← Option.some.inj h]; exact a⟩
  | _, _, i + 1, _, .cons _ t, h => by
    obtain ⟨y, h1, h2⟩ := paired_at (i := i) t h
    exact ⟨y, h1, h2⟩
theorem paired_len {α β : Type} {F : α → β → Prop} {xs : List α} {ys : List β} (h : Paired F xs ys) : xs.length = ys.length := Paired.length h
/-- a tuple stands where a list is changed -/
theorem sqT_upd {K : PySem.W.Frag} {H : Hp} {t L : Addr} {xs ys : List V} {o : HO} (h : SqT K H t xs) (e : H L = some (.lst ys)) : SqT K (upd H L o) t xs := by
  rcases h with (h | ⟨u, h⟩) | h
  · exact .inl (.inl (by rw [upd_ne (ne_of h e (fun z => nomatch z))]; exact h))
  · exact .inl (.inr ⟨u, by rw [upd_ne (ne_of h e (fun z => nomatch z))]; exact h⟩)
  · exact .inr h
theorem Spans.upd {K : PySem.W.Frag} {H : Hp} {L : Addr} {xs ys : List V} {qs : List (Int × Int)} {o : HO} (h : Spans K H xs qs) (e : H L = some (.lst ys)) : Spans K (L2.upd H L o) xs qs :=
  Paired.mapP h fun _ _ ⟨t, h1, h2⟩ => ⟨t, h1, sqT_upd h2 e⟩
theorem Spans.same {K : PySem.W.Frag} {H H' : Hp} {xs : List V} {qs : List (Int × Int)} (h : Spans K H xs qs) (s : Same H H') : Spans K H' xs qs :=
  Paired.mapP h fun _ _ ⟨t, h1, h2⟩ => ⟨t, h1, Same.tup s h2⟩
/-- the minutes from f to e - 1 in one span -/
def mwOne (f e : Int) (q : Int × Int) : Int := if (if q.2 < e then q.2 else e) - (if q.1 > f then q.1 else f) > 0 then (if q.2 < e then q.2 else e) - (if q.1 > f then q.1 else f) else 0
def mw (qs : List (Int × Int)) (f e : Int) : Int := (qs.map (mwOne f e)).sum
def hasM (m : Int) (q : Int × Int) : Bool := decide (q.1 ≤ m) && decide (m < q.2)
theorem mwOne_le {f e : Int} {q : Int × Int} (h : e ≤ f) : mwOne f e q = 0 := by
  unfold mwOne
  split <;> split <;> split <;> omega
theorem mw_le {f e : Int} (h : e ≤ f) : ∀ qs : List (Int × Int), mw qs f e = 0
  | [] => rfl
  | q :: r => by
    show mwOne f e q + mw r f e = 0
    rw [mwOne_le h, mw_le h r]
    rfl
theorem mwOne_succ {f e : Int} {q : Int × Int} (h : f ≤ e) (hq : q.1 < q.2) : mwOne f (e + 1) q = mwOne f e q + (if hasM e q = true then 1 else 0) := by
  unfold mwOne hasM
  by_cases c1 : q.1 ≤ e
  · by_cases c2 : e < q.2
    · rw [decide_eq_true c1, decide_eq_true c2]
      rw [if_pos (show (true && true) = true from rfl)]
      repeat' (first | omega | split)
    · rw [decide_eq_false c2, Bool.and_false, if_neg Bool.false_ne_true]
      repeat' (first | omega | split)
  · rw [decide_eq_false c1, Bool.false_and, if_neg Bool.false_ne_true]
    repeat' (first | omega | split)
theorem mw_succ {f e : Int} (h : f ≤ e) : ∀ qs : List (Int × Int), (∀ q ∈ qs, q.1 < q.2) → mw qs f (e + 1) = mw qs f e + ((qs.filter (hasM e)).length : Int)
  | [], _ => rfl
  | q :: r, hq => by
    have ih := mw_succ h r fun x hx => hq x (List.mem_cons_of_mem _ hx)
    have h1 := mwOne_succ h (hq q List.mem_cons_self)
    show mwOne f (e + 1) q + mw r f (e + 1) = mwOne f e q + mw r f e + _
    rw [ih, h1, List.filter_cons]
    by_cases c : hasM e q = true
    · rw [if_pos c, if_pos c, List.length_cons]
      (clear h hq ih h1 c; omega)
    · rw [if_neg c, if_neg c]
      (clear h hq ih h1 c; omega)
end DP
namespace DP
open PySem PySem.Spec PyProof.Rows L2
abbrev tl (x : Str) : List Nat := TL.tl x
def num (n : Int) : Str := Str.ofString (toString n)
/-- a word of a line -/
def WdOk (w : Str) : Prop := tl w ≠ [] ∧ 32 ∉ tl w ∧ 10 ∉ tl w ∧ (tl w).length ≤ 16
def isL (c : Nat) : Bool := (decide (65 ≤ c) && decide (c ≤ 90)) || (decide (97 ≤ c) && decide (c ≤ 122))
def isD (c : Nat) : Bool := decide (48 ≤ c) && decide (c ≤ 57)
def NameOk (w : Str) : Prop := ∃ c r, tl w = c :: r ∧ isL c = true ∧ (∀ x ∈ r, (isL x || isD x) = true) ∧ r.length ≤ 14
theorem isL_lt {c : Nat} (h : isL c = true) : 65 ≤ c ∧ c ≤ 122 := by
  unfold isL at h
  simp only [Bool.or_eq_true, Bool.and_eq_true, decide_eq_true_eq] at h
  omega
theorem isD_lt {c : Nat} (h : isD c = true) : 48 ≤ c ∧ c ≤ 57 := by
  unfold isD at h
  simp only [Bool.and_eq_true, decide_eq_true_eq] at h
  omega
theorem sign_lt {c : Nat} (h : (isL c || isD c) = true) : 48 ≤ c ∧ c ≤ 122 := by
  rcases Bool.or_eq_true _ _ ▸ h with h | h
  · have := isL_lt h; omega
  · have := isD_lt h; omega
theorem NameOk.signs {w : Str} (h : NameOk w) : ∀ c ∈ tl w, (isL c || isD c) = true := by
  obtain ⟨c, r, e, hc, hr, _⟩ := h
  intro x hx
  rw [e] at hx
  rcases List.mem_cons.mp hx with rfl | hx
  · rw [hc]; rfl
  · exact hr x hx
theorem NameOk.wd {w : Str} (h : NameOk w) : WdOk w := by
  have hs := h.signs
  obtain ⟨c, r, e, hc, hr, hl⟩ := h
  refine ⟨by rw [e]; exact List.cons_ne_nil _ _, fun z => ?_, fun z => ?_, by rw [e, List.length_cons]; omega⟩
  · have := sign_lt (hs _ z); omega
  · have := sign_lt (hs _ z); omega
theorem num_nat {n : Int} (h : 0 ≤ n) : tl (num n) = TL.numL n.toNat := by
  have e : n = ((n.toNat : Nat) : Int) := by omega
  unfold num
  rw [e]
  exact TL.tl_num _
theorem numL_len7 {n : Nat} (h : n < 10000000) : (TL.numL n).length ≤ 7 := TL.numL_len (k := 7) (by decide) (by omega)
theorem num_wd {n : Int} (h0 : 0 ≤ n) (h1 : n < 10000000) : WdOk (num n) := by
  refine ⟨?_, ?_, ?_, ?_⟩
  · rw [num_nat h0]; exact TL.numL_ne _
  · rw [num_nat h0]; exact TL.numL_free (by omega)
  · rw [num_nat h0]; exact TL.numL_free (by omega)
  · rw [num_nat h0]; exact Nat.le_trans (numL_len7 (by omega)) (by decide)
/-- 0, or no 0 ahead -/
theorem numL_head {n : Nat} : ∀ r, TL.numL n = 48 :: r → n = 0 := by
  induction n using Nat.strongRecOn with
  | _ n ih =>
    intro r h
    by_cases c : n < 10
    · rw [TL.numL_lt c] at h
      have := (List.cons.inj h).1
      omega
    · rw [TL.numL_step (by omega)] at h
      cases q : TL.numL (n / 10) with
      | nil => exact absurd q (TL.numL_ne _)
      | cons a b =>
        rw [q] at h
        have e := (List.cons.inj h).1
        have := ih (n / 10) (by omega) b (by rw [q, e])
        omega
def sp : Str := Str.ofString " "
def nl : Str := Str.ofString "\n"
theorem tl_sp : tl sp = [32] := by decide +kernel
theorem tl_nl : tl nl = [10] := by decide +kernel
def row (ws : List Str) : Str := Str.join sp ws
theorem joinL_free {c : Nat} {S : List Nat} (hS : c ∉ S) : ∀ ps : List (List Nat), (∀ p ∈ ps, c ∉ p) → c ∉ TL.joinL S ps
  | [], _ => List.not_mem_nil
  | [p], h => h p List.mem_cons_self
  | p :: q :: r, h => by
    show c ∉ p ++ (S ++ TL.joinL S (q :: r))
    have ih := joinL_free hS (q :: r) fun x hx => h x (List.mem_cons_of_mem _ hx)
    intro z
    rcases List.mem_append.mp z with z | z
    · exact h p List.mem_cons_self z
    · rcases List.mem_append.mp z with z | z
      · exact hS z
      · exact ih z
theorem joinL_len {m : Nat} {S : List Nat} : ∀ ps : List (List Nat), (∀ p ∈ ps, p.length ≤ m) → (TL.joinL S ps).length ≤ ps.length * (m + S.length)
  | [], _ => Nat.zero_le _
  | [p], h => by
    have := h p List.mem_cons_self
    show p.length ≤ 1 * (m + S.length)
    omega
  | p :: q :: r, h => by
    have ih := joinL_len (S := S) (q :: r) fun x hx => h x (List.mem_cons_of_mem _ hx)
    have h1 := h p List.mem_cons_self
    show (p ++ (S ++ TL.joinL S (q :: r))).length ≤ ((q :: r).length + 1) * (m + S.length)
    rw [List.length_append, List.length_append, Nat.add_mul]
    omega
theorem row_free {ws : List Str} (h : ∀ w ∈ ws, WdOk w) : 10 ∉ tl (row ws) := by
  unfold row
  rw [show tl (Str.join sp ws) = TL.joinL (tl sp) (ws.map tl) from TL.tl_join sp ws]
  refine joinL_free (by rw [tl_sp]; decide) _ fun p hp => ?_
  obtain ⟨w, hw, rfl⟩ := List.mem_map.mp hp
  exact (h w hw).2.2.1
theorem row_len {ws : List Str} (h : ∀ w ∈ ws, WdOk w) : (row ws).length ≤ ws.length * 17 := by
  rw [TL.len_tl]
  unfold row
  rw [show TL.tl (Str.join sp ws) = TL.joinL (tl sp) (ws.map tl) from TL.tl_join sp ws]
  have := joinL_len (m := 16) (S := tl sp) (ws.map tl) fun p hp => by
    obtain ⟨w, hw, rfl⟩ := List.mem_map.mp hp
    exact (h w hw).2.2.2
  rw [List.length_map, tl_sp] at this
  rw [tl_sp]
  exact this
theorem row_split {ws : List Str} (hn : ws ≠ []) (h : ∀ w ∈ ws, WdOk w) : Txt.split (row ws) sp = ws := by
  have e := TL.split_join (y := sp) (s := 32) (S := []) tl_sp (by decide +kernel) hn (fun p hp => (h p hp).2.1)
  rw [TL.join_eq] at e
  exact e
/-- the text of rows, each with its newline -/
def glue (rows : List Str) : Str := Str.join nl (rows ++ [Str.empty])
theorem glue_split {rows : List Str} (h : ∀ r ∈ rows, 10 ∉ tl r) : Txt.split (glue rows) nl = rows ++ [Str.empty] := by
  have e := TL.split_join (y := nl) (s := 10) (S := []) tl_nl (by decide +kernel) (parts := rows ++ [Str.empty]) (by simp) (fun p hp => by
    rcases List.mem_append.mp hp with hp | hp
    · exact h p hp
    · rw [List.mem_singleton.mp hp]
      exact List.not_mem_nil)
  rw [TL.join_eq] at e
  exact e
theorem glue_tl : ∀ rows : List Str, tl (glue rows) = (rows.map fun r => tl r ++ [10]).flatten
  | [] => rfl
  | [r] => by
    show tl (r ++ nl ++ Str.empty) = tl r ++ [10] ++ []
    rw [show tl (r ++ nl ++ Str.empty) = tl (r ++ nl) ++ tl Str.empty from TL.tl_append _ _, show tl (r ++ nl) = tl r ++ tl nl from TL.tl_append _ _, tl_nl]
    rfl
  | r :: q :: z => by
    have ih := glue_tl (q :: z)
    show tl (r ++ nl ++ Str.join nl ((q :: z) ++ [Str.empty])) = tl r ++ [10] ++ ((q :: z).map fun r => tl r ++ [10]).flatten
    rw [show tl (r ++ nl ++ Str.join nl ((q :: z) ++ [Str.empty])) = tl (r ++ nl) ++ tl (Str.join nl ((q :: z) ++ [Str.empty])) from TL.tl_append _ _, show tl (r ++ nl) = tl r ++ tl nl from TL.tl_append _ _, tl_nl, ← ih]
    rfl
/-- the law's own making of it: no separator, each row with its newline -/
theorem join_nl (rows : List Str) : Txt.join Str.empty (rows.map fun r => r ++ nl) = glue rows := by
  refine TL.ext_tl ?_
  show tl _ = tl _
  rw [glue_tl, TL.join_eq]
  rw [show tl (Str.join Str.empty (rows.map fun r => r ++ nl)) = TL.joinL (tl Str.empty) ((rows.map fun r => r ++ nl).map tl) from TL.tl_join _ _]
  rw [List.map_map]
  have e : (tl ∘ fun r : Str => r ++ nl) = fun r => tl r ++ [10] := by
    funext r
    show tl (r ++ nl) = _
    rw [show tl (r ++ nl) = tl r ++ tl nl from TL.tl_append _ _, tl_nl]
  rw [e]
  generalize (rows.map fun r => tl r ++ [10]) = ls
  have flat : ∀ ls : List (List Nat), TL.joinL (tl Str.empty) ls = ls.flatten := by
    intro ls
    induction ls with
    | nil => rfl
    | cons a r ih =>
      cases r with
      | nil =>
        show a = a ++ []
        rw [List.append_nil]
      | cons b t =>
        show a ++ ([] ++ TL.joinL (tl Str.empty) (b :: t)) = a ++ (b :: t).flatten
        rw [List.nil_append, ih]
  exact flat ls
theorem glue_len {rows : List Str} {m : Nat} (h : ∀ r ∈ rows, r.length ≤ m) : (glue rows).length ≤ (rows.length + 1) * (m + 1) := by
  rw [TL.len_tl]
  unfold glue
  rw [show TL.tl (Str.join nl (rows ++ [Str.empty])) = TL.joinL (tl nl) ((rows ++ [Str.empty]).map tl) from TL.tl_join _ _]
  have := joinL_len (m := m) (S := tl nl) ((rows ++ [Str.empty]).map tl) fun p hp => by
    obtain ⟨w, hw, rfl⟩ := List.mem_map.mp hp
    rcases List.mem_append.mp hw with hw | hw
    · have := h w hw
      rw [TL.len_tl] at this
      exact this
    · rw [List.mem_singleton.mp hw]
      exact Nat.zero_le _
  rw [List.length_map, List.length_append, tl_nl] at this
  rw [tl_nl]
  exact this
structure SatD where
  name : Str
  store : Int
  battery : Int
  level : Int
  reserve : Int
  charge : Int
  settle : Int
  light : List (Int × Int)
structure StaD where
  name : Str
  antennas : Int
  turn : Int
structure RecD where
  name : Str
  sat : Nat
  earliest : Int
  latest : Int
  length : Int
  size : Int
  energy : Int
  worth : Int
  rank : Int
  deadline : Int
structure PasD where
  name : Str
  sat : Nat
  sta : Nat
  first : Int
  fin : Int
  room : Int
  energy : Int
  fee : Int
structure WorldD where
  horizon : Int
  sats : List SatD
  stas : List StaD
  recs : List RecD
  pass : List PasD
def lightW : List (Int × Int) → List Str
  | [] => []
  | q :: r => num q.1 :: num q.2 :: lightW r
def wHor (h : Int) : List Str := [Str.ofString "horizon", num h]
def wSat (s : SatD) : List Str := [Str.ofString "satellite", s.name, Str.ofString "store", num s.store, Str.ofString "battery", num s.battery, Str.ofString "level", num s.level,
  Str.ofString "reserve", num s.reserve, Str.ofString "charge", num s.charge, Str.ofString "settle", num s.settle, Str.ofString "light"] ++ lightW s.light
def wSta (s : StaD) : List Str := [Str.ofString "station", s.name, Str.ofString "antennas", num s.antennas, Str.ofString "turn", num s.turn]
def satN (W : WorldD) (i : Nat) : Str := ((W.sats.map (·.name))[i]?).getD Str.empty
def staN (W : WorldD) (i : Nat) : Str := ((W.stas.map (·.name))[i]?).getD Str.empty
def wRec (W : WorldD) (r : RecD) : List Str := [Str.ofString "recording", r.name, Str.ofString "by", satN W r.sat, Str.ofString "from", num r.earliest, Str.ofString "to", num r.latest,
  Str.ofString "length", num r.length, Str.ofString "size", num r.size, Str.ofString "energy", num r.energy, Str.ofString "worth", num r.worth, Str.ofString "rank", num r.rank, Str.ofString "until", num r.deadline]
def wPas (W : WorldD) (p : PasD) : List Str := [Str.ofString "pass", p.name, Str.ofString "by", satN W p.sat, Str.ofString "over", staN W p.sta, Str.ofString "from", num p.first, Str.ofString "to", num p.fin,
  Str.ofString "room", num p.room, Str.ofString "energy", num p.energy, Str.ofString "fee", num p.fee]
def linesW (W : WorldD) : List (List Str) := wHor W.horizon :: (W.sats.map wSat ++ W.stas.map wSta ++ W.recs.map (wRec W) ++ W.pass.map (wPas W))
def textW (W : WorldD) : Str := glue ((linesW W).map row)
def LightOk : Int → Int → List (Int × Int) → Prop
  | _, _, [] => True
  | least, h, q :: r => least ≤ q.1 ∧ q.1 + 1 ≤ q.2 ∧ q.2 ≤ h ∧ LightOk q.2 h r
structure SatOk (h : Int) (s : SatD) : Prop where
  name : NameOk s.name
  store : 0 ≤ s.store ∧ s.store ≤ 1000000
  battery : 0 ≤ s.battery ∧ s.battery ≤ 1000000
  level : 0 ≤ s.level ∧ s.level ≤ s.battery
  reserve : 0 ≤ s.reserve ∧ s.reserve ≤ s.level
  charge : 0 ≤ s.charge ∧ s.charge ≤ 1000
  settle : 0 ≤ s.settle ∧ s.settle ≤ 60
  light : LightOk 0 h s.light
structure StaOk (s : StaD) : Prop where
  name : NameOk s.name
  antennas : 1 ≤ s.antennas ∧ s.antennas ≤ 3
  turn : 0 ≤ s.turn ∧ s.turn ≤ 60
structure RecOk (W : WorldD) (r : RecD) : Prop where
  name : NameOk r.name
  sat : r.sat < W.sats.length
  earliest : 0 ≤ r.earliest ∧ r.earliest ≤ W.horizon - 1
  latest : r.earliest ≤ r.latest ∧ r.latest ≤ r.earliest + 20 ∧ r.latest ≤ W.horizon - 1
  length : 1 ≤ r.length ∧ r.length ≤ W.horizon - r.latest
  size : 0 ≤ r.size ∧ r.size ≤ 1000000
  energy : 0 ≤ r.energy ∧ r.energy ≤ 1000000
  worth : 1 ≤ r.worth ∧ r.worth ≤ 1000
  rank : 1 ≤ r.rank ∧ r.rank ≤ 3
  deadline : 0 ≤ r.deadline ∧ r.deadline ≤ W.horizon
structure PasOk (W : WorldD) (p : PasD) : Prop where
  name : NameOk p.name
  sat : p.sat < W.sats.length
  sta : p.sta < W.stas.length
  first : 0 ≤ p.first ∧ p.first ≤ W.horizon - 1
  fin : p.first + 1 ≤ p.fin ∧ p.fin ≤ W.horizon
  room : 0 ≤ p.room ∧ p.room ≤ 1000000
  energy : 0 ≤ p.energy ∧ p.energy ≤ 1000000
  fee : 0 ≤ p.fee ∧ p.fee ≤ 1000
structure WorldOk (W : WorldD) : Prop where
  horizon : 1 ≤ W.horizon ∧ W.horizon ≤ 500
  nSats : W.sats.length ≤ 3
  nStas : W.stas.length ≤ 3
  nRecs : W.recs.length ≤ 10
  nPass : W.pass.length ≤ 10
  dSats : (W.sats.map (·.name)).Nodup
  dStas : (W.stas.map (·.name)).Nodup
  dRecs : (W.recs.map (·.name)).Nodup
  dPass : (W.pass.map (·.name)).Nodup
  sats : ∀ s ∈ W.sats, SatOk W.horizon s
  stas : ∀ s ∈ W.stas, StaOk s
  recs : ∀ r ∈ W.recs, RecOk W r
  pass : ∀ p ∈ W.pass, PasOk W p
theorem LightOk.len {h : Int} : ∀ {l : List (Int × Int)} {least : Int}, LightOk least h l → least ≤ h → (l.length : Int) ≤ h - least
  | [], least, _, hl => by show (0 : Int) ≤ h - least; omega
  | q :: r, least, ⟨h1, h2, h3, h4⟩, hl => by
    have := h4.len h3
    rw [List.length_cons]
    omega
theorem LightOk.wd {h : Int} (hh : h ≤ 500) : ∀ {l : List (Int × Int)} {least : Int}, 0 ≤ least → LightOk least h l → ∀ w ∈ lightW l, WdOk w
  | [], _, _, _, w, hw => absurd hw List.not_mem_nil
  | q :: r, least, h0, ⟨h1, h2, h3, h4⟩, w, hw => by
    rcases List.mem_cons.mp hw with rfl | hw
    · exact num_wd (by omega) (by omega)
    · rcases List.mem_cons.mp hw with rfl | hw
      · exact num_wd (by omega) (by omega)
      · exact h4.wd hh (by omega) w hw
theorem lightW_len : ∀ l : List (Int × Int), (lightW l).length = 2 * l.length
  | [] => rfl
  | q :: r => by
    show (lightW r).length + 1 + 1 = 2 * (r.length + 1)
    rw [lightW_len r]
    omega
theorem satN_at {W : WorldD} {i : Nat} (h : i < W.sats.length) : (W.sats.map (·.name))[i]? = some (satN W i) := by
  unfold satN
  rw [List.getElem?_eq_getElem (by rw [List.length_map]; exact h)]
  rfl
theorem staN_at {W : WorldD} {i : Nat} (h : i < W.stas.length) : (W.stas.map (·.name))[i]? = some (staN W i) := by
  unfold staN
  rw [List.getElem?_eq_getElem (by rw [List.length_map]; exact h)]
  rfl
theorem satN_ok {W : WorldD} (w : WorldOk W) {i : Nat} (h : i < W.sats.length) : NameOk (satN W i) := by
  obtain ⟨s, hs, e⟩ := List.mem_map.mp (List.mem_of_getElem? (satN_at h))
  rw [← e]
  exact (w.sats s hs).name
theorem staN_ok {W : WorldD} (w : WorldOk W) {i : Nat} (h : i < W.stas.length) : NameOk (staN W i) := by
  obtain ⟨s, hs, e⟩ := List.mem_map.mp (List.mem_of_getElem? (staN_at h))
  rw [← e]
  exact (w.stas s hs).name
/-- all of a list, one by one -/
theorem all_cons {P : Str → Prop} {a : Str} {l : List Str} (h : P a) (t : ∀ w ∈ l, P w) : ∀ w ∈ a :: l, P w := fun w hw => by
  rcases List.mem_cons.mp hw with rfl | hw
  · exact h
  · exact t w hw
theorem all_nil {P : Str → Prop} : ∀ w ∈ ([] : List Str), P w := fun w hw => absurd hw List.not_mem_nil
theorem all_app {P : Str → Prop} {a b : List Str} (h : ∀ w ∈ a, P w) (t : ∀ w ∈ b, P w) : ∀ w ∈ a ++ b, P w := fun w hw => (List.mem_append.mp hw).elim (h w) (t w)
theorem wHor_wd {W : WorldD} (w : WorldOk W) : ∀ x ∈ wHor W.horizon, WdOk x :=
  all_cons (by unfold WdOk; decide +kernel) (all_cons (num_wd (by have := w.horizon; omega) (by have := w.horizon; omega)) all_nil)
theorem wSat_wd {h : Int} (hh : h ≤ 500) {s : SatD} (w : SatOk h s) : ∀ x ∈ wSat s, WdOk x := by
  have h1 := w.store; have h2 := w.battery; have h3 := w.level; have h4 := w.reserve; have h5 := w.charge; have h6 := w.settle
  exact all_app (all_cons (by unfold WdOk; decide +kernel) (all_cons w.name.wd (all_cons (by unfold WdOk; decide +kernel) (all_cons (num_wd (by omega) (by omega)) (all_cons (by unfold WdOk; decide +kernel) (all_cons (num_wd (by (clear hh w h1 h3 h4 h5 h6; omega)) (by (clear hh w h1 h3 h4 h5 h6; omega)))
    (all_cons (by unfold WdOk; decide +kernel) (all_cons (num_wd (by (clear hh w h1 h2 h4 h5 h6; omega)) (by (clear hh w h1 h4 h5 h6; omega))) (all_cons (by unfold WdOk; decide +kernel) (all_cons (num_wd (by (clear hh w h1 h2 h3 h5 h6; omega)) (by (clear hh w h1 h5 h6; omega))) (all_cons (by unfold WdOk; decide +kernel) (all_cons (num_wd (by (clear hh w h1 h2 h3 h4 h6; omega)) (by (clear hh w h1 h2 h3 h4 h6; omega)))
    (all_cons (by unfold WdOk; decide +kernel) (all_cons (num_wd (by (clear hh w h1 h2 h3 h4 h5; omega)) (by (clear hh w h1 h2 h3 h4 h5; omega))) (all_cons (by unfold WdOk; decide +kernel) all_nil))))))))))))))) (w.light.wd hh (Int.le_refl 0))
theorem wSta_wd {s : StaD} (w : StaOk s) : ∀ x ∈ wSta s, WdOk x := by
  have h1 := w.antennas; have h2 := w.turn
  exact all_cons (by unfold WdOk; decide +kernel) (all_cons w.name.wd (all_cons (by unfold WdOk; decide +kernel) (all_cons (num_wd (by omega) (by omega)) (all_cons (by unfold WdOk; decide +kernel) (all_cons (num_wd (by omega) (by omega)) all_nil)))))
theorem wRec_wd {W : WorldD} (w : WorldOk W) {r : RecD} (k : RecOk W r) : ∀ x ∈ wRec W r, WdOk x := by
  have h0 := w.horizon; have h1 := k.earliest; have h2 := k.latest; have h3 := k.length; have h4 := k.size; have h5 := k.energy; have h6 := k.worth; have h7 := k.rank; have h8 := k.deadline
  exact all_cons (by unfold WdOk; decide +kernel) (all_cons k.name.wd (all_cons (by unfold WdOk; decide +kernel) (all_cons (satN_ok w k.sat).wd
    (all_cons (by unfold WdOk; decide +kernel) (all_cons (num_wd (by omega) (by omega)) (all_cons (by unfold WdOk; decide +kernel) (all_cons (num_wd (by omega) (by omega)) (all_cons (by unfold WdOk; decide +kernel) (all_cons (num_wd (by (clear w k h0 h1 h2 h4 h5 h6 h7 h8; omega)) (by omega))
    (all_cons (by unfold WdOk; decide +kernel) (all_cons (num_wd (by (clear w k h0 h1 h2 h3 h5 h6 h7 h8; omega)) (by (clear w k h0 h1 h2 h3 h5 h6 h7 h8; omega))) (all_cons (by unfold WdOk; decide +kernel) (all_cons (num_wd (by (clear w k h0 h1 h2 h3 h4 h6 h7 h8; omega)) (by (clear w k h0 h1 h2 h3 h4 h6 h7 h8; omega))) (all_cons (by unfold WdOk; decide +kernel) (all_cons (num_wd (by (clear w k h0 h1 h2 h3 h4 h5 h7 h8; omega)) (by (clear w k h0 h1 h2 h3 h4 h5 h7 h8; omega)))
    (all_cons (by unfold WdOk; decide +kernel) (all_cons (num_wd (by (clear w k h0 h1 h2 h3 h4 h5 h6 h8; omega)) (by (clear w k h0 h1 h2 h3 h4 h5 h6 h8; omega))) (all_cons (by unfold WdOk; decide +kernel) (all_cons (num_wd (by (clear w k h0 h1 h2 h3 h4 h5 h6 h7; omega)) (by (clear w k h1 h2 h3 h4 h5 h6 h7; omega))) all_nil)))))))))))))))))))
theorem wPas_wd {W : WorldD} (w : WorldOk W) {p : PasD} (k : PasOk W p) : ∀ x ∈ wPas W p, WdOk x := by
  have h0 := w.horizon; have h1 := k.first; have h2 := k.fin; have h3 := k.room; have h4 := k.energy; have h5 := k.fee
  exact all_cons (by unfold WdOk; decide +kernel) (all_cons k.name.wd (all_cons (by unfold WdOk; decide +kernel) (all_cons (satN_ok w k.sat).wd (all_cons (by unfold WdOk; decide +kernel) (all_cons (staN_ok w k.sta).wd
    (all_cons (by unfold WdOk; decide +kernel) (all_cons (num_wd (by omega) (by omega)) (all_cons (by unfold WdOk; decide +kernel) (all_cons (num_wd (by omega) (by omega)) (all_cons (by unfold WdOk; decide +kernel) (all_cons (num_wd (by (clear w k h0 h1 h2 h4 h5; omega)) (by (clear w k h0 h1 h2 h4 h5; omega)))
    (all_cons (by unfold WdOk; decide +kernel) (all_cons (num_wd (by (clear w k h0 h1 h2 h3 h5; omega)) (by (clear w k h0 h1 h2 h3 h5; omega))) (all_cons (by unfold WdOk; decide +kernel) (all_cons (num_wd (by (clear w k h0 h1 h2 h3 h4; omega)) (by (clear w k h0 h1 h2 h3 h4; omega))) all_nil)))))))))))))))
theorem linesW_ok {W : WorldD} (w : WorldOk W) : ∀ l ∈ linesW W, l ≠ [] ∧ (∀ x ∈ l, WdOk x) ∧ l.length ≤ 1015 := by
  intro l hl
  unfold linesW at hl
  rcases List.mem_cons.mp hl with rfl | hl
  · exact ⟨List.cons_ne_nil _ _, wHor_wd w, by show 2 ≤ 1015; decide⟩
  rcases List.mem_append.mp hl with hl | hl
  · rcases List.mem_append.mp hl with hl | hl
    · rcases List.mem_append.mp hl with hl | hl
      · obtain ⟨s, hs, rfl⟩ := List.mem_map.mp hl
        have k := w.sats s hs
        refine ⟨List.cons_ne_nil _ _, wSat_wd w.horizon.2 k, ?_⟩
        have h1 := k.light.len (by have := w.horizon; omega)
        have h2 := w.horizon
        have h3 := lightW_len s.light
        have h4 : (wSat s).length = 15 + (lightW s.light).length := by
          unfold wSat
          rw [List.length_append]
          rfl
        omega
      · obtain ⟨s, hs, rfl⟩ := List.mem_map.mp hl
        exact ⟨List.cons_ne_nil _ _, wSta_wd (w.stas s hs), by show 6 ≤ 1015; decide⟩
    · obtain ⟨s, hs, rfl⟩ := List.mem_map.mp hl
      exact ⟨List.cons_ne_nil _ _, wRec_wd w (w.recs s hs), by show 20 ≤ 1015; decide⟩
  · obtain ⟨s, hs, rfl⟩ := List.mem_map.mp hl
    exact ⟨List.cons_ne_nil _ _, wPas_wd w (w.pass s hs), by show 16 ≤ 1015; decide⟩
theorem linesW_len {W : WorldD} (w : WorldOk W) : (linesW W).length ≤ 27 := by
  have h1 := w.nSats; have h2 := w.nStas; have h3 := w.nRecs; have h4 := w.nPass
  unfold linesW
  rw [List.length_cons, List.length_append, List.length_append, List.length_append, List.length_map, List.length_map, List.length_map, List.length_map]
  omega
theorem textW_len {W : WorldD} (w : WorldOk W) : (textW W).length ≤ 1000000 := by
  have h1 := glue_len (rows := (linesW W).map row) (m := 17255) fun r hr => by
    obtain ⟨l, hl, rfl⟩ := List.mem_map.mp hr
    have h2 := row_len (linesW_ok w l hl).2.1
    have h3 := (linesW_ok w l hl).2.2
    omega
  have h2 := linesW_len w
  rw [List.length_map] at h1
  have h3 : ((linesW W).length + 1) * (17255 + 1) ≤ 28 * 17256 := Nat.mul_le_mul_right _ (by omega)
  show (glue _).length ≤ _
  omega
end DP
namespace DP
open PySem PySem.Spec PyProof.Rows L2
/-- the list at a as it stands at each turn, each item in a new pair with the count from k on -/
def IteS (K : PySem.W.Frag) (a : Addr) (k : Int) : It :=
  ⟨fun i H => ∃ (xs : List V) (x : V), SqL K H a xs ∧ xs[i]? = some x,
   fun i H v H' => ∃ T x, v = .ref T ∧ H T = none ∧ H' = upd H T (.tup [.int (k + (i : Nat)), x]) ∧ ∀ xs, SqL K H a xs → xs[i]? = some x,
   fun i H => ∃ xs : List V, SqL K H a xs ∧ xs.length ≤ i⟩
theorem list_not_iter {h : Heap} {a it : Addr} {its : Array Value} {i : Nat} (l : h.IsList a its) (r : h.IsListIter it a i) : a ≠ it := fun z => by
  obtain ⟨o, ho, hc, _⟩ := l
  obtain ⟨o', ho', hc', _⟩ := r
  rw [z, ho'] at ho
  cases ho
  rw [hc] at hc'
  exact absurd hc' (by decide)
theorem turn_enumS {P : Program} {w : World} {K : PySem.W.Frag} {elts : List Expr} {kk : Nat} {tpos : Pos} (a en it : Addr) (k : Int) :
    Turn P w K (.Tuple elts kk tpos) (IteS K a k) [en, it] en (fun i h => (∃ old, IsEnum h en it (k + ((i : Nat) : Int)) old) ∧ h.IsListIter it a i ∧ en ≠ it) where
  mem := by simp
  obj := fun i h st b hb => by
    obtain ⟨⟨old, hen⟩, ⟨o, ho, hc, hd⟩, _⟩ := st
    have two : b = en ∨ b = it := by simpa using hb
    rcases two with z | z
    · subst z
      exact ⟨_, hen, fun v q => nomatch q⟩
    · subst z
      exact ⟨o, ho, fun v q => by rw [hd] at q; cases q⟩
  keep := fun i h h' st kp => by
    obtain ⟨⟨old, hen⟩, hi, hne⟩ := st
    exact ⟨⟨old, kp en (by simp) _ hen⟩, hi.at fun o q => kp it (by simp) o q, hne⟩
  item := by
    intro X hP hw hK hc i pins s σ H E I hf st hg
    subst hP hw hK
    obtain ⟨⟨old, hen⟩, hit, hne⟩ := st
    obtain ⟨xs, x, hq, hx⟩ := hg
    obtain ⟨its, rv, pl, hz⟩ := I.list hq
    obtain ⟨u, hu, ru⟩ := rv.get hx
    have en_lt : en < s.heap.objs.size := Heap.lt_size hen
    have it_lt : it < s.heap.objs.size := by
      obtain ⟨_, q, _⟩ := hit
      exact Heap.lt_size q
    have nel := list_not_iter pl.isList hit
    have Dr := Draws.list (prog := X.prog) (w := X.w) (A := X.A.in1) (I.ok.hd hc) it a nel its.toArray
    have hi : i < its.toArray.size := by
      have := (List.getElem?_eq_some_iff.mp hu).1
      simpa using this
    by_cases ea : en = a
    · exfalso
      obtain ⟨o, ho, hc', _⟩ := pl.isList
      rw [← ea, hen] at ho
      cases ho
      have e : Value.type "enumerate" = Value.type "list" := hc'
      exact absurd e (by decide)
    refine wpAny_pyNext_enum_itemC Dr hen ⟨hit, pl.isList⟩ hi hne (by simp [hne, ea]) fun x' h' tk hP ho hit' hT hsz hk => ?_
    have ex : x' = u := by
      have e1 : its.toArray[i]? = some x' := hP
      have e2 : its.toArray[i]? = some u := by simpa using hu
      exact Option.some.inj (e1.symm.trans e2)
    subst ex
    refine ⟨_, rfl, wpAny_letOwnedTupleGo_enum (s := { s with heap := h', toks := tk + 1 }) ho fun h2 hen2 sb => ?_⟩
    have hT2 : h2.get? s.heap.objs.size = some { cls := .type "tuple", data := .seq #[.int (k + (i : Int)) tk, x'] } :=
      (sb.2 _ (Nat.ne_of_gt en_lt)).trans hT
    have fresh : H s.heap.objs.size = none := I.hok.fresh (Nat.le_refl _)
    have new : ObjOk X.prog X.w (upd H s.heap.objs.size (.tup [.int (k + (i : Nat)), x])) h2 s.heap.objs.size (.tup [.int (k + (i : Nat)), x]) :=
      ⟨(by show 2 ≤ sizeLine; decide), [.int (k + (i : Int)) tk, x'], .cons ⟨_, rfl⟩ (.cons ru .nil), ⟨_, hT2, rfl, _, rfl⟩⟩
    have keepAll : ∀ b ob, b ∉ [en, it] → s.heap.get? b = some ob → h2.get? b = some ob := fun b ob hb q => by
      have n1 : b ≠ en := fun z => hb (by simp [z])
      have n2 : b ≠ it := fun z => hb (by simp [z])
      exact (sb.2 b n1).trans (hk b ob n1 n2 q)
    have I1 := I.turnedNew (t' := tk + 1) (ch := [en, it]) keepAll hf (Nat.le_refl _) new
    refine ⟨.ref s.heap.objs.size, _, I1, rfl, ⟨_, x, rfl, fresh, rfl, fun ys hy => ?_⟩, ⟨⟨x', ?_⟩, ?_, hne⟩, fun b hb => ?_⟩
    · rw [I.list_inj hy hq]
      exact hx
    · have e1 : k + ((i + 1 : Nat) : Int) = k + (i : Int) + 1 := by (clear hc I hf hen hit hne hq hx rv pl hz en_lt it_lt nel Dr hi ea hP ho hit' hT hsz hk hu ru hen2 sb hT2 fresh new keepAll I1; omega)
      rw [e1]
      exact hen2
    · exact hit'.1.at fun o q => (sb.2 it (Ne.symm hne)).trans q
    · have hb' : b < s.heap.objs.size := by
        have two : b = en ∨ b = it := by simpa using hb
        rcases two with z | z
        · rw [z]; exact en_lt
        · rw [z]; exact it_lt
      rw [upd_ne (Nat.ne_of_lt hb')]
      exact (hf b hb).1
  done := by
    intro X hP hw hK hc i pins s σ H E I hf st hg
    subst hP hw hK
    obtain ⟨⟨old, hen⟩, hit, hne⟩ := st
    obtain ⟨xs, hq, hx⟩ := hg
    obtain ⟨its, rv, pl, hz⟩ := I.list hq
    have hl := rv.length
    obtain ⟨f0, f1, f2, f3, f4, f5⟩ := hf it (by simp)
    have hT : s.TypeIs (.ref en) "enumerate" := ⟨_, hen, rfl⟩
    unfold pyNext
    refine wpAny_bind (wpAny_attempt (wpAny_callSpecial?_slot (name := Str.ofString "__next__") hT F.slot_enumerate_next
      (wpAny_call_entry F.slot_enumerate_next hT F.entry_enumerate_next ?_
        (F.args_enumerate_next_1 _))))
    show wpAny _ _ (field (.ref en) 2 >>= _) _ _ _
    refine wpAny_bind (wpAny_field hen rfl (x := .ref it) rfl ?_)
    refine wpAny_bind (wpAny_nextOf_list_end (I.ok.hd hc) hit pl.isList (by simp; omega) fun h' e eb hcl => ?_)
    obtain ⟨o, ho, hcs⟩ := hcl
    refine wpAny_bind (wpAny_isInstance (T := "StopIteration") (b := true) ⟨o, ho, hcs⟩ isSubtype_stop ?_)
    exact wpAny_pure ⟨rfl, I.turned (t' := s.toks) (fun b o hb q => eb b o hb q) f0 f1 f3 f4 f5⟩
  self := fun A i s Q E st h => let ⟨⟨_, hen⟩, _⟩ := st; wpAny_pyIter_enum hen h
/-- enumerate(xs, start=k), walked into a written tuple of names -/
def iEnumS (K : PySem.W.Frag) (ta tk : TA) : TI := fun σ H R => ta σ H fun vs H1 => tk σ H1 fun zs H2 =>
  ∃ a xs k, vs = [.ref a] ∧ zs = [.int k] ∧ SqL K H2 a xs ∧ -(2 ^ 63) ≤ k ∧ k < 2 ^ 63 ∧ R (IteS K a k) H2
theorem pi_enumS {X : Cx} {e ke : Expr} {ta tk : TA} {p pos tpos kp : Pos} {elts : List Expr} {kk : Nat} (hg : Gl X "enumerate") (hm : X.mg "enumerate" = none) (ha : PA X [e] ta) (hk : PK X [⟨some "start", ke, kp⟩] tk)
    (hs : starEach [e] X.env = (false, eval e X.env) :: starEach [] X.env := by rfl) (hpl : ((backTo pos (starEach [e] X.env)).any (·.1) || (backToKw pos (keywordEach [⟨some "start", ke, kp⟩] X.env)).any (·.1.isNone)) = false := by rfl) :
    PI X (.Tuple elts kk tpos) (.Call (.Name "enumerate" p) [e] [⟨some "start", ke, kp⟩] pos) (iEnumS X.K ta tk) := by
  refine ⟨fun pins s σ H R I h => ?_⟩
  refine wpAny_Call_Name_kw (ld_blt I hg hm boot_enumerate ?_)
  refine PySem.W.callWith_of (P := fun _ => True) hpl (fun h _ => ⟨.machine, .inr (.inl rfl), PySem.W.Looks.of_pure rfl⟩) (evalArgs_kw2 (by rfl)
    (thn (ha.run pos pins s σ H _ I h) fun us s1 ⟨vs, H1, I1, r1, q1⟩ => thn (hk.run pos pins s1 σ H1 _ I1 q1) fun ws s2 ⟨zs, H2, I2, r2, q2⟩ => ⟨True.intro, ?_⟩) hs)
  obtain ⟨a, xs, k, ex, ez, hq, b1, b2, q⟩ := q2
  subst ex ez
  obtain ⟨u, eu, ru⟩ := vals1 r1
  obtain ⟨z, ez, rz⟩ := vals1 r2
  subst eu ez
  cases ru
  obtain ⟨t, et⟩ := (show ∃ t, z = Value.int k t from rz)
  subst et
  obtain ⟨its, rv, pl, hz⟩ := I2.list hq
  show wpAny _ _ (call (.type "enumerate") [.ref a] [(Str.ofString "start", .int k t)]) _ _ _
  refine enum_begins_start (begins_list a its.toArray) pl.isList b1 b2 fun h' hen hit hsz hkp => wpAny_pyIter_enum hen ?_
  have I3 : Inv X pins σ H2 { s2 with heap := h' } := I2.kept (t' := s2.toks) hkp
  refine ⟨s2.heap.objs.size + 1, [s2.heap.objs.size + 1, s2.heap.objs.size], _, _, H2, rfl, I3, turn_enumS a (s2.heap.objs.size + 1) s2.heap.objs.size k,
    ⟨⟨.none, ?_⟩, ⟨_, hit, rfl, rfl⟩, Nat.succ_ne_self _⟩, fun b hb => ?_, q⟩
  · show IsEnum h' _ _ (k + 0) _
    rw [Int.add_zero]
    exact hen
  · have two : b = s2.heap.objs.size + 1 ∨ b = s2.heap.objs.size := by simpa using hb
    have hle : s2.heap.objs.size ≤ b := by
      rcases two with z | z
      · rw [z]; exact Nat.le_add_right _ 1
      · rw [z]; exact Nat.le_refl _
    exact I2.fpOk hle (I2.hok.fresh hle)
theorem walk_enumS {K : PySem.W.Frag} {a : Addr} {k : Int} {xs : List V} :
    Walk (IteS K a k) xs.length (fun H => SqL K H a xs) (fun i H v H' => ∃ T x, v = .ref T ∧ H T = none ∧ H' = upd H T (.tup [.int (k + (i : Nat)), x]) ∧ xs[i]? = some x) :=
  ⟨fun i H hi q => ⟨xs, xs[i], q, List.getElem?_eq_getElem hi⟩, fun H q => ⟨xs, q, Nat.le_refl _⟩, fun i H v H' hi q ⟨T, x, e1, e2, e3, e4⟩ => ⟨T, x, e1, e2, e3, e4 xs q⟩⟩
theorem same_mk {H H' : Hp} {x dx : Addr} {o u : HO} (hx : H x = none) (hd : H dx = none) (s : ∀ b v, b ≠ x → (upd (upd H dx o) x u) b = some v → H' b = some v) : Same H H' := fun b v e => by
  have n1 : b ≠ x := ne_of_none e hx
  exact s b v n1 (by rw [upd_ne n1, upd_ne (ne_of_none e hd)]; exact e)
end DP
namespace DP
open PySem PySem.Spec PyProof.Rows L2
structure ClsAt (K : PySem.W.Frag) (mg : Str → Option Value) (x : Str) (C : Addr) : Prop where
  cl : Cls K C
  mkC : PySem.W.makesIn K C = true
  kp : PySem.W.keepIn K (.ref C) = true
  gC : mg x = some (.ref C)
structure MAt (K : PySem.W.Frag) (C : Addr) (m qual : Str) (st : Stmt) (ps : List Str) : Prop where
  ex : ∃ f fd, Fun K m qual st f fd ∧ Meth K C m f ∧ Binds K fd ps []
structure MDef (P : Program) (w : World) (K : PySem.W.Frag) (mg : Str → Option Value) (base : Heap) (CX : CXT) (k : Nat) (C : Addr) (m : Str) (ps : List Str) (ds : List V) (sp : Sp) : Prop where
  ex : ∃ f fd us, FnOk P w K mg base CX k f fd ps sp ∧ Meth K C m f ∧ Binds K fd ps us ∧ Vals ds us
section
variable {X : Cx} {CX : CXT} {k : Nat} {C : Addr} {x m : Str} {ps : List Str} {ds : List V} {sp : Sp} {E : XK} {o e : Expr} {es : List Expr} {ta : TE} {t : TA} {p pos apos : Pos} {pl : Sem Bool}
theorem pe_m (D : MDef X.prog X.w X.K X.mg X.base CX k C m ps ds sp) (c : Cls X.K C) (hr : Room k X.A) (hx : Passes CX X E) (he : PE X o ta) (ha : PA X (e :: es) t)
    (hst : starEach (e :: es) X.env = (false, eval e X.env) :: starEach es X.env := by rfl) (hpl : (backTo pos (starEach es X.env)).any (·.1) = false := by rfl)
    (ht : eval (.Call (.Attribute o m apos) (e :: es) [] pos) X.env = (do
      let ov ← eval o X.env
      standAt apos.atName
      let (f, first) ← holding [ov] (getMethod ov m pl)
      callWith pos f first (backTo pos (starEach (e :: es) X.env)) (backToKw pos (keywordEach [] X.env))) := by rfl) :
    PE X (.Call (.Attribute o m apos) (e :: es) [] pos) (tMeth C m sp ds E ta t) := by
  obtain ⟨f, fd, us, G, M, b, v⟩ := D.ex
  exact pe_meth (pl := pl) he c M G hr b v hx ha hst hpl ht
theorem pe_m0 (D : MDef X.prog X.w X.K X.mg X.base CX k C m ps ds sp) (c : Cls X.K C) (hr : Room k X.A) (hx : Passes CX X E) (he : PE X o ta)
    (ht : eval (.Call (.Attribute o m apos) [] [] pos) X.env = (do
      let ov ← eval o X.env
      standAt apos.atName
      let (f, first) ← holding [ov] (getMethod ov m pl)
      callWith pos f first (backTo pos (starEach [] X.env)) (backToKw pos (keywordEach [] X.env))) := by rfl) :
    PE X (.Call (.Attribute o m apos) [] [] pos) (tMeth C m sp ds E ta tNil) := by
  obtain ⟨f, fd, us, G, M, b, v⟩ := D.ex
  exact pe_meth0 (pl := pl) he c M G hr b v hx ht
theorem pe_mk (D : MDef X.prog X.w X.K X.mg X.base CX k C "__init__" ps ds sp) (c : ClsAt X.K X.mg x C) (hr : Room (k + 1) X.A) (hx : Passes CX X E) (ha : PA X (e :: es) t) (hg : Gl X x := by rfl)
    (hdb : (x == ("__debug__" : Str)) = false := by decide) (he : starEach (e :: es) X.env = (false, eval e X.env) :: starEach es X.env := by rfl) (hpl : (backTo pos (starEach es X.env)).any (·.1) = false := by rfl) :
    PE X (.Call (.Name x p) (e :: es) [] pos) (tMake C sp ds E t) := by
  obtain ⟨f, fd, us, G, M, b, v⟩ := D.ex
  exact pe_make ⟨c.mkC, M.at_, M.fn, c.kp⟩ G hr hg c.gC b v hx ha hdb he hpl
/-- a constant of the module -/
theorem pe_gi {i : Int} (h : ∃ t, X.mg x = some (.int i t)) (hg : Gl X x := by rfl) (hd : (x == ("__debug__" : Str)) = false := by decide) : PE X (.Name x pos) (tC (.int i)) := by
  obtain ⟨t, h⟩ := h
  exact pe_glob hg h ⟨t, rfl⟩ hd
theorem pe_gs {z : Str} (h : ∃ t, X.mg x = some (.str z t)) (hg : Gl X x := by rfl) (hd : (x == ("__debug__" : Str)) = false := by decide) : PE X (.Name x pos) (tC (.str z)) := by
  obtain ⟨t, h⟩ := h
  exact pe_glob hg h ⟨t, rfl⟩ hd
theorem pe_ga {a : Addr} (h : X.mg x = some (.ref a)) (hg : Gl X x := by rfl) (hd : (x == ("__debug__" : Str)) = false := by decide) : PE X (.Name x pos) (tC (.ref a)) := pe_glob hg h rfl hd
end
/-- a method with one default -/
structure MAtD (K : PySem.W.Frag) (C : Addr) (m qual : Str) (st : Stmt) (ps : List Str) (ds : List V) : Prop where
  ex : ∃ f fd us, FunD K m qual (defArgs st) (defBody st) (defScope st) ds [] f fd ∧ Meth K C m f ∧ Binds K fd ps us ∧ Vals ds us
theorem pe_fldK {X : Cx} {K : PySem.W.Frag} (h : X.K = K) {e : Expr} {ta : TE} {f : Str} {pos : Pos} (he : PE X e ta) (hb : attributeBase e f X.env (eval e X.env) = eval e X.env) : PE X (.Attribute e f pos) (tFld K ta f) := by
  subst h
  exact pe_fld he hb
theorem pg_tupK {X : Cx} {K : PySem.W.Frag} (h : X.K = K) {es : List Expr} {k n : Nat} {pos : Pos} {g : TGs} (hc : X.calm = true) (hs : PGs X es g)
    (hn : (assignEach es X.env).length = n := by rfl) (hst : (assignEach es X.env).findIdx? (·.1) = none := by rfl) : PG X (.Tuple es k pos) (gTup K n g) := by
  subst h
  exact pg_tup hc hs hn hst
section
variable {P : Program} {w : World} {K : PySem.W.Frag} {mg : Str → Option Value} {base : Heap} {C : Addr} {m qual : Str} {st : Stmt} {ps N : List Str} {k : Nat} {sp sp' : Sp} {ds : List V}
theorem MAt.ok (F : MAt K C m qual st ps) (S : FnScope N ps (defScope st)) (len : ∀ vs H Q E, sp vs H Q E → vs.length = ps.length)
    (hbody : ∀ (f : Addr) (cdv : Value) (A : Around) (outer : List Env) (s : Shared) (H : Hp) (vs : List V) (Q : VK) (E : XK), Room k (A.deeper (envOfC qual (defScope st) s.heap.objs.size f cdv)) → sp vs H Q E →
      ∃ t, PSs (cxOf CX0 P w K mg base N qual (defScope st) f cdv A outer s H E).nox (defBody st) t ∧ t { nx := fun _ H' => Q .non H', rt := Q } (start N vs) H) : MDef P w K mg base CX0 (k + 1) C m ps [] sp := by
  obtain ⟨f, fd, G, M, b⟩ := F.ex
  exact ⟨f, fd, [], G.ok S len (fun cdv A outer s H vs Q E hr h => hbody f cdv A outer s H vs Q E hr h), M, b, .nil⟩
theorem MAtD.ok (F : MAtD K C m qual st ps ds) (S : FnScope N ps (defScope st)) (len : ∀ vs H Q E, sp vs H Q E → vs.length = ps.length)
    (hbody : ∀ (f : Addr) (cdv : Value) (A : Around) (outer : List Env) (s : Shared) (H : Hp) (vs : List V) (Q : VK) (E : XK), Room k (A.deeper (envOfC qual (defScope st) s.heap.objs.size f cdv)) → sp vs H Q E →
      ∃ t, PSs (cxOf CX0 P w K mg base N qual (defScope st) f cdv A outer s H E).nox (defBody st) t ∧ t { nx := fun _ H' => Q .non H', rt := Q } (start N vs) H) : MDef P w K mg base CX0 (k + 1) C m ps ds sp := by
  obtain ⟨f, fd, us, G, M, b, v⟩ := F.ex
  refine ⟨f, fd, us, G.ok S len (fun cdv A outer s H vs Q E hr h => ?_), M, b, v⟩
  obtain ⟨t, h1, h2⟩ := hbody f cdv A outer s H vs Q E hr h
  exact ⟨t, h1.nox, h2⟩
theorem MDef.imp (D : MDef P w K mg base CX0 k C m ps ds sp) (h : ∀ vs H Q E, sp' vs H Q E → sp vs H Q E) : MDef P w K mg base CX0 k C m ps ds sp' := by
  obtain ⟨f, fd, us, G, M, b, v⟩ := D.ex
  exact ⟨f, fd, us, G.imp h, M, b, v⟩
end
theorem lk_hit {a : Str} {b : V} {es : List (Str × V)} : List.lookup a ((a, b) :: es) = some b := by
  unfold List.lookup
  rw [beq_self_eq_true]
theorem lk_miss {a k : Str} {b : V} {es : List (Str × V)} (h : (a == k) = false) : List.lookup a ((k, b) :: es) = List.lookup a es := by
  show (match a == k with | true => some b | false => List.lookup a es) = _
  rw [h]
theorem put_hit {f : Str} {v x : V} {r : List (Str × V)} : putF f v ((f, x) :: r) = (f, v) :: r := by
  show (if f = f then _ else _) = _
  rw [if_pos rfl]
theorem put_miss {f g : Str} {v x : V} {r : List (Str × V)} (h : (g == f) = false) : putF f v ((g, x) :: r) = (g, x) :: putF f v r := by
  have h1 : ¬ g = f := fun z => by
    rw [z, beq_self_eq_true] at h
    cases h
  show (if g = f then _ else _) = _
  rw [if_neg h1]
theorem put_nil {f : Str} {v : V} : putF f v [] = [(f, v)] := rfl
theorem put_lt {f : Str} {v : V} {k m : Nat} : ∀ {fs : List (Str × V)}, fs.length + (k + 1) < m → (putF f v fs).length + k < m
  | [], h => by
    show 1 + k < m
    have : 0 + (k + 1) < m := h
    omega
  | (g, x) :: r, h => by
    rw [List.length_cons] at h
    show (if g = f then (g, v) :: r else (g, x) :: putF f v r).length + k < m
    by_cases c : g = f
    · rw [if_pos c, List.length_cons]
      omega
    · rw [if_neg c, List.length_cons]
      have := put_lt (f := f) (v := v) (k := k + 1) (m := m) (fs := r) (by omega)
      omega
theorem put_lt0 {f : Str} {v : V} {m : Nat} {fs : List (Str × V)} (h : fs.length + 1 < m) : (putF f v fs).length < m := put_lt (k := 0) h
theorem ins_ne {H : Hp} {a b C D dx dy : Addr} {fs gs : List (Str × V)} (h : H a = some (.ins C dx fs)) (h' : H b = some (.ins D dy gs)) (n : fs.length ≠ gs.length) : a ≠ b := fun z => by
  rw [z, h'] at h
  injection h with h
  injection h with h1 h2 h3
  exact n (by rw [h3])
/-- all that stood but a is as it was -/
def SameX (a : Addr) (H H' : Hp) : Prop := ∀ b o, b ≠ a → H b = some o → H' b = some o
theorem SameX.refl (a : Addr) (H : Hp) : SameX a H H := fun _ _ _ h => h
theorem SameX.trans {a : Addr} {H H1 H2 : Hp} (x : SameX a H H1) (y : SameX a H1 H2) : SameX a H H2 := fun b o n h => y b o n (x b o n h)
theorem SameX.of {a : Addr} {H H' : Hp} (s : Same H H') : SameX a H H' := fun b o _ h => s b o h
theorem SameX.upd {a : Addr} {H : Hp} {o : HO} : SameX a H (L2.upd H a o) := fun b u n h => by rw [upd_ne n]; exact h
theorem SameX.at_ {a : Addr} {H H' : Hp} {o : HO} (x : SameX a H H') : SameX a H (L2.upd H' a o) := fun b u n h => by rw [upd_ne n]; exact x b u n h
end DP
namespace DP
open PySem PySem.Spec PyProof.Rows L2
def topS (i : Nat) : Stmt := PySem.Challenge.pw_downpass_k31_breaches_of_cases.main.body.getD i (.Pass ⟨0, 0, 0, 0⟩)
end DP
namespace DP
open PySem PySem.Spec PyProof.Rows L2
abbrev s_lines_of : Stmt := topS 11
theorem sc_lines_of : FnScope ["text", "rows", "last", "number", "row"] ["text"] (defScope s_lines_of) := ⟨rfl, rfl, rfl, by decide +kernel, rfl, by decide +kernel, by decide +kernel⟩
abbrev s_is_name : Stmt := topS 12
theorem sc_is_name : FnScope ["word", "letter"] ["word"] (defScope s_is_name) := ⟨rfl, rfl, rfl, by decide +kernel, rfl, by decide +kernel, by decide +kernel⟩
abbrev s_is_number : Stmt := topS 13
theorem sc_is_number : FnScope ["word", "letter"] ["word"] (defScope s_is_number) := ⟨rfl, rfl, rfl, by decide +kernel, rfl, by decide +kernel, by decide +kernel⟩
abbrev s_Line___init__ : Stmt := inClass (topS 14) 0
theorem sc_Line___init__ : FnScope ["self", "number", "row"] ["self", "number", "row"] (defScope s_Line___init__) := ⟨rfl, rfl, rfl, by decide +kernel, rfl, by decide +kernel, by decide +kernel⟩
abbrev s_Line_has_more : Stmt := inClass (topS 14) 2
theorem sc_Line_has_more : FnScope ["self"] ["self"] (defScope s_Line_has_more) := ⟨rfl, rfl, rfl, by decide +kernel, rfl, by decide +kernel, by decide +kernel⟩
abbrev s_Line_due : Stmt := inClass (topS 14) 3
theorem sc_Line_due : FnScope ["self", "word"] ["self"] (defScope s_Line_due) := ⟨rfl, rfl, rfl, by decide +kernel, rfl, by decide +kernel, by decide +kernel⟩
abbrev s_Line_step : Stmt := inClass (topS 14) 4
theorem sc_Line_step : FnScope ["self"] ["self"] (defScope s_Line_step) := ⟨rfl, rfl, rfl, by decide +kernel, rfl, by decide +kernel, by decide +kernel⟩
abbrev s_Line_read_choice : Stmt := inClass (topS 14) 5
theorem sc_Line_read_choice : FnScope ["self", "choices", "word"] ["self", "choices"] (defScope s_Line_read_choice) := ⟨rfl, rfl, rfl, by decide +kernel, rfl, by decide +kernel, by decide +kernel⟩
abbrev s_Line_read_number : Stmt := inClass (topS 14) 6
theorem sc_Line_read_number : FnScope ["self", "least", "most", "word", "number"] ["self", "least", "most"] (defScope s_Line_read_number) := ⟨rfl, rfl, rfl, by decide +kernel, rfl, by decide +kernel, by decide +kernel⟩
abbrev s_Line_read_field : Stmt := inClass (topS 14) 7
theorem sc_Line_read_field : FnScope ["self", "word", "least", "most"] ["self", "word", "least", "most"] (defScope s_Line_read_field) := ⟨rfl, rfl, rfl, by decide +kernel, rfl, by decide +kernel, by decide +kernel⟩
abbrev s_Line_due_name : Stmt := inClass (topS 14) 8
theorem sc_Line_due_name : FnScope ["self", "word"] ["self"] (defScope s_Line_due_name) := ⟨rfl, rfl, rfl, by decide +kernel, rfl, by decide +kernel, by decide +kernel⟩
abbrev s_Line_read_new_name : Stmt := inClass (topS 14) 9
theorem sc_Line_read_new_name : FnScope ["self", "used", "word"] ["self", "used"] (defScope s_Line_read_new_name) := ⟨rfl, rfl, rfl, by decide +kernel, rfl, by decide +kernel, by decide +kernel⟩
abbrev s_Line_read_known_name : Stmt := inClass (topS 14) 10
theorem sc_Line_read_known_name : FnScope ["self", "names", "least", "word", "number"] ["self", "names", "least"] (defScope s_Line_read_known_name) := ⟨rfl, rfl, rfl, by decide +kernel, rfl, by decide +kernel, by decide +kernel⟩
abbrev s_Line_finish : Stmt := inClass (topS 14) 11
theorem sc_Line_finish : FnScope ["self"] ["self"] (defScope s_Line_finish) := ⟨rfl, rfl, rfl, by decide +kernel, rfl, by decide +kernel, by decide +kernel⟩
def lnF (n : Int) (wl : Addr) (r : Nat) (c : Int) : List (Str × V) := [("number", .int n), ("words", .ref wl), ("read", .int r), ("column", .int c)]
theorem lnF_words {n : Int} {wl : Addr} {r : Nat} {c : Int} : (lnF n wl r c).lookup ("words" : Str) = some (.ref wl) := by unfold lnF; exact (lk_miss (by decide +kernel)).trans lk_hit
theorem lnF_read {n : Int} {wl : Addr} {r : Nat} {c : Int} : (lnF n wl r c).lookup ("read" : Str) = some (.int r) := by
  unfold lnF; exact (lk_miss (by decide +kernel)).trans ((lk_miss (by decide +kernel)).trans lk_hit)
theorem lnF_column {n : Int} {wl : Addr} {r : Nat} {c : Int} : (lnF n wl r c).lookup ("column" : Str) = some (.int c) := by
  unfold lnF; exact (lk_miss (by decide +kernel)).trans ((lk_miss (by decide +kernel)).trans ((lk_miss (by decide +kernel)).trans lk_hit))
theorem lnF_no {n : Int} {wl : Addr} {r : Nat} {c : Int} {m : Str} (h1 : (m == ("number" : Str)) = false) (h2 : (m == ("words" : Str)) = false) (h3 : (m == ("read" : Str)) = false) (h4 : (m == ("column" : Str)) = false) : (lnF n wl r c).lookup m = none := by
  unfold lnF
  exact (lk_miss h1).trans ((lk_miss h2).trans ((lk_miss h3).trans ((lk_miss h4).trans rfl)))
theorem lnF_put_column {n : Int} {wl : Addr} {r : Nat} {c d : Int} : putF "column" (.int d) (lnF n wl r c) = lnF n wl r d := by
  unfold lnF
  rw [put_miss (by decide +kernel), put_miss (by decide +kernel), put_miss (by decide +kernel), put_hit]
theorem lnF_put_read {n : Int} {wl : Addr} {r q : Nat} {c : Int} : putF "read" (.int q) (lnF n wl r c) = lnF n wl q c := by
  unfold lnF
  rw [put_miss (by decide +kernel), put_miss (by decide +kernel), put_hit]
/-- the line at a, its words ws, r of them passed -/
structure LnAt (C : Addr) (H : Hp) (a : Addr) (ws : List Str) (r : Nat) : Prop where
  ex : ∃ dx n wl c, H a = some (.ins C dx (lnF n wl r c)) ∧ H wl = some (.lst (ws.map V.str))
  ok : ∀ w ∈ ws, WdOk w
theorem LnAt.same {C : Addr} {H H' : Hp} {a : Addr} {ws : List Str} {r : Nat} (h : LnAt C H a ws r) (s : Same H H') : LnAt C H' a ws r := by
  obtain ⟨dx, n, wl, c, h1, h2⟩ := h.ex
  exact ⟨⟨dx, n, wl, c, s _ _ h1, s _ _ h2⟩, h.ok⟩
theorem map_at {ws : List Str} {i : Nat} {w : Str} (h : ws[i]? = some w) : atI (ws.map V.str) (i : Int) = some (.str w) := atI_nat (by rw [List.getElem?_map, h]; rfl)
theorem wd_ne {w : Str} (h : WdOk w) : ¬ w = Str.ofString "" := fun z => h.1 (by rw [z]; decide +kernel)
theorem wd_len {w : Str} (h : WdOk w) : w.length ≤ 16 := by rw [TL.len_tl]; exact h.2.2.2
/-- what the text tells of the class Line and its module -/
structure TxtL (K : PySem.W.Frag) (mg : Str → Option Value) (C : Addr) : Prop where
  B : Bt mg
  c_Line : ClsAt K mg "Line" C
  n_number : NoAttr K C "number"
  n_words : NoAttr K C "words"
  n_read : NoAttr K C "read"
  n_column : NoAttr K C "column"
  g_LETTERS : ∃ t, mg "LETTERS" = some (.str "abcdefghijklmnopqrstuvwxyzABCDEFGHIJKLMNOPQRSTUVWXYZ" t)
  g_DIGITS : ∃ t, mg "DIGITS" = some (.str "0123456789" t)
  g_MOST_NAME : ∃ t, mg "MOST_NAME" = some (.int 15 t)
  g_MOST_DIGITS : ∃ t, mg "MOST_DIGITS" = some (.int 7 t)
section
variable {P : Program} {w : World} {K : PySem.W.Frag} {mg : Str → Option Value} {base : Heap} {C : Addr}
def spLnInit (C : Addr) : Sp := fun vs H Q _ => ∃ (x dx : Addr) (n : Int) (ws : List Str), vs = [.ref x, .int n, .str (row ws)] ∧ H x = some (.ins C dx []) ∧ ws ≠ [] ∧ (∀ w ∈ ws, WdOk w) ∧ ws.length ≤ 2000 ∧
  ∀ H', SameX x H H' → LnAt C H' x ws 0 → Q .non H'
theorem d_Line_init (T : TxtL K mg C) (A : MAt K C "__init__" "Line.__init__" s_Line___init__ ["self", "number", "row"]) : MDef P w K mg base CX0 1 C "__init__" ["self", "number", "row"] [] (spLnInit C) := by
  refine A.ok sc_Line___init__ (fun vs H Q E h => ?_) (fun f cdv A outer s H vs Q E hr h => ?_)
  · obtain ⟨x, dx, n, ws, rfl, _⟩ := h
    rfl
  obtain ⟨x, dx, n, ws, rfl, hx, hn, hok, hlen, q⟩ := h
  refine ⟨_, pss_cons (ps_fld (pv 0) (pv 1) rfl)
  (pss_cons (ps_fld (pv 0) (pe_split (pv 2) pe_str) rfl)
  (pss_cons (ps_fld (pv 0) pe_int rfl)
  (pss_one (ps_fld (pv 0) pe_int rfl))))
    , ?_⟩
  have hl := row_len hok
  refine ⟨_, rfl, _, rfl, x, C, dx, _, rfl, hx, T.c_Line.cl, T.n_number, (by show 0 < 1000; decide), ?_⟩
  refine ⟨_, rfl, ⟨_, rfl⟩, _, sp, rfl, rfl, by decide +kernel, Nat.le_trans (Nat.add_le_add_right (Nat.le_trans hl (Nat.mul_le_mul_right 17 hlen)) 2) (by decide), fun wl hwl => ?_⟩
  have exw : x ≠ wl := fun z => by
    rw [← z, upd_same] at hwl
    cases hwl
  refine ⟨_, rfl, x, C, dx, _, rfl, (upd_ne exw).trans upd_same, T.c_Line.cl, T.n_words, (by repeat (first | refine put_lt0 ?_ | refine put_lt ?_ | (show _ < _; decide))), ?_⟩
  refine ⟨_, rfl, x, C, dx, _, rfl, upd_same, T.c_Line.cl, T.n_read, (by repeat (first | refine put_lt0 ?_ | refine put_lt ?_ | (show _ < _; decide))), ?_⟩
  refine ⟨_, rfl, x, C, dx, _, rfl, upd_same, T.c_Line.cl, T.n_column, (by repeat (first | refine put_lt0 ?_ | refine put_lt ?_ | (show _ < _; decide))), ?_⟩
  have hwl0 : H wl = none := by
    rw [upd_ne exw.symm] at hwl
    exact hwl
  refine q _ (fun b o nb hb => ?_) ⟨⟨dx, n, wl, 1, ?_, ?_⟩, hok⟩
  · rw [upd_ne nb, upd_ne nb, upd_ne nb, upd_ne (ne_of_none hb hwl0), upd_ne nb]
    exact hb
  · rw [upd_same]
    unfold lnF
    repeat (first | rw [put_nil] | rw [put_miss (by decide +kernel)])
    rfl
  · rw [upd_ne exw.symm, upd_ne exw.symm, upd_ne exw.symm, upd_same, row_split hn hok]
def spHasMore (C : Addr) : Sp := fun vs H Q _ => ∃ (a : Addr) (ws : List Str) (r : Nat), vs = [.ref a] ∧ LnAt C H a ws r ∧ Q (.bl (decide (r < ws.length))) H
theorem d_has_more (T : TxtL K mg C) (A : MAt K C "has_more" "Line.has_more" s_Line_has_more ["self"]) : MDef P w K mg base CX0 1 C "has_more" ["self"] [] (spHasMore C) := by
  have B := T.B
  refine A.ok sc_Line_has_more (fun vs H Q E h => ?_) (fun f cdv A outer s H vs Q E hr h => ?_)
  · obtain ⟨a, ws, r, rfl, _⟩ := h
    rfl
  obtain ⟨a, ws, r, rfl, hL, q⟩ := h
  obtain ⟨dx, n, wl, c, h1, h2⟩ := hL.ex
  refine ⟨_, pss_one (ps_ret (pe_cmpR op_lt (pe_fld (pv 0) rfl) (pe_callB (call_len_seq) (by rfl) B.len (by decide +kernel) (pa_cons (pe_fld (pv 0) rfl) pa_nil)) (nomark _)))
    , ?_⟩
  refine ⟨_, rfl, a, C, dx, _, _, rfl, h1, T.c_Line.cl, T.n_read, lnF_read, _, rfl, a, C, dx, _, _, rfl, h1, T.c_Line.cl, T.n_words, lnF_words, wl, _, rfl, .inl (SqL.of h2), _, _, rfl, rfl, ?_⟩
  have e : decide ((r : Int) < (((ws.map V.str).length : Nat) : Int)) = decide (r < ws.length) := by
    rw [List.length_map]
    exact decide_eq_decide.mpr (by omega)
  show Q (.bl (decide ((r : Int) < (((ws.map V.str).length : Nat) : Int)))) H
  rw [e]
  exact q
def spDue (C : Addr) : Sp := fun vs H Q _ => ∃ (a : Addr) (ws : List Str) (r : Nat) (u : Str), vs = [.ref a] ∧ LnAt C H a ws r ∧ ws[r]? = some u ∧ Q (.str u) H
theorem d_due (T : TxtL K mg C) (D_Line_has_more : MDef P w K mg base CX0 1 C "has_more" ["self"] [] (spHasMore C)) (A : MAt K C "due" "Line.due" s_Line_due ["self"]) : MDef P w K mg base CX0 2 C "due" ["self"] [] (spDue C) := by
  have B := T.B
  refine A.ok sc_Line_due (fun vs H Q E h => ?_) (fun f cdv A outer s H vs Q E hr h => ?_)
  · obtain ⟨a, ws, r, u, rfl, _⟩ := h
    rfl
  obtain ⟨a, ws, r, u, rfl, hL, hu, q⟩ := h
  obtain ⟨dx, n, wl, c, h1, h2⟩ := hL.ex
  have hr' : r < ws.length := (List.getElem?_eq_some_iff.mp hu).1
  refine ⟨_, pss_cons (ps_if (pt_not (pt_val (pe_m0 D_Line_has_more T.c_Line.cl (hr.mono (by omega)) pass0 (pv 0))))
      (pss_one (ps_never))
      (pss_nil))
  (pss_cons (ps_set (i := 1) sc_Line_due.nd rfl (Or.inl rfl) (pe_ix ix_list (pe_fld (pv 0) rfl) (pe_fld (pv 0) rfl) (fun _ _ => rfl)))
  (pss_cons (ps_if (pt_cmpR op_eq (pv 1) pe_str (nomark _))
      (pss_one (ps_never))
      (pss_nil))
  (pss_one (ps_ret (pv 1)))))
    , ?_⟩
  refine ⟨_, rfl, a, dx, _, rfl, h1, lnF_no (by decide +kernel) (by decide +kernel) (by decide +kernel) (by decide +kernel), a, ws, r, rfl, hL, _, rfl, iteF' (by rw [decide_eq_true hr']; rfl) ?_⟩
  refine ⟨_, rfl, a, C, dx, _, _, rfl, h1, T.c_Line.cl, T.n_words, lnF_words, _, rfl, a, C, dx, _, _, rfl, h1, T.c_Line.cl, T.n_read, lnF_read, wl, _, _, _, rfl, rfl, SqL.of h2, map_at hu, ?_⟩
  refine ⟨_, rfl, rfl, _, rfl, iteF' (decide_eq_false fun z => wd_ne (hL.ok u (List.mem_of_getElem? hu)) (V.str.inj z)) ?_⟩
  exact ⟨_, rfl, q⟩
def spStep (C : Addr) : Sp := fun vs H Q _ => ∃ (a : Addr) (ws : List Str) (r : Nat), vs = [.ref a] ∧ LnAt C H a ws r ∧ r < ws.length ∧ ∀ H', SameX a H H' → LnAt C H' a ws (r + 1) → Q .non H'
theorem d_step (T : TxtL K mg C) (A : MAt K C "step" "Line.step" s_Line_step ["self"]) : MDef P w K mg base CX0 1 C "step" ["self"] [] (spStep C) := by
  have B := T.B
  refine A.ok sc_Line_step (fun vs H Q E h => ?_) (fun f cdv A outer s H vs Q E hr h => ?_)
  · obtain ⟨a, ws, r, rfl, _⟩ := h
    rfl
  obtain ⟨a, ws, r, rfl, hL, hr', q⟩ := h
  obtain ⟨dx, n, wl, c, h1, h2⟩ := hL.ex
  have hu : ws[r]? = some ws[r] := List.getElem?_eq_getElem hr'
  have ea : wl ≠ a := ne_of h2 h1 (fun z => nomatch z)
  have hw := wd_len (hL.ok _ (List.getElem_mem hr'))
  refine ⟨_, pss_cons (ps_fldaug (pv 0) (pe_op op_add (pe_callB (call_len_str) (by rfl) B.len (by decide +kernel) (pa_cons (pe_ix ix_list (pe_fld (pv 0) rfl) (pe_fld (pv 0) rfl) (fun _ _ => rfl)) pa_nil)) pe_int) in_add)
  (pss_one (ps_fldaug (pv 0) pe_int in_add))
    , ?_⟩
  refine ⟨_, rfl, a, C, dx, _, _, rfl, h1, T.c_Line.cl, T.n_column, lnF_column, _, rfl, a, C, dx, _, _, rfl, h1, T.c_Line.cl, T.n_words, lnF_words, _, rfl, a, C, dx, _, _, rfl, h1, T.c_Line.cl, T.n_read, lnF_read, wl, _, _, _, rfl, rfl, SqL.of h2, map_at hu, ?_⟩
  refine ⟨_, rfl, Nat.le_trans hw (by decide), _, _, rfl, rfl, _, _, rfl, rfl, dx, _, h1, (by show 4 < 1000; decide), ?_⟩
  rw [lnF_put_column]
  refine ⟨_, rfl, a, C, dx, _, _, rfl, upd_same, T.c_Line.cl, T.n_read, lnF_read, _, _, rfl, rfl, dx, _, upd_same, (by show 4 < 1000; decide), ?_⟩
  rw [show ((r : Int) + 1) = ((r + 1 : Nat) : Int) by omega, lnF_put_read, upd_upd]
  exact q _ SameX.upd ⟨⟨dx, n, wl, _, upd_same, by rw [upd_ne ea]; exact h2⟩, hL.ok⟩
def spChoice (K : PySem.W.Frag) (C : Addr) : Sp := fun vs H Q _ => ∃ (a : Addr) (ws : List Str) (r : Nat) (t : Addr) (cs : List Str) (u : Str), vs = [.ref a, .ref t] ∧ LnAt C H a ws r ∧ SqT K H t (cs.map V.str) ∧ ws[r]? = some u ∧ u ∈ cs ∧
  ∀ H', SameX a H H' → LnAt C H' a ws (r + 1) → Q (.str u) H'
theorem inV_str {u : Str} {cs : List Str} : inV (.str u) (cs.map V.str) = decide (u ∈ cs) := by
  unfold inV
  rw [List.any_map]
  induction cs with
  | nil => rfl
  | cons c r ih =>
    rw [List.any_cons, ih]
    show (decide (c = u) || decide (u ∈ r)) = decide (u ∈ c :: r)
    rw [← Bool.decide_or]
    refine decide_eq_decide.mpr ⟨fun z => ?_, fun z => ?_⟩
    · rcases z with z | z
      · rw [z]; exact List.mem_cons_self
      · exact List.mem_cons_of_mem _ z
    · rcases List.mem_cons.mp z with z | z
      · exact .inl z.symm
      · exact .inr z
theorem flat_strs {cs : List Str} : (cs.map V.str).all flatV = true := by
  rw [List.all_map]
  exact List.all_eq_true.mpr fun _ _ => rfl
theorem d_read_choice (T : TxtL K mg C) (D_Line_due : MDef P w K mg base CX0 2 C "due" ["self"] [] (spDue C)) (D_Line_step : MDef P w K mg base CX0 1 C "step" ["self"] [] (spStep C))
    (A : MAt K C "read_choice" "Line.read_choice" s_Line_read_choice ["self", "choices"]) : MDef P w K mg base CX0 3 C "read_choice" ["self", "choices"] [] (spChoice K C) := by
  have B := T.B
  refine A.ok sc_Line_read_choice (fun vs H Q E h => ?_) (fun f cdv A outer s H vs Q E hr h => ?_)
  · obtain ⟨a, ws, r, t, cs, u, rfl, _⟩ := h
    rfl
  obtain ⟨a, ws, r, t, cs, u, rfl, hL, hT, hu, hc, q⟩ := h
  obtain ⟨dx, n, wl, c, h1, h2⟩ := hL.ex
  have hr' : r < ws.length := (List.getElem?_eq_some_iff.mp hu).1
  have no : ∀ {m : Str}, (m == ("number" : Str)) = false → (m == ("words" : Str)) = false → (m == ("read" : Str)) = false → (m == ("column" : Str)) = false → (lnF n wl r c).lookup m = none := fun z1 z2 z3 z4 => lnF_no z1 z2 z3 z4
  refine ⟨_, pss_cons (ps_set (i := 2) sc_Line_read_choice.nd rfl (Or.inl rfl) (pe_m0 D_Line_due T.c_Line.cl (hr.mono (by omega)) pass0 (pv 0)))
  (pss_cons (ps_if (pt_cmpR op_notIn_seq (pv 2) (pv 1) (by rfl))
      (pss_one (ps_never))
      (pss_nil))
  (pss_cons (ps_expr (pe_m0 D_Line_step T.c_Line.cl (hr.mono (by omega)) pass0 (pv 0)))
  (pss_one (ps_ret (pv 2)))))
    , ?_⟩
  refine ⟨_, rfl, a, dx, _, rfl, h1, no (by decide +kernel) (by decide +kernel) (by decide +kernel) (by decide +kernel), a, ws, r, u, rfl, hL, hu, ?_⟩
  refine ⟨_, rfl, _, rfl, t, _, rfl, .inr hT, rfl, flat_strs, _, rfl, iteF' (by rw [inV_str, decide_eq_true hc]; rfl) ?_⟩
  refine ⟨_, rfl, a, dx, _, rfl, h1, no (by decide +kernel) (by decide +kernel) (by decide +kernel) (by decide +kernel), a, ws, r, rfl, hL, hr', fun H' s' L' => ?_⟩
  exact ⟨_, rfl, q H' s' L'⟩
/-- a number's text -/
theorem dig_in {c : Nat} (h : 48 ≤ c ∧ c ≤ 57) : c ∈ ("0123456789" : Str).cps.toList := by
  have all : ∀ d, d < 58 → 48 ≤ d → d ∈ ("0123456789" : Str).cps.toList := by decide +kernel
  exact all c (by omega) h.1
def spIsNum : Sp := fun vs H Q _ => ∃ n : Int, vs = [.str (num n)] ∧ 0 ≤ n ∧ n < 10000000 ∧ ∀ H', Same H H' → Q (.bl true) H'
theorem str1_inj {a b : Nat} (h : (⟨#[a]⟩ : Str) = ⟨#[b]⟩) : a = b := by
  injection h with h
  injection h with h
  injection h
theorem d_is_number (T : TxtL K mg C) (A : At K mg "is_number" s_is_number ["word"]) : DefOk P w K mg base CX0 1 "is_number" ["word"] spIsNum := by
  have B := T.B
  refine A.ok sc_is_number (fun vs H Q E h => ?_) (fun f cdv A outer s H vs Q E hr h => ?_)
  · obtain ⟨n, rfl, _⟩ := h
    rfl
  obtain ⟨n, rfl, h0, h1, q⟩ := h
  refine ⟨_, pss_cons (ps_if (PW.pt (pw_or (pt_cmpR op_gt (pe_callB (call_len_str) (by rfl) B.len (by decide +kernel) (pa_cons (pv 0) pa_nil)) (pe_gi T.g_MOST_DIGITS) (nomark _)) (pw_or1 (PW.pt (pw_and (pt_cmpR op_eq (pe_ix ix_str (pv 0) pe_int (fun _ _ => rfl)) pe_str (nomark _)) (pw_and1 (pt_cmpR op_ne (pv 0) pe_str (nomark _))))))))
      (pss_one (ps_ret pe_bl))
      (pss_nil))
  (pss_one (ps_ret (pe_callB (cr_all rfl) (by rfl) B.all (by decide +kernel) (pa_cons (pe_lc (own := [("letter", 1)])  rfl sc_is_number.nd (pi_str (pv 0)) (blkOk_by (own := [("letter", 1)]) (N := ["word", "letter"]) (sc := defScope s_is_number) (by decide +kernel)) (fun _ _ _ _ _ => pg_name (i := 1) sc_is_number.nd rfl (Or.inl rfl)) (fun _ _ _ _ _ => pts_nil) (fun _ _ _ _ _ => (pe_cmpR op_in_sign (pv 1) (pe_gs T.g_DIGITS) (by rfl)))) pa_nil))))
    , ?_⟩
  have htl := num_nat h0
  have hlen : (num n).length ≤ 7 := by
    rw [TL.len_tl, show TL.tl (num n) = tl (num n) from rfl, htl]
    exact numL_len7 (by omega)
  cases hq : TL.numL n.toNat with
  | nil => exact absurd hq (TL.numL_ne _)
  | cons d ds =>
  have hd : atI (num n).cps.toList 0 = some d := by
    show atI (tl (num n)) 0 = some d
    rw [htl, hq]
    exact atI_nat (j := 0) rfl
  have all : ∀ c ∈ tl (num n), 48 ≤ c ∧ c ≤ 57 := fun c hc => by
    rw [htl] at hc
    exact TL.numL_digits _ c hc
  refine ⟨_, rfl, _, rfl, Nat.le_trans hlen (by decide), _, _, rfl, rfl, _, rfl, iteF' (decide_eq_false (by omega)) ?_⟩
  refine ⟨_, rfl, _, _, d, rfl, rfl, Nat.le_trans hlen (by decide), hd, rfl, _, rfl, ite2 (fun c => ?_) (fun c => ?_)⟩
  · -- a leading 0: it is 0
    have e0 : (⟨#[d]⟩ : Str) = Str.ofString "0" := V.str.inj (of_decide_eq_true c)
    have e1 : (Str.ofString "0" : Str) = ⟨#[48]⟩ := by decide +kernel
    have ed : d = 48 := str1_inj (e0.trans e1)
    have en : n.toNat = 0 := numL_head ds (by rw [hq, ed])
    have en2 : n = 0 := by omega
    subst en2
    refine ⟨_, rfl, rfl, _, rfl, iteF' (by rw [decide_eq_true (show (V.str (num 0) = V.str (Str.ofString "0")) from by decide +kernel)]; rfl) ?_⟩
    refine ⟨_, rfl, _, rfl, fun D hD => lc_it (walk_str) (fun i H' => Same H H' ∧ H' D = some (.lst ((List.replicate i true).map V.bl))) ⟨same_new hD _, upd_same⟩ (fun _ _ _ _ => True.intro) (fun i x H1 H2 hi hI hy => ?_) (fun H1 hI => ?_)⟩
    · obtain ⟨rfl, ch, hch, rfl⟩ := hy
      obtain ⟨hs, hDD⟩ := hI
      have hcm : ch ∈ tl (num 0) := by
        have : (num 0).cps.toList[i]? = some ch := by rw [Array.getElem?_toList]; exact hch
        exact List.mem_of_getElem? this
      refine ⟨rfl, _, rfl, ch, _, rfl, rfl, _, hDD, ?_, same_at hD hs _, ?_⟩
      · rw [List.length_map, List.length_replicate]
        have : (num 0).cps.size ≤ 7 := hlen
        exact small1000 (by (clear T B hr q c e0 e1 ed h0 h1 htl hlen hq hd all en hD hch hs hDD hcm; omega))
      · rw [upd_same, List.replicate_succ', List.map_append, decide_eq_true (dig_in (all ch hcm))]
        rfl
    · obtain ⟨hs, hDD⟩ := hI
      refine ⟨D, _, rfl, SqL.of hDD, ?_⟩
      rw [show (List.replicate (num 0).cps.size true).all id = true from List.all_eq_true.mpr fun b hb => by rw [List.eq_of_mem_replicate hb]; rfl]
      exact q H1 hs
  · refine iteF ?_
    refine ⟨_, rfl, _, rfl, fun D hD => lc_it (walk_str) (fun i H' => Same H H' ∧ H' D = some (.lst ((List.replicate i true).map V.bl))) ⟨same_new hD _, upd_same⟩ (fun _ _ _ _ => True.intro) (fun i x H1 H2 hi hI hy => ?_) (fun H1 hI => ?_)⟩
    · obtain ⟨rfl, ch, hch, rfl⟩ := hy
      obtain ⟨hs, hDD⟩ := hI
      have hcm : ch ∈ tl (num n) := by
        have : (num n).cps.toList[i]? = some ch := by rw [Array.getElem?_toList]; exact hch
        exact List.mem_of_getElem? this
      refine ⟨rfl, _, rfl, ch, _, rfl, rfl, _, hDD, ?_, same_at hD hs _, ?_⟩
      · rw [List.length_map, List.length_replicate]
        have : (num n).cps.size ≤ 7 := hlen
        exact small1000 (by (clear T B hr h0 h1 q htl hlen hq hd all c hD hch hs hDD hcm; omega))
      · rw [upd_same, List.replicate_succ', List.map_append, decide_eq_true (dig_in (all ch hcm))]
        rfl
    · obtain ⟨hs, hDD⟩ := hI
      refine ⟨D, _, rfl, SqL.of hDD, ?_⟩
      rw [show (List.replicate (num n).cps.size true).all id = true from List.all_eq_true.mpr fun b hb => by rw [List.eq_of_mem_replicate hb]; rfl]
      exact q H1 hs
def spNumber (C : Addr) : Sp := fun vs H Q _ => ∃ (a : Addr) (ws : List Str) (r : Nat) (lo hi n : Int), vs = [.ref a, .int lo, .int hi] ∧ LnAt C H a ws r ∧ ws[r]? = some (num n) ∧ 0 ≤ n ∧ n < 10000000 ∧ lo ≤ n ∧ n ≤ hi ∧
  ∀ H', SameX a H H' → LnAt C H' a ws (r + 1) → Q (.int n) H'
theorem int_of_num {n : Int} (h0 : 0 ≤ n) (h1 : n < 10000000) : PySem.intText? (num n) = some n ∧ (num n).length ≤ 640 := by
  have e : n = ((n.toNat : Nat) : Int) := by omega
  have hl := numL_len7 (n := n.toNat) (by omega)
  refine ⟨?_, ?_⟩
  · have h := TL.int_num (n := n.toNat) (Nat.le_trans hl (by decide))
    rw [← e] at h
    exact h
  · rw [TL.len_tl, show TL.tl (num n) = tl (num n) from rfl, num_nat h0]
    (clear h0 h1 e; omega)
theorem d_read_number (T : TxtL K mg C) (D_is_number : DefOk P w K mg base CX0 1 "is_number" ["word"] spIsNum) (D_Line_due : MDef P w K mg base CX0 2 C "due" ["self"] [] (spDue C)) (D_Line_step : MDef P w K mg base CX0 1 C "step" ["self"] [] (spStep C))
    (A : MAt K C "read_number" "Line.read_number" s_Line_read_number ["self", "least", "most"]) : MDef P w K mg base CX0 3 C "read_number" ["self", "least", "most"] [] (spNumber C) := by
  have B := T.B
  refine A.ok sc_Line_read_number (fun vs H Q E h => ?_) (fun f cdv A outer s H vs Q E hr h => ?_)
  · obtain ⟨a, ws, r, lo, hi, n, rfl, _⟩ := h
    rfl
  obtain ⟨a, ws, r, lo, hi, n, rfl, hL, hu, h0, hm, hlo, hhi, q⟩ := h
  obtain ⟨dx, nn, wl, c, h1, h2⟩ := hL.ex
  have hr' : r < ws.length := (List.getElem?_eq_some_iff.mp hu).1
  refine ⟨_, pss_cons (ps_set (i := 3) sc_Line_read_number.nd rfl (Or.inl rfl) (pe_m0 D_Line_due T.c_Line.cl (hr.mono (by omega)) pass0 (pv 0)))
  (pss_cons (ps_if (pt_not (pt_val (pe_f D_is_number (hr.mono (by omega)) pass0 (pa_cons (pv 3) pa_nil))))
      (pss_one (ps_never))
      (pss_nil))
  (pss_cons (ps_set (i := 4) sc_Line_read_number.nd rfl (Or.inl rfl) (pe_callTy (call_int_str) (by rfl) B.int (by decide +kernel) (pa_cons (pv 3) pa_nil)))
  (pss_cons (ps_if (PW.pt (pw_or (pt_cmpR op_lt (pv 4) (pv 1) (nomark _)) (pw_or1 (pt_cmpR op_gt (pv 4) (pv 2) (nomark _)))))
      (pss_one (ps_never))
      (pss_nil))
  (pss_cons (ps_expr (pe_m0 D_Line_step T.c_Line.cl (hr.mono (by omega)) pass0 (pv 0)))
  (pss_one (ps_ret (pv 4)))))))
    , ?_⟩
  refine ⟨_, rfl, a, dx, _, rfl, h1, lnF_no (by decide +kernel) (by decide +kernel) (by decide +kernel) (by decide +kernel), a, ws, r, _, rfl, hL, hu, ?_⟩
  refine ⟨_, rfl, n, rfl, h0, hm, fun H1 s1 => ⟨_, rfl, iteF ?_⟩⟩
  obtain ⟨i1, i2⟩ := int_of_num h0 hm
  refine ⟨_, rfl, _, n, rfl, i1, i2, ?_⟩
  refine ⟨_, rfl, _, rfl, _, _, rfl, rfl, _, rfl, iteF' (decide_eq_false (by omega)) ?_⟩
  refine ⟨_, rfl, _, rfl, _, _, rfl, rfl, _, rfl, iteF' (decide_eq_false (by omega)) ?_⟩
  refine ⟨_, rfl, a, dx, _, rfl, s1 _ _ h1, lnF_no (by decide +kernel) (by decide +kernel) (by decide +kernel) (by decide +kernel), a, ws, r, rfl, hL.same s1, hr', fun H' s' L' => ?_⟩
  exact ⟨_, rfl, q H' ((SameX.of s1).trans s') L'⟩
def spField (C : Addr) : Sp := fun vs H Q _ => ∃ (a : Addr) (ws : List Str) (r : Nat) (u : Str) (lo hi n : Int), vs = [.ref a, .str u, .int lo, .int hi] ∧ LnAt C H a ws r ∧ ws[r]? = some u ∧ ws[r + 1]? = some (num n) ∧ 0 ≤ n ∧ n < 10000000 ∧ lo ≤ n ∧ n ≤ hi ∧
  ∀ H', SameX a H H' → LnAt C H' a ws (r + 2) → Q (.int n) H'
theorem d_read_field (T : TxtL K mg C) (D_Line_read_choice : MDef P w K mg base CX0 3 C "read_choice" ["self", "choices"] [] (spChoice K C)) (D_Line_read_number : MDef P w K mg base CX0 3 C "read_number" ["self", "least", "most"] [] (spNumber C))
    (A : MAt K C "read_field" "Line.read_field" s_Line_read_field ["self", "word", "least", "most"]) : MDef P w K mg base CX0 4 C "read_field" ["self", "word", "least", "most"] [] (spField C) := by
  have B := T.B
  refine A.ok sc_Line_read_field (fun vs H Q E h => ?_) (fun f cdv A outer s H vs Q E hr h => ?_)
  · obtain ⟨a, ws, r, u, lo, hi, n, rfl, _⟩ := h
    rfl
  obtain ⟨a, ws, r, u, lo, hi, n, rfl, hL, hu, hn, h0, hm, hlo, hhi, q⟩ := h
  obtain ⟨dx, nn, wl, c, h1, h2⟩ := hL.ex
  refine ⟨_, pss_cons (ps_expr (pe_m D_Line_read_choice T.c_Line.cl (hr.mono (by omega)) pass0 (pv 0) (pa_cons (pe_tup (pa_cons (pv 1) pa_nil)) pa_nil)))
  (pss_one (ps_ret (pe_m D_Line_read_number T.c_Line.cl (hr.mono (by omega)) pass0 (pv 0) (pa_cons (pv 2) (pa_cons (pv 3) pa_nil)))))
    , ?_⟩
  refine ⟨_, rfl, a, dx, _, rfl, h1, lnF_no (by decide +kernel) (by decide +kernel) (by decide +kernel) (by decide +kernel), _, rfl, (by show 1 ≤ sizeLine; decide), fun t ht => ?_⟩
  have s1 : Same H (upd H t (.tup [.str u])) := same_new ht _
  refine ⟨a, ws, r, t, [u], u, rfl, hL.same s1, SqT.of upd_same, hu, List.mem_cons_self, fun H2 s2 L2 => ?_⟩
  obtain ⟨dx2, n2, wl2, c2, g1, g2⟩ := L2.ex
  refine ⟨_, rfl, a, dx2, _, rfl, g1, lnF_no (by decide +kernel) (by decide +kernel) (by decide +kernel) (by decide +kernel), _, rfl, _, rfl, a, ws, r + 1, lo, hi, n, rfl, L2, hn, h0, hm, hlo, hhi, fun H3 s3 L3 => ?_⟩
  exact q H3 (((SameX.of s1).trans s2).trans s3) L3
/-- a name's text -/
theorem let_in {c : Nat} (h : isL c = true) : c ∈ ("abcdefghijklmnopqrstuvwxyzABCDEFGHIJKLMNOPQRSTUVWXYZ" : Str).cps.toList := by
  have all : ∀ d, d < 123 → isL d = true → d ∈ ("abcdefghijklmnopqrstuvwxyzABCDEFGHIJKLMNOPQRSTUVWXYZ" : Str).cps.toList := by decide +kernel
  exact all c (by have := isL_lt h; omega) h
def spIsName : Sp := fun vs H Q _ => ∃ u : Str, vs = [.str u] ∧ NameOk u ∧ ∀ H', Same H H' → Q (.bl true) H'
theorem d_is_name (T : TxtL K mg C) (A : At K mg "is_name" s_is_name ["word"]) : DefOk P w K mg base CX0 1 "is_name" ["word"] spIsName := by
  have B := T.B
  refine A.ok sc_is_name (fun vs H Q E h => ?_) (fun f cdv A outer s H vs Q E hr h => ?_)
  · obtain ⟨u, rfl, _⟩ := h
    rfl
  obtain ⟨u, rfl, hu, q⟩ := h
  refine ⟨_, pss_cons (ps_if (PW.pt (pw_or (pt_cmpR op_gt (pe_callB (call_len_str) (by rfl) B.len (by decide +kernel) (pa_cons (pv 0) pa_nil)) (pe_gi T.g_MOST_NAME) (nomark _)) (pw_or1 (pt_cmpR op_notIn_sign (pe_ix ix_str (pv 0) pe_int (fun _ _ => rfl)) (pe_gs T.g_LETTERS) (by rfl)))))
      (pss_one (ps_ret pe_bl))
      (pss_nil))
  (pss_one (ps_ret (pe_callB (cr_all rfl) (by rfl) B.all (by decide +kernel) (pa_cons (pe_lc (own := [("letter", 1)])  rfl sc_is_name.nd (pi_str (pv 0)) (blkOk_by (own := [("letter", 1)]) (N := ["word", "letter"]) (sc := defScope s_is_name) (by decide +kernel)) (fun _ _ _ _ _ => pg_name (i := 1) sc_is_name.nd rfl (Or.inl rfl)) (fun _ _ _ _ _ => pts_nil) (fun _ _ _ _ _ => (pe_or (pe_cmpR op_in_sign (pv 1) (pe_gs T.g_LETTERS) (by rfl)) (pe_one (pe_cmpR op_in_sign (pv 1) (pe_gs T.g_DIGITS) (by rfl)))))) pa_nil))))
    , ?_⟩
  have signs := hu.signs
  obtain ⟨d, ds, e, hd, _, hl⟩ := hu
  have hlen : u.length ≤ 15 := by
    rw [TL.len_tl, show TL.tl u = tl u from rfl, e, List.length_cons]
    omega
  have hat : atI u.cps.toList 0 = some d := by
    show atI (tl u) 0 = some d
    rw [e]
    exact atI_nat (j := 0) rfl
  refine ⟨_, rfl, _, rfl, Nat.le_trans hlen (by decide), _, _, rfl, rfl, _, rfl, iteF' (decide_eq_false (by omega)) ?_⟩
  refine ⟨_, rfl, _, _, d, rfl, rfl, Nat.le_trans hlen (by decide), hat, d, _, rfl, rfl, _, rfl, iteF' (by rw [decide_eq_true (let_in hd)]; rfl) ?_⟩
  refine ⟨_, rfl, _, rfl, fun D hD => lc_it (walk_str) (fun i H' => Same H H' ∧ H' D = some (.lst ((List.replicate i true).map V.bl))) ⟨same_new hD _, upd_same⟩ (fun _ _ _ _ => True.intro) (fun i x H1 H2 hi hI hy => ?_) (fun H1 hI => ?_)⟩
  · obtain ⟨rfl, ch, hch, rfl⟩ := hy
    obtain ⟨hs, hDD⟩ := hI
    have hcm : ch ∈ tl u := by
      have : u.cps.toList[i]? = some ch := by rw [Array.getElem?_toList]; exact hch
      exact List.mem_of_getElem? this
    have room : ((List.replicate i true).map V.bl).length < sizeLine := by
      rw [List.length_map, List.length_replicate]
      have : u.cps.size ≤ 15 := hlen
      exact small1000 (by (clear T B hr q signs e hd hl hlen hat hD hch hs hDD hcm; omega))
    refine ⟨rfl, _, rfl, ch, _, rfl, rfl, _, rfl, ite2 (fun c => ?_) (fun c => ?_)⟩
    · refine ⟨_, hDD, room, same_at hD hs _, ?_⟩
      rw [upd_same, List.replicate_succ', List.map_append]
      rfl
    · have c' : ¬ ch ∈ ("abcdefghijklmnopqrstuvwxyzABCDEFGHIJKLMNOPQRSTUVWXYZ" : Str).cps.toList := fun z => c (decide_eq_true z)
      have hdg : isD ch = true := by
        rcases Bool.or_eq_true _ _ ▸ (signs ch hcm) with z | z
        · exact absurd (let_in z) c'
        · exact z
      refine ⟨_, rfl, ch, _, rfl, rfl, _, hDD, room, same_at hD hs _, ?_⟩
      rw [upd_same, List.replicate_succ', List.map_append, decide_eq_true (dig_in (isD_lt hdg))]
      rfl
  · obtain ⟨hs, hDD⟩ := hI
    refine ⟨D, _, rfl, SqL.of hDD, ?_⟩
    rw [show (List.replicate u.cps.size true).all id = true from List.all_eq_true.mpr fun b hb => by rw [List.eq_of_mem_replicate hb]; rfl]
    exact q H1 hs
def spDueName (C : Addr) : Sp := fun vs H Q _ => ∃ (a : Addr) (ws : List Str) (r : Nat) (u : Str), vs = [.ref a] ∧ LnAt C H a ws r ∧ ws[r]? = some u ∧ NameOk u ∧ ∀ H', Same H H' → Q (.str u) H'
theorem d_due_name (T : TxtL K mg C) (D_is_name : DefOk P w K mg base CX0 1 "is_name" ["word"] spIsName) (D_Line_due : MDef P w K mg base CX0 2 C "due" ["self"] [] (spDue C))
    (A : MAt K C "due_name" "Line.due_name" s_Line_due_name ["self"]) : MDef P w K mg base CX0 3 C "due_name" ["self"] [] (spDueName C) := by
  have B := T.B
  refine A.ok sc_Line_due_name (fun vs H Q E h => ?_) (fun f cdv A outer s H vs Q E hr h => ?_)
  · obtain ⟨a, ws, r, u, rfl, _⟩ := h
    rfl
  obtain ⟨a, ws, r, u, rfl, hL, hu, hn, q⟩ := h
  obtain ⟨dx, nn, wl, c, h1, h2⟩ := hL.ex
  refine ⟨_, pss_cons (ps_set (i := 1) sc_Line_due_name.nd rfl (Or.inl rfl) (pe_m0 D_Line_due T.c_Line.cl (hr.mono (by omega)) pass0 (pv 0)))
  (pss_cons (ps_if (pt_not (pt_val (pe_f D_is_name (hr.mono (by omega)) pass0 (pa_cons (pv 1) pa_nil))))
      (pss_one (ps_never))
      (pss_nil))
  (pss_one (ps_ret (pv 1))))
    , ?_⟩
  refine ⟨_, rfl, a, dx, _, rfl, h1, lnF_no (by decide +kernel) (by decide +kernel) (by decide +kernel) (by decide +kernel), a, ws, r, _, rfl, hL, hu, ?_⟩
  exact ⟨_, rfl, u, rfl, hn, fun H1 s1 => ⟨_, rfl, iteF ⟨_, rfl, q H1 s1⟩⟩⟩
def spNewName (K : PySem.W.Frag) (C : Addr) : Sp := fun vs H Q _ => ∃ (a : Addr) (ws : List Str) (r : Nat) (p : Addr) (ns : List Str) (u : Str), vs = [.ref a, .ref p] ∧ LnAt C H a ws r ∧ SqL K H p (ns.map V.str) ∧ ws[r]? = some u ∧ NameOk u ∧ u ∉ ns ∧
  ∀ H', SameX a H H' → LnAt C H' a ws (r + 1) → Q (.str u) H'
theorem d_read_new_name (T : TxtL K mg C) (D_Line_due_name : MDef P w K mg base CX0 3 C "due_name" ["self"] [] (spDueName C)) (D_Line_step : MDef P w K mg base CX0 1 C "step" ["self"] [] (spStep C))
    (A : MAt K C "read_new_name" "Line.read_new_name" s_Line_read_new_name ["self", "used"]) : MDef P w K mg base CX0 4 C "read_new_name" ["self", "used"] [] (spNewName K C) := by
  have B := T.B
  refine A.ok sc_Line_read_new_name (fun vs H Q E h => ?_) (fun f cdv A outer s H vs Q E hr h => ?_)
  · obtain ⟨a, ws, r, p, ns, u, rfl, _⟩ := h
    rfl
  obtain ⟨a, ws, r, p, ns, u, rfl, hL, hP, hu, hn, hno, q⟩ := h
  obtain ⟨dx, nn, wl, c, h1, h2⟩ := hL.ex
  have hr' : r < ws.length := (List.getElem?_eq_some_iff.mp hu).1
  refine ⟨_, pss_cons (ps_set (i := 2) sc_Line_read_new_name.nd rfl (Or.inl rfl) (pe_m0 D_Line_due_name T.c_Line.cl (hr.mono (by omega)) pass0 (pv 0)))
  (pss_cons (ps_if (pt_cmpR op_in_seq (pv 2) (pv 1) (by rfl))
      (pss_one (ps_never))
      (pss_nil))
  (pss_cons (ps_expr (pe_m0 D_Line_step T.c_Line.cl (hr.mono (by omega)) pass0 (pv 0)))
  (pss_one (ps_ret (pv 2)))))
    , ?_⟩
  refine ⟨_, rfl, a, dx, _, rfl, h1, lnF_no (by decide +kernel) (by decide +kernel) (by decide +kernel) (by decide +kernel), a, ws, r, _, rfl, hL, hu, hn, fun H1 s1 => ?_⟩
  refine ⟨_, rfl, _, rfl, p, _, rfl, .inl (s1.seq hP), rfl, flat_strs, _, rfl, iteF' (by rw [inV_str, decide_eq_false hno]; rfl) ?_⟩
  refine ⟨_, rfl, a, dx, _, rfl, s1 _ _ h1, lnF_no (by decide +kernel) (by decide +kernel) (by decide +kernel) (by decide +kernel), a, ws, r, rfl, hL.same s1, hr', fun H' s' L' => ?_⟩
  exact ⟨_, rfl, q H' ((SameX.of s1).trans s') L'⟩
/-- the name's first place, and no least one is asked -/
def spKnownName (K : PySem.W.Frag) (C : Addr) : Sp := fun vs H Q _ => ∃ (a : Addr) (ws : List Str) (r : Nat) (p : Addr) (ns : List Str) (u : Str) (j : Nat) (least : Int), vs = [.ref a, .ref p, .int least] ∧ LnAt C H a ws r ∧ SqL K H p (ns.map V.str) ∧ ws[r]? = some u ∧ NameOk u ∧
  ns[j]? = some u ∧ ns.Nodup ∧ least ≤ (j : Int) ∧ ∀ H', SameX a H H' → LnAt C H' a ws (r + 1) → Q (.int (j : Int)) H'
theorem nodup_first {ns : List Str} {u : Str} {j : Nat} (hd : ns.Nodup) (h : ns[j]? = some u) : ∀ (m : Nat) (z : V), m < j → (ns.map V.str)[m]? = some z → eqV z (.str u) = false := fun m z hm hz => by
  rw [List.getElem?_map] at hz
  cases e : ns[m]? with
  | none => rw [e] at hz; cases hz
  | some y =>
    rw [e] at hz
    have ez : V.str y = z := Option.some.inj hz
    rw [← ez]
    show decide (y = u) = false
    refine decide_eq_false fun q => ?_
    obtain ⟨h1, e1⟩ := List.getElem?_eq_some_iff.mp e
    obtain ⟨h2, e2⟩ := List.getElem?_eq_some_iff.mp h
    have := (List.getElem_inj hd).mp (e1.trans (q.trans e2.symm))
    omega
theorem read_known_body {f : Addr} {cdv : Value} {A : Around} {outer : List Env} {s : Shared} {H : Hp} {vs : List V} {Q : VK} {E : XK} (T : TxtL K mg C) (D_Line_due_name : MDef P w K mg base CX0 3 C "due_name" ["self"] [] (spDueName C)) (D_Line_step : MDef P w K mg base CX0 1 C "step" ["self"] [] (spStep C))
    (hr : Room 3 (A.deeper (envOfC "Line.read_known_name" (defScope s_Line_read_known_name) s.heap.objs.size f cdv))) (h : spKnownName K C vs H Q E) :
    ∃ t, PSs (cxOf CX0 P w K mg base ["self", "names", "least", "word", "number"] "Line.read_known_name" (defScope s_Line_read_known_name) f cdv A outer s H E).nox (defBody s_Line_read_known_name) t ∧ t { nx := fun _ H' => Q .non H', rt := Q } (start ["self", "names", "least", "word", "number"] vs) H := by
  have B := T.B
  obtain ⟨a, ws, r, p, ns, u, j, least, rfl, hL, hP, hu, hn, hj, hd, hle, q⟩ := h
  obtain ⟨dx, nn, wl, c, h1, h2⟩ := hL.ex
  have hr' : r < ws.length := (List.getElem?_eq_some_iff.mp hu).1
  have hm : u ∈ ns := List.mem_of_getElem? hj
  refine ⟨_, pss_cons (ps_set (i := 3) sc_Line_read_known_name.nd rfl (Or.inl rfl) (pe_m0 D_Line_due_name T.c_Line.cl (hr.mono (by omega)) pass0 (pv 0)))
  (pss_cons (ps_if (pt_cmpR op_notIn_seq (pv 3) (pv 1) (by rfl))
      (pss_one (ps_never))
      (pss_nil))
  (pss_cons (ps_set (i := 4) sc_Line_read_known_name.nd rfl (Or.inl rfl) (pe_bm PySem.F.plainAttrs_list PySem.F.slot_list_index PySem.F.type_list_index mt_index (pv 1) (pa_cons (pv 3) pa_nil)))
  (pss_cons (ps_if (pt_cmpR op_lt (pv 4) (pv 2) (nomark _))
      (pss_one (ps_never))
      (pss_nil))
  (pss_cons (ps_expr (pe_m0 D_Line_step T.c_Line.cl (hr.mono (by omega)) pass0 (pv 0)))
  (pss_one (ps_ret (pv 4)))))))
    , ?_⟩
  refine ⟨_, rfl, a, dx, _, rfl, h1, lnF_no (by decide +kernel) (by decide +kernel) (by decide +kernel) (by decide +kernel), a, ws, r, _, rfl, hL, hu, hn, fun H1 s1 => ?_⟩
  refine ⟨_, rfl, _, rfl, p, _, rfl, .inl (s1.seq hP), rfl, flat_strs, _, rfl, iteF' (by rw [inV_str, decide_eq_true hm]; rfl) ?_⟩
  refine ⟨_, rfl, .inl ⟨rfl, _, s1.seq hP⟩, _, rfl, p, _, _, j, .str u, rfl, rfl, s1.seq hP, rfl, flat_strs, by rw [List.getElem?_map, hj]; rfl, decide_eq_true rfl, nodup_first hd hj, ?_⟩
  refine ⟨_, rfl, _, rfl, _, _, rfl, rfl, _, rfl, iteF' (decide_eq_false (by omega)) ?_⟩
  refine ⟨_, rfl, a, dx, _, rfl, s1 _ _ h1, lnF_no (by decide +kernel) (by decide +kernel) (by decide +kernel) (by decide +kernel), a, ws, r, rfl, hL.same s1, hr', fun H' s' L' => ?_⟩
  exact ⟨_, rfl, q H' ((SameX.of s1).trans s') L'⟩
theorem d_read_known_name (T : TxtL K mg C) (D_Line_due_name : MDef P w K mg base CX0 3 C "due_name" ["self"] [] (spDueName C)) (D_Line_step : MDef P w K mg base CX0 1 C "step" ["self"] [] (spStep C))
    (A : MAtD K C "read_known_name" "Line.read_known_name" s_Line_read_known_name ["self", "names", "least"] [.int 0]) : MDef P w K mg base CX0 4 C "read_known_name" ["self", "names", "least"] [.int 0] (spKnownName K C) := by
  refine A.ok sc_Line_read_known_name (fun vs H Q E h => ?_) (fun f cdv A outer s H vs Q E hr h => read_known_body T D_Line_due_name D_Line_step hr h)
  obtain ⟨a, ws, r, p, ns, u, j, least, rfl, _⟩ := h
  rfl
def spFinish (C : Addr) : Sp := fun vs H Q _ => ∃ (a : Addr) (ws : List Str), vs = [.ref a] ∧ LnAt C H a ws ws.length ∧ Q .non H
theorem d_finish (T : TxtL K mg C) (D_Line_has_more : MDef P w K mg base CX0 1 C "has_more" ["self"] [] (spHasMore C)) (A : MAt K C "finish" "Line.finish" s_Line_finish ["self"]) : MDef P w K mg base CX0 3 C "finish" ["self"] [] (spFinish C) := by
  have B := T.B
  refine A.ok sc_Line_finish (fun vs H Q E h => ?_) (fun f cdv A outer s H vs Q E hr h => ?_)
  · obtain ⟨a, ws, rfl, _⟩ := h
    rfl
  obtain ⟨a, ws, rfl, hL, q⟩ := h
  obtain ⟨dx, nn, wl, c, h1, h2⟩ := hL.ex
  refine ⟨_, pss_one (ps_if (pt_val (pe_m0 D_Line_has_more T.c_Line.cl (hr.mono (by omega)) pass0 (pv 0)))
      (pss_cons (ps_never)
      (pss_one (ps_never)))
      (pss_nil))
    , ?_⟩
  exact ⟨_, rfl, a, dx, _, rfl, h1, lnF_no (by decide +kernel) (by decide +kernel) (by decide +kernel) (by decide +kernel), a, ws, _, rfl, hL, _, rfl, iteF' (decide_eq_false (Nat.lt_irrefl _)) q⟩
def spLines (C : Addr) : Sp := fun vs H Q _ => ∃ (lns : List (List Str)), vs = [.str (glue (lns.map row))] ∧ (∀ l ∈ lns, l ≠ [] ∧ (∀ x ∈ l, WdOk x) ∧ l.length ≤ 1015) ∧ lns.length ≤ 100 ∧ (glue (lns.map row)).length ≤ 1000000 ∧
  ∀ (p : Addr) (as : List Addr) (H' : Hp), Same H H' → H p = none → (∀ a ∈ as, H a = none) → as.Nodup → H' p = some (.lst (as.map V.ref)) → Paired (fun a l => LnAt C H' a l 0) as lns → Q (.ref p) H'
theorem d_lines_of (T : TxtL K mg C) (DI_Line : MDef P w K mg base CX0 1 C "__init__" ["self", "number", "row"] [] (spLnInit C)) (A : At K mg "lines_of" s_lines_of ["text"]) : DefOk P w K mg base CX0 3 "lines_of" ["text"] (spLines C) := by
  have B := T.B
  refine A.ok sc_lines_of (fun vs H Q E h => ?_) (fun f cdv A outer s H vs Q E hr h => ?_)
  · obtain ⟨lns, rfl, _⟩ := h
    rfl
  obtain ⟨lns, rfl, hl, hn, hz, q⟩ := h
  refine ⟨_, pss_cons (ps_set (i := 1) sc_lines_of.nd rfl (Or.inl rfl) (pe_split (pv 0) pe_str))
  (pss_cons (ps_set (i := 2) sc_lines_of.nd rfl (Or.inl rfl) (pe_bm0 PySem.F.plainAttrs_list PySem.F.slot_list_pop PySem.F.type_list_pop mt_pop (pv 1)))
  (pss_cons (ps_if (pt_cmpR op_ne (pv 2) pe_str (nomark _))
      (pss_one (ps_never))
      (pss_nil))
  (pss_one (ps_ret (pe_lc (own := [("number", 3), ("row", 4)])  rfl sc_lines_of.nd (pi_enumS (by rfl) B.enumerate (pa_cons (pv 1) pa_nil) (pk_cons pe_int pk_nil)) (blkOk_by (own := [("number", 3), ("row", 4)]) (N := ["text", "rows", "last", "number", "row"]) (sc := defScope s_lines_of) (by decide +kernel)) (fun _ _ _ _ _ => pg_tupK (K := K) (n := 2) rfl (by rfl) (pgs_cons (pg_name (i := 3) sc_lines_of.nd rfl (Or.inl rfl)) (pgs_cons (pg_name (i := 4) sc_lines_of.nd rfl (Or.inl rfl)) (pgs_nil)))) (fun _ _ _ _ _ => pts_nil) (fun _ _ _ _ _ => (pe_mk DI_Line T.c_Line (hr.mono (by omega)) pass0 (pa_cons (pv 3) (pa_cons (pv 4) pa_nil)))))))))
    , ?_⟩
  have hsplit : Txt.split (glue (lns.map row)) nl = lns.map row ++ [Str.empty] := glue_split fun r hr => by
    obtain ⟨l, hl', rfl⟩ := List.mem_map.mp hr
    exact row_free (hl l hl').2.1
  refine ⟨_, rfl, ⟨_, rfl⟩, _, nl, rfl, rfl, by decide +kernel, Nat.le_trans (Nat.add_le_add_right hz 2) (by decide), fun rl hrl => ?_⟩
  have e0 : upd H rl (.lst ((Txt.split (glue (lns.map row)) nl).map V.str)) = upd H rl (.lst ((lns.map row).map V.str ++ [.str Str.empty])) := by
    rw [hsplit, List.map_append]
    rfl
  rw [e0]
  refine ⟨_, rfl, .inl ⟨rfl, _, SqL.of upd_same⟩, rl, _, .str Str.empty, rfl, rfl, upd_same, by rw [List.length_append, List.length_singleton, Nat.add_sub_cancel, List.getElem?_append_right (Nat.le_refl _), Nat.sub_self]; rfl, ?_⟩
  rw [upd_upd, List.dropLast_concat]
  refine ⟨_, rfl, rfl, _, rfl, iteF' (by decide +kernel) ?_⟩
  refine ⟨_, rfl, _, _, 1, rfl, rfl, SqL.of upd_same, by decide, by decide, fun D hD => ?_⟩
  have hrlD : rl ≠ D := fun z => by
    rw [← z, upd_same] at hD
    cases hD
  have hD0 : H D = none := by
    rw [upd_ne hrlD.symm] at hD
    exact hD
  have sS : Same H (upd H rl (.lst ((lns.map row).map V.str))) := same_new hrl _
  refine lc_it (walk_enumS (xs := (lns.map row).map V.str)) (fun i H' => ∃ as : List Addr, as.length = i ∧ H' D = some (.lst (as.map V.ref)) ∧ Same (upd H rl (.lst ((lns.map row).map V.str))) H' ∧ (∀ a ∈ as, H a = none) ∧ as.Nodup ∧ Paired (fun a l => LnAt C H' a l 0 ∧ l ≠ []) as (lns.take i))
    ⟨[], rfl, upd_same, same_new hD _, fun _ z => absurd z List.not_mem_nil, List.nodup_nil, .nil⟩ (fun i H1 _ ⟨as, _, _, z, _⟩ => z.seq (SqL.of upd_same)) (fun i x H1 H2 hi hI hy => ?_) (fun H1 hI => ?_)
  · obtain ⟨T', x2, rfl, hT', rfl, hx2⟩ := hy
    obtain ⟨as, ha, hDD, hs, hfr, hnd, hpr⟩ := hI
    have hi' : i < lns.length := by
      rw [List.length_map, List.length_map] at hi
      exact hi
    have ex2 : x2 = .str (row lns[i]) := by
      rw [List.getElem?_map, List.getElem?_map, List.getElem?_eq_getElem hi'] at hx2
      exact (Option.some.inj hx2).symm
    subst ex2
    obtain ⟨k1, k2, k3⟩ := hl _ (List.getElem_mem hi')
    have s12 := same_new hT' (.tup [.int (1 + (i : Int)), .str (row lns[i])])
    refine ⟨T', _, rfl, SqT.of upd_same, rfl, _, _, rfl, _, _, rfl, rfl, rfl, _, rfl, _, rfl, fun x dx hx hdx ne => ?_⟩
    refine ⟨x, dx, _, lns[i], rfl, upd_same, k1, k2, by (clear T DI_Line B hr hl hn hz q hsplit hrl e0 hD hrlD hD0 sS hi hT' ha hDD hs hfr hnd hpr hx2 k1 k2 s12 hx hdx ne; omega), fun H3 s3 L3 => ⟨rfl, ?_⟩⟩
    have s13 : Same H1 H3 := s12.trans (same_mk hx hdx s3)
    have hxH : H x = none := (sS.trans (hs.trans s12)).free hx
    refine ⟨_, s13 _ _ hDD, by rw [List.length_map, ha]; exact small1000 (by (clear T DI_Line B hr hl hz q hsplit hrl e0 hD hrlD hD0 sS hi hT' hDD hs hfr hnd hpr hx2 k1 k2 k3 s12 hx hdx ne s3 L3 s13 hxH; omega)), as ++ [x], by rw [List.length_append, ha, List.length_singleton], by rw [upd_same, List.map_append]; rfl, same_at hD (hs.trans s13) _, ?_, ?_, ?_⟩
    · intro a hma
      rcases List.mem_append.mp hma with hma | hma
      · exact hfr a hma
      · rw [List.mem_singleton.mp hma]; exact hxH
    · refine List.nodup_append.mpr ⟨hnd, List.pairwise_singleton _ _, fun a hma b hmb z => ?_⟩
      rw [List.mem_singleton.mp hmb] at z
      subst z
      obtain ⟨j, hj, ej⟩ := List.mem_iff_getElem.mp hma
      obtain ⟨l, _, hla⟩ := paired_at hpr (List.getElem?_eq_getElem hj)
      rw [ej] at hla
      obtain ⟨d1, d2, d3, d4, g1, _⟩ := hla.1.ex
      rw [(s12 _ _ g1)] at hx
      cases hx
    · have upL : ∀ {a : Addr} {l : List Str}, l ≠ [] → LnAt C H3 a l 0 → LnAt C (upd H3 D (.lst (as.map V.ref ++ [.ref x]))) a l 0 := fun {a l} hne h => by
        obtain ⟨d1, d2, d3, d4, g1, g2⟩ := h.ex
        have gD := s13 _ _ hDD
        refine ⟨⟨d1, d2, d3, d4, by rw [upd_ne (ne_of g1 gD (fun z => nomatch z))]; exact g1, ?_⟩, h.ok⟩
        have n2 : d3 ≠ D := fun z => by
          rw [z, gD] at g2
          injection g2 with g2
          injection g2 with g2
          cases l with
          | nil => exact hne rfl
          | cons b bs => cases as with
            | nil => cases g2
            | cons c cs => cases g2
        rw [upd_ne n2]
        exact g2
      rw [List.take_add_one, List.getElem?_eq_getElem hi']
      exact paired_snoc (Paired.mapP hpr fun a l h => ⟨upL h.2 (h.1.same s13), h.2⟩) ⟨upL k1 L3, k1⟩
  · obtain ⟨as, ha, hDD, hs, hfr, hnd, hpr⟩ := hI
    rw [List.length_map, List.length_map, List.take_length] at hpr
    exact q D as H1 (sS.trans hs) hD0 hfr hnd hDD (Paired.mapP hpr fun a l h => h.1)
end
end DP
namespace DP
open PySem PySem.Spec PyProof.Rows L2
abbrev s_names_of : Stmt := topS 40
theorem sc_names_of : FnScope ["things", "thing"] ["things"] (defScope s_names_of) := ⟨rfl, rfl, rfl, by decide +kernel, rfl, by decide +kernel, by decide +kernel⟩
abbrev s_read_light : Stmt := topS 42
theorem sc_read_light : FnScope ["line", "horizon", "light", "least", "first"] ["line", "horizon"] (defScope s_read_light) := ⟨rfl, rfl, rfl, by decide +kernel, rfl, by decide +kernel, by decide +kernel⟩
abbrev s_read_satellite : Stmt := topS 41
theorem sc_read_satellite : FnScope ["line", "horizon", "things", "name", "store", "battery", "level", "reserve", "charge", "settle", "light"] ["line", "horizon", "things"] (defScope s_read_satellite) := ⟨rfl, rfl, rfl, by decide +kernel, rfl, by decide +kernel, by decide +kernel⟩
abbrev s_read_station : Stmt := topS 43
theorem sc_read_station : FnScope ["line", "_", "things", "name", "antennas", "turn"] ["line", "_", "things"] (defScope s_read_station) := ⟨rfl, rfl, rfl, by decide +kernel, rfl, by decide +kernel, by decide +kernel⟩
abbrev s_read_recording : Stmt := topS 44
theorem sc_read_recording : FnScope ["line", "horizon", "things", "name", "satellite", "earliest", "latest", "length", "size", "energy", "worth", "rank", "deadline"] ["line", "horizon", "things"] (defScope s_read_recording) := ⟨rfl, rfl, rfl, by decide +kernel, rfl, by decide +kernel, by decide +kernel⟩
abbrev s_read_pass : Stmt := topS 45
theorem sc_read_pass : FnScope ["line", "horizon", "things", "name", "satellite", "station", "first", "end", "room", "energy", "fee"] ["line", "horizon", "things"] (defScope s_read_pass) := ⟨rfl, rfl, rfl, by decide +kernel, rfl, by decide +kernel, by decide +kernel⟩
abbrev s_most_things : Stmt := topS 50
theorem sc_most_things : FnScope ["sort", "most"] ["sort"] (defScope s_most_things) := ⟨rfl, rfl, rfl, by decide +kernel, rfl, by decide +kernel, by decide +kernel⟩
abbrev s_read_sort : Stmt := topS 49
theorem sc_read_sort : FnScope ["line", "ahead", "things", "word", "sort"] ["line", "ahead", "things"] (defScope s_read_sort) := ⟨rfl, rfl, rfl, by decide +kernel, rfl, by decide +kernel, by decide +kernel⟩
abbrev s_read_things : Stmt := topS 48
theorem sc_read_things : FnScope ["lines", "horizon", "things", "sort", "line", "reader"] ["lines", "horizon"] (defScope s_read_things) := ⟨rfl, rfl, rfl, by decide +kernel, rfl, by decide +kernel, by decide +kernel⟩
abbrev s_Satellite___init__ : Stmt := inClass (topS 32) 0
theorem sc_Satellite___init__ : FnScope ["self", "name", "store", "battery", "start_level", "reserve", "charge", "settle", "light"] ["self", "name", "store", "battery", "start_level", "reserve", "charge", "settle", "light"] (defScope s_Satellite___init__) := ⟨rfl, rfl, rfl, by decide +kernel, rfl, by decide +kernel, by decide +kernel⟩
abbrev s_Station___init__ : Stmt := inClass (topS 33) 0
theorem sc_Station___init__ : FnScope ["self", "name", "antennas", "turn"] ["self", "name", "antennas", "turn"] (defScope s_Station___init__) := ⟨rfl, rfl, rfl, by decide +kernel, rfl, by decide +kernel, by decide +kernel⟩
abbrev s_Recording___init__ : Stmt := inClass (topS 34) 0
theorem sc_Recording___init__ : FnScope ["self", "name", "satellite", "earliest", "latest", "length", "size", "energy", "worth", "rank", "deadline"] ["self", "name", "satellite", "earliest", "latest", "length", "size", "energy", "worth", "rank", "deadline"] (defScope s_Recording___init__) := ⟨rfl, rfl, rfl, by decide +kernel, rfl, by decide +kernel, by decide +kernel⟩
abbrev s_Pass___init__ : Stmt := inClass (topS 35) 0
theorem sc_Pass___init__ : FnScope ["self", "name", "satellite", "station", "span", "room", "energy", "fee"] ["self", "name", "satellite", "station", "span", "room", "energy", "fee"] (defScope s_Pass___init__) := ⟨rfl, rfl, rfl, by decide +kernel, rfl, by decide +kernel, by decide +kernel⟩
abbrev s_World___init__ : Stmt := inClass (topS 36) 6
theorem sc_World___init__ : FnScope ["self", "text", "horizon", "things", "satellites", "stations", "recordings", "passes"] ["self", "text", "horizon", "things"] (defScope s_World___init__) := ⟨rfl, rfl, rfl, by decide +kernel, rfl, by decide +kernel, by decide +kernel⟩
abbrev s_World_parse : Stmt := inClass (topS 36) 7
theorem sc_World_parse : FnScope ["text", "lines", "horizon"] ["text"] (defScope s_World_parse) := ⟨rfl, rfl, rfl, by decide +kernel, rfl, by decide +kernel, by decide +kernel⟩
theorem SameX.new {a L : Addr} {H H' : Hp} {o : HO} (hL : H L = none) (s : SameX a H H') : SameX a H (L2.upd H' L o) := fun b u n h => by
  rw [upd_ne (ne_of_none h hL)]
  exact s b u n h
theorem SameX.sqT {K : PySem.W.Frag} {H H' : Hp} {a t C dx : Addr} {fs : List (Str × V)} {xs : List V} (s : SameX a H H') (ha : H a = some (.ins C dx fs)) (h : SqT K H t xs) : SqT K H' t xs := by
  rcases h with (h | ⟨u, h⟩) | h
  · exact .inl (.inl (s _ _ (ne_of h ha (fun z => nomatch z)) h))
  · exact .inl (.inr ⟨u, s _ _ (ne_of h ha (fun z => nomatch z)) h⟩)
  · exact .inr h
theorem SameX.sqL {K : PySem.W.Frag} {H H' : Hp} {a t C dx : Addr} {fs : List (Str × V)} {xs : List V} (s : SameX a H H') (ha : H a = some (.ins C dx fs)) (h : SqL K H t xs) : SqL K H' t xs := by
  rcases h with (h | ⟨u, h⟩) | h
  · exact .inl (.inl (s _ _ (ne_of h ha (fun z => nomatch z)) h))
  · exact .inl (.inr ⟨u, s _ _ (ne_of h ha (fun z => nomatch z)) h⟩)
  · exact .inr h
theorem SameX.spans {K : PySem.W.Frag} {H H' : Hp} {a C dx : Addr} {fs : List (Str × V)} {xs : List V} {qs : List (Int × Int)} (s : SameX a H H') (ha : H a = some (.ins C dx fs)) (h : Spans K H xs qs) : Spans K H' xs qs :=
  Paired.mapP h fun _ _ ⟨t, h1, h2⟩ => ⟨t, h1, s.sqT ha h2⟩
/-- an object with a name -/
def Named (K : PySem.W.Frag) (H : Hp) (x : V) (nm : Str) : Prop := ∃ a C dx fs, x = .ref a ∧ H a = some (.ins C dx fs) ∧ Cls K C ∧ NoAttr K C "name" ∧ fs.lookup ("name" : Str) = some (.str nm)
theorem Named.same {K : PySem.W.Frag} {H H' : Hp} {x : V} {nm : Str} (h : Named K H x nm) (s : Same H H') : Named K H' x nm := by
  obtain ⟨a, C, dx, fs, h1, h2, h3⟩ := h
  exact ⟨a, C, dx, fs, h1, s _ _ h2, h3⟩
section
variable {P : Program} {w : World} {K : PySem.W.Frag} {mg : Str → Option Value} {base : Heap}
def spNames (K : PySem.W.Frag) : Sp := fun vs H Q _ => ∃ (l : Addr) (xs : List V) (ns : List Str), vs = [.ref l] ∧ SqL K H l xs ∧ Paired (Named K H) xs ns ∧ ns.length ≤ 100 ∧
  ∀ p H', Same H H' → H p = none → H' p = some (.lst (ns.map V.str)) → Q (.ref p) H'
theorem d_names_of (B : Bt mg) (A : At K mg "names_of" s_names_of ["things"]) : DefOk P w K mg base CX0 1 "names_of" ["things"] (spNames K) := by
  refine A.ok sc_names_of (fun vs H Q E h => ?_) (fun f cdv A outer s H vs Q E hr h => ?_)
  · obtain ⟨l, xs, ns, rfl, _⟩ := h
    rfl
  obtain ⟨l, xs, ns, rfl, hl, hp, hn, q⟩ := h
  have hlen := paired_len hp
  refine ⟨_, pss_one (ps_ret (pe_lc (own := [("thing", 1)])  rfl sc_names_of.nd (pi_list (pv 0)) (blkOk_by (own := [("thing", 1)]) (N := ["things", "thing"]) (sc := defScope s_names_of) (by decide +kernel)) (fun _ _ _ _ _ => pg_name (i := 1) sc_names_of.nd rfl (Or.inl rfl)) (fun _ _ _ _ _ => pts_nil) (fun _ _ _ _ _ => (pe_fldK (K := K) rfl (pv 1) rfl))))
    , ?_⟩
  refine ⟨_, rfl, l, rfl, ⟨_, hl⟩, fun D hD => ?_⟩
  refine lc_list (K := K) (a := l) (xs := xs) (fun i H' => Same H H' ∧ H' D = some (.lst ((ns.take i).map V.str))) ⟨same_new hD _, upd_same⟩ (fun i H' _ h => h.1.seq hl) (fun i x H1 hx hI => ?_) (fun H1 hI => ?_)
  · obtain ⟨hs, hDD⟩ := hI
    obtain ⟨nm, hnm, hx2⟩ := paired_at hp hx
    obtain ⟨a, C, dx, fs, rfl, h2, h3, h4, h5⟩ := hx2
    refine ⟨rfl, _, rfl, a, C, dx, fs, _, rfl, hs _ _ h2, h3, h4, h5, _, hDD, ?_, same_at hD hs _, ?_⟩
    · rw [List.length_map, List.length_take]
      exact small1000 (by omega)
    · rw [upd_same, List.take_add_one, hnm, List.map_append]
      rfl
  · obtain ⟨hs, hDD⟩ := hI
    rw [hlen, List.take_length] at hDD
    exact q D H1 hs hD hDD
end
def satF (s : SatD) (t : Addr) : List (Str × V) := [("name", .str s.name), ("store", .int s.store), ("battery", .int s.battery), ("start_level", .int s.level), ("reserve", .int s.reserve), ("charge", .int s.charge), ("settle", .int s.settle), ("light", .ref t)]
def staF (s : StaD) : List (Str × V) := [("name", .str s.name), ("antennas", .int s.antennas), ("turn", .int s.turn)]
def recF (r : RecD) : List (Str × V) := [("name", .str r.name), ("satellite", .int (r.sat : Int)), ("earliest", .int r.earliest), ("latest", .int r.latest), ("length", .int r.length), ("size", .int r.size), ("energy", .int r.energy), ("worth", .int r.worth), ("rank", .int r.rank), ("deadline", .int r.deadline)]
def pasF (p : PasD) (t : Addr) : List (Str × V) := [("name", .str p.name), ("satellite", .int (p.sat : Int)), ("station", .int (p.sta : Int)), ("span", .ref t), ("room", .int p.room), ("energy", .int p.energy), ("fee", .int p.fee)]
def SatAt (K : PySem.W.Frag) (C : Addr) (H : Hp) (x : V) (s : SatD) : Prop := ∃ a dx t ls, x = .ref a ∧ H a = some (.ins C dx (satF s t)) ∧ SqT K H t ls ∧ Spans K H ls s.light
def StaAt (C : Addr) (H : Hp) (x : V) (s : StaD) : Prop := ∃ a dx, x = .ref a ∧ H a = some (.ins C dx (staF s))
def RecAt (C : Addr) (H : Hp) (x : V) (r : RecD) : Prop := ∃ a dx, x = .ref a ∧ H a = some (.ins C dx (recF r))
def PasAt (K : PySem.W.Frag) (C : Addr) (H : Hp) (x : V) (p : PasD) : Prop := ∃ a dx t, x = .ref a ∧ H a = some (.ins C dx (pasF p t)) ∧ SqT K H t [.int p.first, .int p.fin]
/-- a line stays apart from the other objects: their fields are more or fewer -/
theorem SameX.ins {H H' : Hp} {a b C D dx dy : Addr} {fs gs : List (Str × V)} (s : SameX a H H') (ha : H a = some (.ins C dx fs)) (hb : H b = some (.ins D dy gs)) (n : gs.length ≠ fs.length) : H' b = some (.ins D dy gs) := s b _ (ins_ne hb ha n) hb
/-- what the text tells of the other classes -/
structure TxtW (K : PySem.W.Frag) (mg : Str → Option Value) (CL CS CT CR CP CW aS aR fS fT fR fP : Addr) : Prop where
  L : TxtL K mg CL
  c_Satellite : ClsAt K mg "Satellite" CS
  c_Station : ClsAt K mg "Station" CT
  c_Recording : ClsAt K mg "Recording" CR
  c_Pass : ClsAt K mg "Pass" CP
  c_World : ClsAt K mg "World" CW
  n_Satellite_name : NoAttr K CS "name"
  n_Satellite_store : NoAttr K CS "store"
  n_Satellite_battery : NoAttr K CS "battery"
  n_Satellite_start_level : NoAttr K CS "start_level"
  n_Satellite_reserve : NoAttr K CS "reserve"
  n_Satellite_charge : NoAttr K CS "charge"
  n_Satellite_settle : NoAttr K CS "settle"
  n_Satellite_light : NoAttr K CS "light"
  n_Station_name : NoAttr K CT "name"
  n_Station_antennas : NoAttr K CT "antennas"
  n_Station_turn : NoAttr K CT "turn"
  n_Recording_name : NoAttr K CR "name"
  n_Recording_satellite : NoAttr K CR "satellite"
  n_Recording_earliest : NoAttr K CR "earliest"
  n_Recording_latest : NoAttr K CR "latest"
  n_Recording_length : NoAttr K CR "length"
  n_Recording_size : NoAttr K CR "size"
  n_Recording_energy : NoAttr K CR "energy"
  n_Recording_worth : NoAttr K CR "worth"
  n_Recording_rank : NoAttr K CR "rank"
  n_Recording_deadline : NoAttr K CR "deadline"
  n_Pass_name : NoAttr K CP "name"
  n_Pass_satellite : NoAttr K CP "satellite"
  n_Pass_station : NoAttr K CP "station"
  n_Pass_span : NoAttr K CP "span"
  n_Pass_room : NoAttr K CP "room"
  n_Pass_energy : NoAttr K CP "energy"
  n_Pass_fee : NoAttr K CP "fee"
  n_World_text : NoAttr K CW "text"
  n_World_horizon : NoAttr K CW "horizon"
  n_World_satellites : NoAttr K CW "satellites"
  n_World_stations : NoAttr K CW "stations"
  n_World_recordings : NoAttr K CW "recordings"
  n_World_passes : NoAttr K CW "passes"
  g_SATELLITES : ∃ t, mg "SATELLITES" = some (.int 0 t)
  g_STATIONS : ∃ t, mg "STATIONS" = some (.int 1 t)
  g_RECORDINGS : ∃ t, mg "RECORDINGS" = some (.int 2 t)
  g_PASSES : ∃ t, mg "PASSES" = some (.int 3 t)
  g_MOST_UNITS : ∃ t, mg "MOST_UNITS" = some (.int 1000000 t)
  g_MOST_CHARGE : ∃ t, mg "MOST_CHARGE" = some (.int 1000 t)
  g_MOST_DELAY : ∃ t, mg "MOST_DELAY" = some (.int 60 t)
  g_MOST_ANTENNAS : ∃ t, mg "MOST_ANTENNAS" = some (.int 3 t)
  g_MOST_WORTH : ∃ t, mg "MOST_WORTH" = some (.int 1000 t)
  g_MOST_RANK : ∃ t, mg "MOST_RANK" = some (.int 3 t)
  g_MOST_FEE : ∃ t, mg "MOST_FEE" = some (.int 1000 t)
  g_SORTS : mg "SORTS" = some (.ref aS)
  t_SORTS : ∀ H, SqT K H aS (([("satellite" : Str), "station", "recording", "pass"]).map V.str)
  k_SORTS : ∃ o, K.lookup aS = some o ∧ o.cls = .type "tuple" ∧ o.dict = none
  g_READERS : mg "READERS" = some (.ref aR)
  t_READERS : ∀ H, SqT K H aR [.ref fS, .ref fT, .ref fR, .ref fP]
  r_satellite : mg "read_satellite" = some (.ref fS)
  r_station : mg "read_station" = some (.ref fT)
  r_recording : mg "read_recording" = some (.ref fR)
  r_pass : mg "read_pass" = some (.ref fP)
  rdW : ClX.CRead K CW (.type "type")
  v_MOST_HORIZON : ∃ t, ClX.CVal K CW (.type "type") "MOST_HORIZON" (.int 500) (.int 500 t)
  v_MOST_SATELLITES : ∃ t, ClX.CVal K CW (.type "type") "MOST_SATELLITES" (.int 3) (.int 3 t)
  v_MOST_STATIONS : ∃ t, ClX.CVal K CW (.type "type") "MOST_STATIONS" (.int 3) (.int 3 t)
  v_MOST_RECORDINGS : ∃ t, ClX.CVal K CW (.type "type") "MOST_RECORDINGS" (.int 10) (.int 10 t)
  v_MOST_PASSES : ∃ t, ClX.CVal K CW (.type "type") "MOST_PASSES" (.int 10) (.int 10 t)
  v_MOST_SHIFT : ∃ t, ClX.CVal K CW (.type "type") "MOST_SHIFT" (.int 20) (.int 20 t)
section
variable {P : Program} {w : World} {K : PySem.W.Frag} {mg : Str → Option Value} {base : Heap} {CL CS CT CR CP CW aS aR fS fT fR fP : Addr}
theorem TxtW.c_Line (T : TxtW K mg CL CS CT CR CP CW aS aR fS fT fR fP) : ClsAt K mg "Line" CL := T.L.c_Line
def spI_Satellite (C : Addr) : Sp := fun vs H Q _ => ∃ (x dx : Addr) (v0 v1 v2 v3 v4 v5 v6 v7 : V), vs = [.ref x, v0, v1, v2, v3, v4, v5, v6, v7] ∧ H x = some (.ins C dx []) ∧
  Q .non (upd H x (.ins C dx [("name", v0), ("store", v1), ("battery", v2), ("start_level", v3), ("reserve", v4), ("charge", v5), ("settle", v6), ("light", v7)]))
theorem dI_Satellite (T : TxtW K mg CL CS CT CR CP CW aS aR fS fT fR fP) (A : MAt K CS "__init__" "Satellite.__init__" s_Satellite___init__ ["self", "name", "store", "battery", "start_level", "reserve", "charge", "settle", "light"]) : MDef P w K mg base CX0 1 CS "__init__" ["self", "name", "store", "battery", "start_level", "reserve", "charge", "settle", "light"] [] (spI_Satellite CS) := by
  refine A.ok sc_Satellite___init__ (fun vs H Q E h => ?_) (fun f cdv A outer s H vs Q E hr h => ?_)
  · obtain ⟨x, dx, v0, v1, v2, v3, v4, v5, v6, v7, rfl, _⟩ := h
    rfl
  obtain ⟨x, dx, v0, v1, v2, v3, v4, v5, v6, v7, rfl, hx, q⟩ := h
  refine ⟨_, pss_cons (ps_fld (pv 0) (pv 1) rfl)
  (pss_cons (ps_fld (pv 0) (pv 2) rfl)
  (pss_cons (ps_fld (pv 0) (pv 3) rfl)
  (pss_cons (ps_fld (pv 0) (pv 4) rfl)
  (pss_cons (ps_fld (pv 0) (pv 5) rfl)
  (pss_cons (ps_fld (pv 0) (pv 6) rfl)
  (pss_cons (ps_fld (pv 0) (pv 7) rfl)
  (pss_one (ps_fld (pv 0) (pv 8) rfl)))))))), ?_⟩
  refine ⟨_, rfl, _, rfl, x, CS, dx, _, rfl, hx, T.c_Satellite.cl, T.n_Satellite_name, (by show 0 < 1000; decide), ?_⟩
  rw [put_nil]
  refine ⟨_, rfl, _, rfl, x, CS, dx, _, rfl, upd_same, T.c_Satellite.cl, T.n_Satellite_store, (by show 1 < 1000; decide), ?_⟩
  rw [upd_upd]
  rw [put_miss (by decide +kernel)]
  rw [put_nil]
  refine ⟨_, rfl, _, rfl, x, CS, dx, _, rfl, upd_same, T.c_Satellite.cl, T.n_Satellite_battery, (by show 2 < 1000; decide), ?_⟩
  rw [upd_upd]
  rw [put_miss (by decide +kernel)]
  rw [put_miss (by decide +kernel)]
  rw [put_nil]
  refine ⟨_, rfl, _, rfl, x, CS, dx, _, rfl, upd_same, T.c_Satellite.cl, T.n_Satellite_start_level, (by show 3 < 1000; decide), ?_⟩
  rw [upd_upd]
  rw [put_miss (by decide +kernel)]
  rw [put_miss (by decide +kernel)]
  rw [put_miss (by decide +kernel)]
  rw [put_nil]
  refine ⟨_, rfl, _, rfl, x, CS, dx, _, rfl, upd_same, T.c_Satellite.cl, T.n_Satellite_reserve, (by show 4 < 1000; decide), ?_⟩
  rw [upd_upd]
  rw [put_miss (by decide +kernel)]
  rw [put_miss (by decide +kernel)]
  rw [put_miss (by decide +kernel)]
  rw [put_miss (by decide +kernel)]
  rw [put_nil]
  refine ⟨_, rfl, _, rfl, x, CS, dx, _, rfl, upd_same, T.c_Satellite.cl, T.n_Satellite_charge, (by show 5 < 1000; decide), ?_⟩
  rw [upd_upd]
  rw [put_miss (by decide +kernel)]
  rw [put_miss (by decide +kernel)]
  rw [put_miss (by decide +kernel)]
  rw [put_miss (by decide +kernel)]
  rw [put_miss (by decide +kernel)]
  rw [put_nil]
  refine ⟨_, rfl, _, rfl, x, CS, dx, _, rfl, upd_same, T.c_Satellite.cl, T.n_Satellite_settle, (by show 6 < 1000; decide), ?_⟩
  rw [upd_upd]
  rw [put_miss (by decide +kernel)]
  rw [put_miss (by decide +kernel)]
  rw [put_miss (by decide +kernel)]
  rw [put_miss (by decide +kernel)]
  rw [put_miss (by decide +kernel)]
  rw [put_miss (by decide +kernel)]
  rw [put_nil]
  refine ⟨_, rfl, _, rfl, x, CS, dx, _, rfl, upd_same, T.c_Satellite.cl, T.n_Satellite_light, (by show 7 < 1000; decide), ?_⟩
  rw [upd_upd]
  rw [put_miss (by decide +kernel)]
  rw [put_miss (by decide +kernel)]
  rw [put_miss (by decide +kernel)]
  rw [put_miss (by decide +kernel)]
  rw [put_miss (by decide +kernel)]
  rw [put_miss (by decide +kernel)]
  rw [put_miss (by decide +kernel)]
  rw [put_nil]
  exact q
def spI_Station (C : Addr) : Sp := fun vs H Q _ => ∃ (x dx : Addr) (v0 v1 v2 : V), vs = [.ref x, v0, v1, v2] ∧ H x = some (.ins C dx []) ∧
  Q .non (upd H x (.ins C dx [("name", v0), ("antennas", v1), ("turn", v2)]))
theorem dI_Station (T : TxtW K mg CL CS CT CR CP CW aS aR fS fT fR fP) (A : MAt K CT "__init__" "Station.__init__" s_Station___init__ ["self", "name", "antennas", "turn"]) : MDef P w K mg base CX0 1 CT "__init__" ["self", "name", "antennas", "turn"] [] (spI_Station CT) := by
  refine A.ok sc_Station___init__ (fun vs H Q E h => ?_) (fun f cdv A outer s H vs Q E hr h => ?_)
  · obtain ⟨x, dx, v0, v1, v2, rfl, _⟩ := h
    rfl
  obtain ⟨x, dx, v0, v1, v2, rfl, hx, q⟩ := h
  refine ⟨_, pss_cons (ps_fld (pv 0) (pv 1) rfl)
  (pss_cons (ps_fld (pv 0) (pv 2) rfl)
  (pss_one (ps_fld (pv 0) (pv 3) rfl))), ?_⟩
  refine ⟨_, rfl, _, rfl, x, CT, dx, _, rfl, hx, T.c_Station.cl, T.n_Station_name, (by show 0 < 1000; decide), ?_⟩
  rw [put_nil]
  refine ⟨_, rfl, _, rfl, x, CT, dx, _, rfl, upd_same, T.c_Station.cl, T.n_Station_antennas, (by show 1 < 1000; decide), ?_⟩
  rw [upd_upd]
  rw [put_miss (by decide +kernel)]
  rw [put_nil]
  refine ⟨_, rfl, _, rfl, x, CT, dx, _, rfl, upd_same, T.c_Station.cl, T.n_Station_turn, (by show 2 < 1000; decide), ?_⟩
  rw [upd_upd]
  rw [put_miss (by decide +kernel)]
  rw [put_miss (by decide +kernel)]
  rw [put_nil]
  exact q
def spI_Recording (C : Addr) : Sp := fun vs H Q _ => ∃ (x dx : Addr) (v0 v1 v2 v3 v4 v5 v6 v7 v8 v9 : V), vs = [.ref x, v0, v1, v2, v3, v4, v5, v6, v7, v8, v9] ∧ H x = some (.ins C dx []) ∧
  Q .non (upd H x (.ins C dx [("name", v0), ("satellite", v1), ("earliest", v2), ("latest", v3), ("length", v4), ("size", v5), ("energy", v6), ("worth", v7), ("rank", v8), ("deadline", v9)]))
theorem dI_Recording (T : TxtW K mg CL CS CT CR CP CW aS aR fS fT fR fP) (A : MAt K CR "__init__" "Recording.__init__" s_Recording___init__ ["self", "name", "satellite", "earliest", "latest", "length", "size", "energy", "worth", "rank", "deadline"]) : MDef P w K mg base CX0 1 CR "__init__" ["self", "name", "satellite", "earliest", "latest", "length", "size", "energy", "worth", "rank", "deadline"] [] (spI_Recording CR) := by
  refine A.ok sc_Recording___init__ (fun vs H Q E h => ?_) (fun f cdv A outer s H vs Q E hr h => ?_)
  · obtain ⟨x, dx, v0, v1, v2, v3, v4, v5, v6, v7, v8, v9, rfl, _⟩ := h
    rfl
  obtain ⟨x, dx, v0, v1, v2, v3, v4, v5, v6, v7, v8, v9, rfl, hx, q⟩ := h
  refine ⟨_, pss_cons (ps_fld (pv 0) (pv 1) rfl)
  (pss_cons (ps_fld (pv 0) (pv 2) rfl)
  (pss_cons (ps_fld (pv 0) (pv 3) rfl)
  (pss_cons (ps_fld (pv 0) (pv 4) rfl)
  (pss_cons (ps_fld (pv 0) (pv 5) rfl)
  (pss_cons (ps_fld (pv 0) (pv 6) rfl)
  (pss_cons (ps_fld (pv 0) (pv 7) rfl)
  (pss_cons (ps_fld (pv 0) (pv 8) rfl)
  (pss_cons (ps_fld (pv 0) (pv 9) rfl)
  (pss_one (ps_fld (pv 0) (pv 10) rfl)))))))))), ?_⟩
  refine ⟨_, rfl, _, rfl, x, CR, dx, _, rfl, hx, T.c_Recording.cl, T.n_Recording_name, (by show 0 < 1000; decide), ?_⟩
  rw [put_nil]
  refine ⟨_, rfl, _, rfl, x, CR, dx, _, rfl, upd_same, T.c_Recording.cl, T.n_Recording_satellite, (by show 1 < 1000; decide), ?_⟩
  rw [upd_upd]
  rw [put_miss (by decide +kernel)]
  rw [put_nil]
  refine ⟨_, rfl, _, rfl, x, CR, dx, _, rfl, upd_same, T.c_Recording.cl, T.n_Recording_earliest, (by show 2 < 1000; decide), ?_⟩
  rw [upd_upd]
  rw [put_miss (by decide +kernel)]
  rw [put_miss (by decide +kernel)]
  rw [put_nil]
  refine ⟨_, rfl, _, rfl, x, CR, dx, _, rfl, upd_same, T.c_Recording.cl, T.n_Recording_latest, (by show 3 < 1000; decide), ?_⟩
  rw [upd_upd]
  rw [put_miss (by decide +kernel)]
  rw [put_miss (by decide +kernel)]
  rw [put_miss (by decide +kernel)]
  rw [put_nil]
  refine ⟨_, rfl, _, rfl, x, CR, dx, _, rfl, upd_same, T.c_Recording.cl, T.n_Recording_length, (by show 4 < 1000; decide), ?_⟩
  rw [upd_upd]
  rw [put_miss (by decide +kernel)]
  rw [put_miss (by decide +kernel)]
  rw [put_miss (by decide +kernel)]
  rw [put_miss (by decide +kernel)]
  rw [put_nil]
  refine ⟨_, rfl, _, rfl, x, CR, dx, _, rfl, upd_same, T.c_Recording.cl, T.n_Recording_size, (by show 5 < 1000; decide), ?_⟩
  rw [upd_upd]
  rw [put_miss (by decide +kernel)]
  rw [put_miss (by decide +kernel)]
  rw [put_miss (by decide +kernel)]
  rw [put_miss (by decide +kernel)]
  rw [put_miss (by decide +kernel)]
  rw [put_nil]
  refine ⟨_, rfl, _, rfl, x, CR, dx, _, rfl, upd_same, T.c_Recording.cl, T.n_Recording_energy, (by show 6 < 1000; decide), ?_⟩
  rw [upd_upd]
  rw [put_miss (by decide +kernel)]
  rw [put_miss (by decide +kernel)]
  rw [put_miss (by decide +kernel)]
  rw [put_miss (by decide +kernel)]
  rw [put_miss (by decide +kernel)]
  rw [put_miss (by decide +kernel)]
  rw [put_nil]
  refine ⟨_, rfl, _, rfl, x, CR, dx, _, rfl, upd_same, T.c_Recording.cl, T.n_Recording_worth, (by show 7 < 1000; decide), ?_⟩
  rw [upd_upd]
  rw [put_miss (by decide +kernel)]
  rw [put_miss (by decide +kernel)]
  rw [put_miss (by decide +kernel)]
  rw [put_miss (by decide +kernel)]
  rw [put_miss (by decide +kernel)]
  rw [put_miss (by decide +kernel)]
  rw [put_miss (by decide +kernel)]
  rw [put_nil]
  refine ⟨_, rfl, _, rfl, x, CR, dx, _, rfl, upd_same, T.c_Recording.cl, T.n_Recording_rank, (by show 8 < 1000; decide), ?_⟩
  rw [upd_upd]
  rw [put_miss (by decide +kernel)]
  rw [put_miss (by decide +kernel)]
  rw [put_miss (by decide +kernel)]
  rw [put_miss (by decide +kernel)]
  rw [put_miss (by decide +kernel)]
  rw [put_miss (by decide +kernel)]
  rw [put_miss (by decide +kernel)]
  rw [put_miss (by decide +kernel)]
  rw [put_nil]
  refine ⟨_, rfl, _, rfl, x, CR, dx, _, rfl, upd_same, T.c_Recording.cl, T.n_Recording_deadline, (by show 9 < 1000; decide), ?_⟩
  rw [upd_upd]
  rw [put_miss (by decide +kernel)]
  rw [put_miss (by decide +kernel)]
  rw [put_miss (by decide +kernel)]
  rw [put_miss (by decide +kernel)]
  rw [put_miss (by decide +kernel)]
  rw [put_miss (by decide +kernel)]
  rw [put_miss (by decide +kernel)]
  rw [put_miss (by decide +kernel)]
  rw [put_miss (by decide +kernel)]
  rw [put_nil]
  exact q
def spI_Pass (C : Addr) : Sp := fun vs H Q _ => ∃ (x dx : Addr) (v0 v1 v2 v3 v4 v5 v6 : V), vs = [.ref x, v0, v1, v2, v3, v4, v5, v6] ∧ H x = some (.ins C dx []) ∧
  Q .non (upd H x (.ins C dx [("name", v0), ("satellite", v1), ("station", v2), ("span", v3), ("room", v4), ("energy", v5), ("fee", v6)]))
theorem dI_Pass (T : TxtW K mg CL CS CT CR CP CW aS aR fS fT fR fP) (A : MAt K CP "__init__" "Pass.__init__" s_Pass___init__ ["self", "name", "satellite", "station", "span", "room", "energy", "fee"]) : MDef P w K mg base CX0 1 CP "__init__" ["self", "name", "satellite", "station", "span", "room", "energy", "fee"] [] (spI_Pass CP) := by
  refine A.ok sc_Pass___init__ (fun vs H Q E h => ?_) (fun f cdv A outer s H vs Q E hr h => ?_)
  · obtain ⟨x, dx, v0, v1, v2, v3, v4, v5, v6, rfl, _⟩ := h
    rfl
  obtain ⟨x, dx, v0, v1, v2, v3, v4, v5, v6, rfl, hx, q⟩ := h
  refine ⟨_, pss_cons (ps_fld (pv 0) (pv 1) rfl)
  (pss_cons (ps_fld (pv 0) (pv 2) rfl)
  (pss_cons (ps_fld (pv 0) (pv 3) rfl)
  (pss_cons (ps_fld (pv 0) (pv 4) rfl)
  (pss_cons (ps_fld (pv 0) (pv 5) rfl)
  (pss_cons (ps_fld (pv 0) (pv 6) rfl)
  (pss_one (ps_fld (pv 0) (pv 7) rfl))))))), ?_⟩
  refine ⟨_, rfl, _, rfl, x, CP, dx, _, rfl, hx, T.c_Pass.cl, T.n_Pass_name, (by show 0 < 1000; decide), ?_⟩
  rw [put_nil]
  refine ⟨_, rfl, _, rfl, x, CP, dx, _, rfl, upd_same, T.c_Pass.cl, T.n_Pass_satellite, (by show 1 < 1000; decide), ?_⟩
  rw [upd_upd]
  rw [put_miss (by decide +kernel)]
  rw [put_nil]
  refine ⟨_, rfl, _, rfl, x, CP, dx, _, rfl, upd_same, T.c_Pass.cl, T.n_Pass_station, (by show 2 < 1000; decide), ?_⟩
  rw [upd_upd]
  rw [put_miss (by decide +kernel)]
  rw [put_miss (by decide +kernel)]
  rw [put_nil]
  refine ⟨_, rfl, _, rfl, x, CP, dx, _, rfl, upd_same, T.c_Pass.cl, T.n_Pass_span, (by show 3 < 1000; decide), ?_⟩
  rw [upd_upd]
  rw [put_miss (by decide +kernel)]
  rw [put_miss (by decide +kernel)]
  rw [put_miss (by decide +kernel)]
  rw [put_nil]
  refine ⟨_, rfl, _, rfl, x, CP, dx, _, rfl, upd_same, T.c_Pass.cl, T.n_Pass_room, (by show 4 < 1000; decide), ?_⟩
  rw [upd_upd]
  rw [put_miss (by decide +kernel)]
  rw [put_miss (by decide +kernel)]
  rw [put_miss (by decide +kernel)]
  rw [put_miss (by decide +kernel)]
  rw [put_nil]
  refine ⟨_, rfl, _, rfl, x, CP, dx, _, rfl, upd_same, T.c_Pass.cl, T.n_Pass_energy, (by show 5 < 1000; decide), ?_⟩
  rw [upd_upd]
  rw [put_miss (by decide +kernel)]
  rw [put_miss (by decide +kernel)]
  rw [put_miss (by decide +kernel)]
  rw [put_miss (by decide +kernel)]
  rw [put_miss (by decide +kernel)]
  rw [put_nil]
  refine ⟨_, rfl, _, rfl, x, CP, dx, _, rfl, upd_same, T.c_Pass.cl, T.n_Pass_fee, (by show 6 < 1000; decide), ?_⟩
  rw [upd_upd]
  rw [put_miss (by decide +kernel)]
  rw [put_miss (by decide +kernel)]
  rw [put_miss (by decide +kernel)]
  rw [put_miss (by decide +kernel)]
  rw [put_miss (by decide +kernel)]
  rw [put_miss (by decide +kernel)]
  rw [put_nil]
  exact q
def spLight (K : PySem.W.Frag) (CL : Addr) : Sp := fun vs H Q _ => ∃ (a : Addr) (ws : List Str) (r : Nat) (h : Int) (l : List (Int × Int)), vs = [.ref a, .int h] ∧ LnAt CL H a ws r ∧ r ≤ ws.length ∧ ws.drop r = lightW l ∧ LightOk 0 h l ∧ h ≤ 500 ∧ 0 ≤ h ∧
  ∀ t ls H', SameX a H H' → LnAt CL H' a ws ws.length → H' t = some (.tup ls) → Spans K H' ls l → Q (.ref t) H'
theorem drop_head {ws : List Str} {r : Nat} {u : Str} {t : List Str} (h : ws.drop r = u :: t) : ws[r]? = some u ∧ ws.drop (r + 1) = t := by
  have h1 : (ws.drop r)[0]? = some u := by rw [h]; rfl
  rw [List.getElem?_drop, Nat.add_zero] at h1
  refine ⟨h1, ?_⟩
  have h2 : (ws.drop r).drop 1 = t := by rw [h]; rfl
  rw [List.drop_drop] at h2
  exact h2
theorem drop_nil {ws : List Str} {r : Nat} (h : ws.drop r = []) : ws.length ≤ r := List.drop_eq_nil_iff.mp h
theorem d_read_light (T : TxtW K mg CL CS CT CR CP CW aS aR fS fT fR fP) (D_Line_has_more : MDef P w K mg base CX0 1 CL "has_more" ["self"] [] (spHasMore CL)) (D_Line_read_number : MDef P w K mg base CX0 3 CL "read_number" ["self", "least", "most"] [] (spNumber CL))
    (A : At K mg "read_light" s_read_light ["line", "horizon"]) : DefOk P w K mg base CX0 4 "read_light" ["line", "horizon"] (spLight K CL) := by
  have TW := T
  have T := T.L
  have B := T.B
  refine A.ok sc_read_light (fun vs H Q E h => ?_) (fun f cdv A outer s H vs Q E hr h => ?_)
  · obtain ⟨a, ws, r, h, l, rfl, _⟩ := h
    rfl
  obtain ⟨a, ws, r, h, l, rfl, hL, hrl, hd, hok, hh, hh0, q⟩ := h
  refine ⟨_, pss_cons (ps_set (i := 2) sc_read_light.nd rfl (Or.inl rfl) (pe_lst pa_nil))
  (pss_cons (ps_set (i := 3) sc_read_light.nd rfl (Or.inl rfl) pe_int)
  (pss_cons (ps_while PassesOwn.never (pt_val (pe_m0 D_Line_has_more T.c_Line.cl (hr.mono (by omega)) pass0 (pv 0)))
      (pss_cons (ps_set (i := 4) sc_read_light.nd rfl (Or.inl rfl) (pe_m D_Line_read_number T.c_Line.cl (hr.mono (by omega)) pass0 (pv 0) (pa_cons (pv 3) (pa_cons (pe_op op_sub (pv 1) pe_int) pa_nil))))
      (pss_cons (ps_set (i := 3) sc_read_light.nd rfl (Or.inl rfl) (pe_m D_Line_read_number T.c_Line.cl (hr.mono (by omega)) pass0 (pv 0) (pa_cons (pe_op op_add (pv 4) pe_int) (pa_cons (pv 1) pa_nil))))
      (pss_one (ps_expr (pe_bm PySem.F.plainAttrs_list PySem.F.slot_list_append PySem.F.type_list_append mt_append (pv 2) (pa_cons (pe_tup (pa_cons (pv 4) (pa_cons (pv 3) pa_nil))) pa_nil)))))))
  (pss_one (ps_ret (pe_callTy (call_tuple_of) (by rfl) B.tuple (by decide +kernel) (pa_cons (pv 2) pa_nil))))))
    , ?_⟩
  have no : ∀ {H' : Hp} {k : Nat}, LnAt CL H' a ws k → ∀ {m : Str}, (m == ("number" : Str)) = false → (m == ("words" : Str)) = false → (m == ("read" : Str)) = false → (m == ("column" : Str)) = false → ∃ dx fs, H' a = some (.ins CL dx fs) ∧ fs.lookup m = none := fun {H' k} hx {m} z1 z2 z3 z4 => by
    obtain ⟨dx, n, wl, c, h1, h2⟩ := hx.ex
    exact ⟨dx, _, h1, lnF_no z1 z2 z3 z4⟩
  refine ⟨Nat.zero_le _, fun L hLn => ?_⟩
  have eaL : a ≠ L := by
    obtain ⟨dx, n, wl, c, h1, h2⟩ := hL.ex
    exact ne_of_none h1 hLn
  refine ⟨fun n σ H' => ∃ (l1 l2 : List (Int × Int)) (ls : List V) (k : Nat) (le : Int) (y4 : Option V), n = l2.length ∧ l = l1 ++ l2 ∧ ws.drop k = lightW l2 ∧ k ≤ ws.length ∧ LightOk le h l2 ∧ 0 ≤ le ∧ l1.length ≤ 500 ∧ (l1.length : Int) ≤ le ∧
    σ = [some (.ref a), some (.int h), some (.ref L), some (.int le), y4] ∧ H' L = some (.lst ls) ∧ Spans K H' ls l1 ∧ LnAt CL H' a ws k ∧ SameX a H H', ⟨_, [], l, [], r, 0, none, rfl, rfl, hd, hrl, hok, Int.le_refl 0, Nat.zero_le _, Int.le_refl 0, rfl, upd_same, .nil, hL.same (same_new hLn _), SameX.of (same_new hLn _)⟩, fun n σ H' hI => ?_⟩
  obtain ⟨l1, l2, ls, k, le, y4, rfl, rfl, hdk, hk, hok2, hle, h500, hl1, rfl, hLL, hsp, hLk, hsx⟩ := hI
  obtain ⟨dx, fs, g1, g2⟩ := no hLk (m := "has_more") (by decide +kernel) (by decide +kernel) (by decide +kernel) (by decide +kernel)
  refine ⟨_, rfl, a, dx, fs, rfl, g1, g2, a, ws, k, rfl, hLk, _, rfl, ?_⟩
  cases l2 with
  | nil =>
    have hk2 := drop_nil hdk
    rw [decide_eq_false (by (clear D_Line_has_more D_Line_read_number TW T B hr hL hrl hh hh0 no hLn eaL hle h500 hl1 hLL hsp hLk hsx g1 g2 hd hok q hdk hok2; omega))]
    refine ⟨_, rfl, L, _, rfl, .inl ⟨SqL.of hLL, fun t ht => ?_⟩⟩
    rw [List.append_nil] at q
    refine q t ls _ (SameX.trans hsx (SameX.of (same_new ht _))) ?_ upd_same (hsp.same (same_new ht _))
    rw [show ws.length = k by (clear D_Line_has_more D_Line_read_number TW T B hr hL hrl hh hh0 no hLn eaL hle h500 hl1 hLL hsp hLk hsx g1 g2 hd hok q hdk hok2 ht; omega)]
    exact hLk.same (same_new ht _)
  | cons sp l2 =>
    obtain ⟨o1, o2, o3, o4⟩ := hok2
    obtain ⟨u1, hd1⟩ := drop_head (show ws.drop k = num sp.1 :: num sp.2 :: lightW l2 from hdk)
    obtain ⟨u2, hd2⟩ := drop_head hd1
    have k1 : k < ws.length := (List.getElem?_eq_some_iff.mp u1).1
    have k2 : k + 1 < ws.length := (List.getElem?_eq_some_iff.mp u2).1
    rw [decide_eq_true k1]
    refine ⟨fun σ' H'' => ∃ m, m < (sp :: l2).length ∧ ∃ (l1' l2' : List (Int × Int)) (ls : List V) (k : Nat) (le : Int) (y4 : Option V), m = l2'.length ∧ l1 ++ sp :: l2 = l1' ++ l2' ∧ ws.drop k = lightW l2' ∧ k ≤ ws.length ∧ LightOk le h l2' ∧ 0 ≤ le ∧ l1'.length ≤ 500 ∧ (l1'.length : Int) ≤ le ∧
      σ' = [some (.ref a), some (.int h), some (.ref L), some (.int le), y4] ∧ H'' L = some (.lst ls) ∧ Spans K H'' ls l1' ∧ LnAt CL H'' a ws k ∧ SameX a H H'', fun σ' H'' z => z, ?_⟩
    obtain ⟨dx, fs, g1, g2⟩ := no hLk (m := "read_number") (by decide +kernel) (by decide +kernel) (by decide +kernel) (by decide +kernel)
    refine ⟨_, rfl, a, dx, fs, rfl, g1, g2, _, rfl, _, rfl, _, _, rfl, rfl, a, ws, k, le, h - 1, sp.1, rfl, hLk, u1, by (clear D_Line_has_more D_Line_read_number TW T B hr hL hrl hh hh0 no hLn eaL hk h500 hl1 hLL hsp hLk hsx hd hok q hdk o2 o3 o4 u1 hd1 u2 hd2 k1 k2 g1 g2; omega), by (clear D_Line_has_more D_Line_read_number TW T B hr hL hrl no hLn eaL hk hle h500 hl1 hLL hsp hLk hsx hd hok q hdk o1 o4 u1 hd1 u2 hd2 k1 k2 g1 g2; omega), o1, by (clear D_Line_has_more D_Line_read_number TW T B hr hL hrl hh hh0 no hLn eaL hk hle h500 hl1 hLL hsp hLk hsx hd hok q hdk o1 o4 u1 hd1 u2 hd2 k1 k2 g1 g2; omega), fun H1 s1 L1 => ?_⟩
    obtain ⟨dx1, fs1, g1', g2'⟩ := no L1 (m := "read_number") (by decide +kernel) (by decide +kernel) (by decide +kernel) (by decide +kernel)
    refine ⟨_, rfl, a, dx1, fs1, rfl, g1', g2', _, rfl, _, _, rfl, rfl, _, rfl, a, ws, k + 1, sp.1 + 1, h, sp.2, rfl, L1, u2, by (clear D_Line_has_more D_Line_read_number TW T B hr hL hrl hh hh0 no hLn eaL hk h500 hl1 hLL hsp hLk hsx hd hok q hdk o3 o4 u1 hd1 u2 hd2 k1 k2 g1 g2 s1 L1 g1' g2'; omega), by (clear D_Line_has_more D_Line_read_number TW T B hr hL hrl no hLn eaL hk hle h500 hl1 hLL hsp hLk hsx hd hok q hdk o1 o2 o4 u1 hd1 u2 hd2 k1 k2 g1 g2 s1 L1 g1' g2'; omega), o2, o3, fun H2 s2 L2 => ?_⟩
    obtain ⟨dx2, n2, wl2, c2, g12, _⟩ := L2.ex
    have hL2 : H2 L = some (.lst ls) := s2 _ _ eaL.symm (s1 _ _ eaL.symm hLL)
    have hsp2 := s2.spans g1' (s1.spans g1 hsp)
    refine ⟨_, rfl, .inl ⟨rfl, _, SqL.of hL2⟩, _, rfl, _, rfl, (by show 2 ≤ sizeLine; decide), fun t ht => ?_⟩
    have eLt : L ≠ t := ne_of_none hL2 ht
    have hLt : (upd H2 t (.tup [.int sp.1, .int sp.2])) L = some (.lst ls) := by rw [upd_ne eLt]; exact hL2
    have hlsl := paired_len hsp
    refine ⟨L, ls, .ref t, rfl, rfl, hLt, by rw [hlsl]; exact small1000 (by (clear D_Line_has_more D_Line_read_number TW T B hr hL hrl hh hh0 no hLn eaL hk hle hl1 hLL hsp hLk hsx hd hok q hdk o1 o2 o3 o4 u1 hd1 u2 hd2 k1 k2 g1 g2 s1 L1 g1' g2' s2 L2 g12 hL2 hsp2 ht eLt hLt; omega)), ?_⟩
    refine ⟨l2.length, by rw [List.length_cons]; (clear D_Line_has_more D_Line_read_number TW T B hr hL hrl hh hh0 no hLn eaL hk hle h500 hl1 hLL hsp hLk hsx hd hok q hdk o1 o2 o3 o4 u1 hd1 u2 hd2 k1 k2 g1 g2 s1 L1 g1' g2' s2 L2 g12 hL2 hsp2 ht eLt hLt hlsl; omega), l1 ++ [sp], l2, ls ++ [.ref t], k + 2, sp.2, _, rfl, by rw [List.append_assoc]; rfl, hd2, by (clear D_Line_has_more D_Line_read_number TW T B hr hL hrl hh hh0 no hLn eaL hk hle h500 hl1 hLL hsp hLk hsx hd hok q hdk o1 o2 o3 o4 u1 hd1 u2 hd2 k1 g1 g2 s1 L1 g1' g2' s2 L2 g12 hL2 hsp2 ht eLt hLt hlsl; omega), o4, by (clear D_Line_has_more D_Line_read_number TW T B hr hL hrl hh hh0 no hLn eaL hk hle hLL hsp hLk hsx hd hok q hdk o3 o4 u1 hd1 u2 hd2 k1 k2 g1 g2 s1 L1 g1' g2' s2 L2 g12 hL2 hsp2 ht eLt hLt; omega), by rw [List.length_append, List.length_singleton]; (clear D_Line_has_more D_Line_read_number TW T B hr hL hrl no hLn eaL hk hle hLL hsp hLk hsx hd hok q hdk o4 u1 hd1 u2 hd2 k1 k2 g1 g2 s1 L1 g1' g2' s2 L2 g12 hL2 hsp2 ht eLt hLt; omega), by rw [List.length_append, List.length_singleton]; (clear D_Line_has_more D_Line_read_number TW T B hr hL hrl hh hh0 no hLn eaL hk hle h500 hLL hsp hLk hsx hd hok q hdk o3 o4 u1 hd1 u2 hd2 k1 k2 g1 g2 s1 L1 g1' g2' s2 L2 g12 hL2 hsp2 ht eLt hLt; omega), rfl, upd_same, ?_, ?_, ?_⟩
    · exact Spans.upd (paired_snoc (hsp2.same (same_new ht _)) ⟨t, rfl, SqT.of upd_same⟩) hLt
    · have L2t := L2.same (same_new ht (.tup [.int sp.1, .int sp.2]))
      obtain ⟨dx3, n3, wl3, c3, z1, z2⟩ := L2t.ex
      refine ⟨⟨dx3, n3, wl3, c3, by rw [upd_ne eaL]; exact z1, ?_⟩, L2t.ok⟩
      rw [upd_ne]
      · exact z2
      · intro z
        rw [z, hLt] at z2
        have e : ls = ws.map V.str := HO.lst.inj (Option.some.inj z2)
        cases ws with
        | nil => exact absurd k1 (Nat.not_lt_zero _)
        | cons w wr =>
          rw [e] at hsp
          cases hsp with
          | cons y _ =>
            obtain ⟨_, y1, _⟩ := y
            cases y1
    · exact SameX.new hLn (((hsx.trans s1).trans s2).trans (SameX.of (same_new ht _)))
/-- the names of a sort's things -/
def NamesAt (K : PySem.W.Frag) (H : Hp) (th : Addr) (i : Nat) (ns : List Str) : Prop := ∃ (ls : List Addr) (l : Addr) (xs : List V), SqT K H th (ls.map V.ref) ∧ ls[i]? = some l ∧ SqL K H l xs ∧ Paired (Named K H) xs ns ∧ ns.length ≤ 100
theorem NamesAt.same {K : PySem.W.Frag} {H H' : Hp} {th : Addr} {i : Nat} {ns : List Str} (h : NamesAt K H th i ns) (s : Same H H') : NamesAt K H' th i ns := by
  obtain ⟨ls, l, xs, h1, h2, h3, h4, h5⟩ := h
  exact ⟨ls, l, xs, Same.tup s h1, h2, s.seq h3, Paired.mapP h4 fun _ _ z => z.same s, h5⟩
/-- a line is none of the named objects: it has no name -/
theorem SameX.named {K : PySem.W.Frag} {H H' : Hp} {a C dx : Addr} {fs : List (Str × V)} {x : V} {nm : Str} (s : SameX a H H') (ha : H a = some (.ins C dx fs)) (hn : fs.lookup ("name" : Str) = none) (h : Named K H x nm) : Named K H' x nm := by
  obtain ⟨b, D, dy, gs, h1, h2, h3, h4, h5⟩ := h
  refine ⟨b, D, dy, gs, h1, s _ _ (fun z => ?_) h2, h3, h4, h5⟩
  rw [z, ha] at h2
  injection h2 with h2
  injection h2 with z1 z2 z3
  rw [← z3, hn] at h5
  cases h5
theorem NamesAt.sameX {K : PySem.W.Frag} {CL : Addr} {H H' : Hp} {a : Addr} {ws : List Str} {r : Nat} {th : Addr} {i : Nat} {ns : List Str} (h : NamesAt K H th i ns) (hL : LnAt CL H a ws r) (s : SameX a H H') : NamesAt K H' th i ns := by
  obtain ⟨ls, l, xs, h1, h2, h3, h4, h5⟩ := h
  obtain ⟨dx, n, wl, c, g1, g2⟩ := hL.ex
  exact ⟨ls, l, xs, s.sqT g1 h1, h2, s.sqL g1 h3, Paired.mapP h4 fun _ _ z => s.named g1 (lnF_no (by decide +kernel) (by decide +kernel) (by decide +kernel) (by decide +kernel)) z, h5⟩
theorem le_min2 {n i j : Int} (h1 : n ≤ i) (h2 : n ≤ j) : n ≤ (if j < i then j else i) := by split <;> assumption
theorem LnAt.no {C : Addr} {H : Hp} {a : Addr} {ws : List Str} {r : Nat} (h : LnAt C H a ws r) {m : Str} (z1 : (m == ("number" : Str)) = false) (z2 : (m == ("words" : Str)) = false) (z3 : (m == ("read" : Str)) = false) (z4 : (m == ("column" : Str)) = false) :
    ∃ dx fs, H a = some (.ins C dx fs) ∧ fs.lookup m = none := by
  obtain ⟨dx, n, wl, c, h1, h2⟩ := h.ex
  exact ⟨dx, _, h1, lnF_no z1 z2 z3 z4⟩
theorem SameX.free {a x : Addr} {H H' : Hp} {o : HO} (s : SameX a H H') (ha : H' a = some o) (h : H' x = none) : H x = none := by
  cases q : H x with
  | none => rfl
  | some u =>
    by_cases e : x = a
    · rw [e, ha] at h; cases h
    · rw [s x u e q] at h; cases h
theorem LnAt.there {C : Addr} {H : Hp} {a : Addr} {ws : List Str} {r : Nat} (h : LnAt C H a ws r) : ∃ o, H a = some o := by
  obtain ⟨dx, n, wl, c, h1, h2⟩ := h.ex
  exact ⟨_, h1⟩
theorem same_made {H : Hp} {x dx : Addr} {o u v : HO} (hx : H x = none) (hd : H dx = none) : Same H (upd (upd (upd H dx o) x u) x v) := fun b z e => by
  have n1 : b ≠ x := ne_of_none e hx
  rw [upd_ne n1, upd_ne n1, upd_ne (ne_of_none e hd)]
  exact e
def spRdSat (K : PySem.W.Frag) (CL CS : Addr) : Sp := fun vs H Q _ => ∃ (a : Addr) (h : Int) (th : Addr) (s : SatD) (ns : List Str), vs = [.ref a, .int h, .ref th] ∧ LnAt CL H a (wSat s) 1 ∧ NamesAt K H th 0 ns ∧ s.name ∉ ns ∧ SatOk h s ∧ 1 ≤ h ∧ h ≤ 500 ∧
  ∀ b H', H b = none → SameX a H H' → LnAt CL H' a (wSat s) (wSat s).length → SatAt K CS H' (.ref b) s → Q (.ref b) H'
theorem d_read_satellite (T : TxtW K mg CL CS CT CR CP CW aS aR fS fT fR fP) (D_names_of : DefOk P w K mg base CX0 1 "names_of" ["things"] (spNames K)) (D_Line_read_new_name : MDef P w K mg base CX0 4 CL "read_new_name" ["self", "used"] [] (spNewName K CL))
    (D_Line_read_field : MDef P w K mg base CX0 4 CL "read_field" ["self", "word", "least", "most"] [] (spField CL)) (D_Line_read_choice : MDef P w K mg base CX0 3 CL "read_choice" ["self", "choices"] [] (spChoice K CL))
    (D_read_light : DefOk P w K mg base CX0 4 "read_light" ["line", "horizon"] (spLight K CL)) (DI_Satellite : MDef P w K mg base CX0 1 CS "__init__" ["self", "name", "store", "battery", "start_level", "reserve", "charge", "settle", "light"] [] (spI_Satellite CS))
    (A : At K mg "read_satellite" s_read_satellite ["line", "horizon", "things"]) : DefOk P w K mg base CX0 5 "read_satellite" ["line", "horizon", "things"] (spRdSat K CL CS) := by
  have B := T.L.B
  refine A.ok sc_read_satellite (fun vs H Q E h => ?_) (fun f cdv A outer s H vs Q E hr h => ?_)
  · obtain ⟨a, h, th, s, ns, rfl, _⟩ := h
    rfl
  obtain ⟨a, h, th, sd, ns, rfl, hL, hN, hno, ok, hh, hh5, q⟩ := h
  refine ⟨_, pss_cons (ps_set (i := 3) sc_read_satellite.nd rfl (Or.inl rfl) (pe_m D_Line_read_new_name T.c_Line.cl (hr.mono (by omega)) pass0 (pv 0) (pa_cons (pe_f D_names_of (hr.mono (by omega)) pass0 (pa_cons (pe_ix ix_tup (pv 2) (pe_gi T.g_SATELLITES) (fun _ _ => rfl)) pa_nil)) pa_nil)))
  (pss_cons (ps_set (i := 4) sc_read_satellite.nd rfl (Or.inl rfl) (pe_m D_Line_read_field T.c_Line.cl (hr.mono (by omega)) pass0 (pv 0) (pa_cons pe_str (pa_cons pe_int (pa_cons (pe_gi T.g_MOST_UNITS) pa_nil)))))
  (pss_cons (ps_set (i := 5) sc_read_satellite.nd rfl (Or.inl rfl) (pe_m D_Line_read_field T.c_Line.cl (hr.mono (by omega)) pass0 (pv 0) (pa_cons pe_str (pa_cons pe_int (pa_cons (pe_gi T.g_MOST_UNITS) pa_nil)))))
  (pss_cons (ps_set (i := 6) sc_read_satellite.nd rfl (Or.inl rfl) (pe_m D_Line_read_field T.c_Line.cl (hr.mono (by omega)) pass0 (pv 0) (pa_cons pe_str (pa_cons pe_int (pa_cons (pv 5) pa_nil)))))
  (pss_cons (ps_set (i := 7) sc_read_satellite.nd rfl (Or.inl rfl) (pe_m D_Line_read_field T.c_Line.cl (hr.mono (by omega)) pass0 (pv 0) (pa_cons pe_str (pa_cons pe_int (pa_cons (pv 6) pa_nil)))))
  (pss_cons (ps_set (i := 8) sc_read_satellite.nd rfl (Or.inl rfl) (pe_m D_Line_read_field T.c_Line.cl (hr.mono (by omega)) pass0 (pv 0) (pa_cons pe_str (pa_cons pe_int (pa_cons (pe_gi T.g_MOST_CHARGE) pa_nil)))))
  (pss_cons (ps_set (i := 9) sc_read_satellite.nd rfl (Or.inl rfl) (pe_m D_Line_read_field T.c_Line.cl (hr.mono (by omega)) pass0 (pv 0) (pa_cons pe_str (pa_cons pe_int (pa_cons (pe_gi T.g_MOST_DELAY) pa_nil)))))
  (pss_cons (ps_expr (pe_m D_Line_read_choice T.c_Line.cl (hr.mono (by omega)) pass0 (pv 0) (pa_cons (pe_tup (pa_cons pe_str pa_nil)) pa_nil)))
  (pss_cons (ps_set (i := 10) sc_read_satellite.nd rfl (Or.inl rfl) (pe_f D_read_light (hr.mono (by omega)) pass0 (pa_cons (pv 0) (pa_cons (pv 1) pa_nil))))
  (pss_one (ps_ret (pe_mk DI_Satellite T.c_Satellite (hr.mono (by omega)) pass0 (pa_cons (pv 3) (pa_cons (pv 4) (pa_cons (pv 5) (pa_cons (pv 6) (pa_cons (pv 7) (pa_cons (pv 8) (pa_cons (pv 9) (pa_cons (pv 10) pa_nil)))))))))))))))))))
    , ?_⟩
  have b1 := ok.store; have b2 := ok.battery; have b3 := ok.level; have b4 := ok.reserve; have b5 := ok.charge; have b6 := ok.settle
  obtain ⟨ls, l, xs, t1, t2, t3, t4, t5⟩ := hN
  obtain ⟨_, _, g0, z0⟩ := LnAt.no hL (m := "read_new_name") (by decide +kernel) (by decide +kernel) (by decide +kernel) (by decide +kernel)
  refine ⟨_, rfl, a, _, _, rfl, g0, z0, _, rfl, th, _, _, .ref l, rfl, rfl, t1, atI_nat (j := 0) (by rw [List.getElem?_map, t2]; rfl), l, xs, ns, rfl, t3, t4, t5, fun p H1 s1 np hp => ?_⟩
  refine ⟨a, _, 1, p, ns, sd.name, rfl, hL.same s1, SqL.of hp, rfl, ok.name, hno, fun H2 s2 L2 => ?_⟩
  (obtain ⟨_, _, g2, z2⟩ := LnAt.no L2 (m := "read_field") (by decide +kernel) (by decide +kernel) (by decide +kernel) (by decide +kernel); refine ⟨_, rfl, a, _, _, rfl, g2, z2, a, _, 2, _, _, _, sd.store, rfl, L2, rfl, rfl, by omega, by omega, by omega, by omega, fun H3 s3 L3 => ?_⟩)
  (obtain ⟨_, _, g3, z3⟩ := LnAt.no L3 (m := "read_field") (by decide +kernel) (by decide +kernel) (by decide +kernel) (by decide +kernel); refine ⟨_, rfl, a, _, _, rfl, g3, z3, a, _, 4, _, _, _, sd.battery, rfl, L3, rfl, rfl, by (clear T D_names_of D_Line_read_new_name D_Line_read_field D_Line_read_choice D_read_light DI_Satellite B hr hL hno ok hh hh5 q b1 b3 b4 b5 b6 t1 t2 t3 t4 t5 g0 z0 s1 np hp s2 L2 g2 z2 s3 L3 g3 z3; omega), by (clear T D_names_of D_Line_read_new_name D_Line_read_field D_Line_read_choice D_read_light DI_Satellite B hr hL hno ok hh hh5 q b1 b3 b4 b5 b6 t1 t2 t3 t4 t5 g0 z0 s1 np hp s2 L2 g2 z2 s3 L3 g3 z3; omega), by (clear T D_names_of D_Line_read_new_name D_Line_read_field D_Line_read_choice D_read_light DI_Satellite B hr hL hno ok hh hh5 q b1 b3 b4 b5 b6 t1 t2 t3 t4 t5 g0 z0 s1 np hp s2 L2 g2 z2 s3 L3 g3 z3; omega), by (clear T D_names_of D_Line_read_new_name D_Line_read_field D_Line_read_choice D_read_light DI_Satellite B hr hL hno ok hh hh5 q b1 b3 b4 b5 b6 t1 t2 t3 t4 t5 g0 z0 s1 np hp s2 L2 g2 z2 s3 L3 g3 z3; omega), fun H4 s4 L4 => ?_⟩)
  (obtain ⟨_, _, g4, z4⟩ := LnAt.no L4 (m := "read_field") (by decide +kernel) (by decide +kernel) (by decide +kernel) (by decide +kernel); refine ⟨_, rfl, a, _, _, rfl, g4, z4, _, rfl, a, _, 6, _, _, _, sd.level, rfl, L4, rfl, rfl, by (clear T D_names_of D_Line_read_new_name D_Line_read_field D_Line_read_choice D_read_light DI_Satellite B hr hL hno ok hh hh5 q b1 b2 b4 b5 b6 t1 t2 t3 t4 t5 g0 z0 s1 np hp s2 L2 g2 z2 s3 L3 g3 z3 s4 L4 g4 z4; omega), by (clear T D_names_of D_Line_read_new_name D_Line_read_field D_Line_read_choice D_read_light DI_Satellite B hr hL hno ok hh hh5 q b1 b4 b5 b6 t1 t2 t3 t4 t5 g0 z0 s1 np hp s2 L2 g2 z2 s3 L3 g3 z3 s4 L4 g4 z4; omega), by (clear T D_names_of D_Line_read_new_name D_Line_read_field D_Line_read_choice D_read_light DI_Satellite B hr hL hno ok hh hh5 q b1 b2 b4 b5 b6 t1 t2 t3 t4 t5 g0 z0 s1 np hp s2 L2 g2 z2 s3 L3 g3 z3 s4 L4 g4 z4; omega), by (clear T D_names_of D_Line_read_new_name D_Line_read_field D_Line_read_choice D_read_light DI_Satellite B hr hL hno ok hh hh5 q b1 b2 b4 b5 b6 t1 t2 t3 t4 t5 g0 z0 s1 np hp s2 L2 g2 z2 s3 L3 g3 z3 s4 L4 g4 z4; omega), fun H5 s5 L5 => ?_⟩)
  (obtain ⟨_, _, g5, z5⟩ := LnAt.no L5 (m := "read_field") (by decide +kernel) (by decide +kernel) (by decide +kernel) (by decide +kernel); refine ⟨_, rfl, a, _, _, rfl, g5, z5, _, rfl, a, _, 8, _, _, _, sd.reserve, rfl, L5, rfl, rfl, by (clear T D_names_of D_Line_read_new_name D_Line_read_field D_Line_read_choice D_read_light DI_Satellite B hr hL hno ok hh hh5 q b1 b2 b3 b5 b6 t1 t2 t3 t4 t5 g0 z0 s1 np hp s2 L2 g2 z2 s3 L3 g3 z3 s4 L4 g4 z4 s5 L5 g5 z5; omega), by (clear T D_names_of D_Line_read_new_name D_Line_read_field D_Line_read_choice D_read_light DI_Satellite B hr hL hno ok hh hh5 q b1 b5 b6 t1 t2 t3 t4 t5 g0 z0 s1 np hp s2 L2 g2 z2 s3 L3 g3 z3 s4 L4 g4 z4 s5 L5 g5 z5; omega), by (clear T D_names_of D_Line_read_new_name D_Line_read_field D_Line_read_choice D_read_light DI_Satellite B hr hL hno ok hh hh5 q b1 b2 b3 b5 b6 t1 t2 t3 t4 t5 g0 z0 s1 np hp s2 L2 g2 z2 s3 L3 g3 z3 s4 L4 g4 z4 s5 L5 g5 z5; omega), by (clear T D_names_of D_Line_read_new_name D_Line_read_field D_Line_read_choice D_read_light DI_Satellite B hr hL hno ok hh hh5 q b1 b2 b3 b5 b6 t1 t2 t3 t4 t5 g0 z0 s1 np hp s2 L2 g2 z2 s3 L3 g3 z3 s4 L4 g4 z4 s5 L5 g5 z5; omega), fun H6 s6 L6 => ?_⟩)
  (obtain ⟨_, _, g6, z6⟩ := LnAt.no L6 (m := "read_field") (by decide +kernel) (by decide +kernel) (by decide +kernel) (by decide +kernel); refine ⟨_, rfl, a, _, _, rfl, g6, z6, a, _, 10, _, _, _, sd.charge, rfl, L6, rfl, rfl, by (clear T D_names_of D_Line_read_new_name D_Line_read_field D_Line_read_choice D_read_light DI_Satellite B hr hL hno ok hh hh5 q b1 b2 b3 b4 b6 t1 t2 t3 t4 t5 g0 z0 s1 np hp s2 L2 g2 z2 s3 L3 g3 z3 s4 L4 g4 z4 s5 L5 g5 z5 s6 L6 g6 z6; omega), by (clear T D_names_of D_Line_read_new_name D_Line_read_field D_Line_read_choice D_read_light DI_Satellite B hr hL hno ok hh hh5 q b1 b2 b3 b4 b6 t1 t2 t3 t4 t5 g0 z0 s1 np hp s2 L2 g2 z2 s3 L3 g3 z3 s4 L4 g4 z4 s5 L5 g5 z5 s6 L6 g6 z6; omega), by (clear T D_names_of D_Line_read_new_name D_Line_read_field D_Line_read_choice D_read_light DI_Satellite B hr hL hno ok hh hh5 q b1 b2 b3 b4 b6 t1 t2 t3 t4 t5 g0 z0 s1 np hp s2 L2 g2 z2 s3 L3 g3 z3 s4 L4 g4 z4 s5 L5 g5 z5 s6 L6 g6 z6; omega), by (clear T D_names_of D_Line_read_new_name D_Line_read_field D_Line_read_choice D_read_light DI_Satellite B hr hL hno ok hh hh5 q b1 b2 b3 b4 b6 t1 t2 t3 t4 t5 g0 z0 s1 np hp s2 L2 g2 z2 s3 L3 g3 z3 s4 L4 g4 z4 s5 L5 g5 z5 s6 L6 g6 z6; omega), fun H7 s7 L7 => ?_⟩)
  (obtain ⟨_, _, g7, z7⟩ := LnAt.no L7 (m := "read_field") (by decide +kernel) (by decide +kernel) (by decide +kernel) (by decide +kernel); refine ⟨_, rfl, a, _, _, rfl, g7, z7, a, _, 12, _, _, _, sd.settle, rfl, L7, rfl, rfl, by (clear T D_names_of D_Line_read_new_name D_Line_read_field D_Line_read_choice D_read_light DI_Satellite B hr hL hno ok hh hh5 q b1 b2 b3 b4 b5 t1 t2 t3 t4 t5 g0 z0 s1 np hp s2 L2 g2 z2 s3 L3 g3 z3 s4 L4 g4 z4 s5 L5 g5 z5 s6 L6 g6 z6 s7 L7 g7 z7; omega), by (clear T D_names_of D_Line_read_new_name D_Line_read_field D_Line_read_choice D_read_light DI_Satellite B hr hL hno ok hh hh5 q b1 b2 b3 b4 b5 t1 t2 t3 t4 t5 g0 z0 s1 np hp s2 L2 g2 z2 s3 L3 g3 z3 s4 L4 g4 z4 s5 L5 g5 z5 s6 L6 g6 z6 s7 L7 g7 z7; omega), by (clear T D_names_of D_Line_read_new_name D_Line_read_field D_Line_read_choice D_read_light DI_Satellite B hr hL hno ok hh hh5 q b1 b2 b3 b4 b5 t1 t2 t3 t4 t5 g0 z0 s1 np hp s2 L2 g2 z2 s3 L3 g3 z3 s4 L4 g4 z4 s5 L5 g5 z5 s6 L6 g6 z6 s7 L7 g7 z7; omega), by (clear T D_names_of D_Line_read_new_name D_Line_read_field D_Line_read_choice D_read_light DI_Satellite B hr hL hno ok hh hh5 q b1 b2 b3 b4 b5 t1 t2 t3 t4 t5 g0 z0 s1 np hp s2 L2 g2 z2 s3 L3 g3 z3 s4 L4 g4 z4 s5 L5 g5 z5 s6 L6 g6 z6 s7 L7 g7 z7; omega), fun H8 s8 L8 => ?_⟩)
  obtain ⟨_, _, g8, z8⟩ := LnAt.no L8 (m := "read_choice") (by decide +kernel) (by decide +kernel) (by decide +kernel) (by decide +kernel)
  refine ⟨_, rfl, a, _, _, rfl, g8, z8, (by show 1 ≤ sizeLine; decide), fun t ht => ?_⟩
  refine ⟨a, _, 14, t, [Str.ofString "light"], Str.ofString "light", rfl, L8.same (same_new ht _), SqT.of upd_same, rfl, List.mem_cons_self, fun H9 s9 L9 => ?_⟩
  refine ⟨_, rfl, _, rfl, a, _, 15, h, sd.light, rfl, L9, by unfold wSat; rw [List.length_append]; exact Nat.le_add_right 15 _, rfl, ok.light, hh5, by omega, fun t ls' H10 s10 L10 htt hsp => ?_⟩
  refine ⟨_, rfl, _, rfl, _, rfl, _, rfl, _, rfl, _, rfl, _, rfl, _, rfl, fun x dx hx hdx ne => ?_⟩
  refine ⟨x, dx, _, _, _, _, _, _, _, _, rfl, upd_same, rfl, ?_⟩
  have sA : SameX a H H10 := (((((((((SameX.of s1).trans s2).trans s3).trans s4).trans s5).trans s6).trans s7).trans s8).trans (SameX.of (same_new ht _))).trans (s9.trans s10)
  have sB := same_made (o := .own x) (u := .ins CS dx []) (v := .ins CS dx (satF sd t)) hx hdx
  obtain ⟨o, ho⟩ := L10.there
  refine q x _ (sA.free ho hx) (sA.trans (SameX.of sB)) (L10.same sB) ⟨x, dx, t, ls', rfl, upd_same, SqT.of (sB _ _ htt), hsp.same sB⟩
def spRdSta (K : PySem.W.Frag) (CL CT : Addr) : Sp := fun vs H Q _ => ∃ (a : Addr) (h : Int) (th : Addr) (s : StaD) (ns : List Str), vs = [.ref a, .int h, .ref th] ∧ LnAt CL H a (wSta s) 1 ∧ NamesAt K H th 1 ns ∧ s.name ∉ ns ∧ StaOk s ∧
  ∀ b H', H b = none → SameX a H H' → LnAt CL H' a (wSta s) (wSta s).length → StaAt CT H' (.ref b) s → Q (.ref b) H'
theorem d_read_station (T : TxtW K mg CL CS CT CR CP CW aS aR fS fT fR fP) (D_names_of : DefOk P w K mg base CX0 1 "names_of" ["things"] (spNames K)) (D_Line_read_new_name : MDef P w K mg base CX0 4 CL "read_new_name" ["self", "used"] [] (spNewName K CL))
    (D_Line_read_field : MDef P w K mg base CX0 4 CL "read_field" ["self", "word", "least", "most"] [] (spField CL)) (DI_Station : MDef P w K mg base CX0 1 CT "__init__" ["self", "name", "antennas", "turn"] [] (spI_Station CT))
    (A : At K mg "read_station" s_read_station ["line", "_", "things"]) : DefOk P w K mg base CX0 5 "read_station" ["line", "_", "things"] (spRdSta K CL CT) := by
  have B := T.L.B
  refine A.ok sc_read_station (fun vs H Q E h => ?_) (fun f cdv A outer s H vs Q E hr h => ?_)
  · obtain ⟨a, h, th, s, ns, rfl, _⟩ := h
    rfl
  obtain ⟨a, h, th, sd, ns, rfl, hL, hN, hno, ok, q⟩ := h
  refine ⟨_, pss_cons (ps_set (i := 3) sc_read_station.nd rfl (Or.inl rfl) (pe_m D_Line_read_new_name T.c_Line.cl (hr.mono (by omega)) pass0 (pv 0) (pa_cons (pe_f D_names_of (hr.mono (by omega)) pass0 (pa_cons (pe_ix ix_tup (pv 2) (pe_gi T.g_STATIONS) (fun _ _ => rfl)) pa_nil)) pa_nil)))
  (pss_cons (ps_set (i := 4) sc_read_station.nd rfl (Or.inl rfl) (pe_m D_Line_read_field T.c_Line.cl (hr.mono (by omega)) pass0 (pv 0) (pa_cons pe_str (pa_cons pe_int (pa_cons (pe_gi T.g_MOST_ANTENNAS) pa_nil)))))
  (pss_cons (ps_set (i := 5) sc_read_station.nd rfl (Or.inl rfl) (pe_m D_Line_read_field T.c_Line.cl (hr.mono (by omega)) pass0 (pv 0) (pa_cons pe_str (pa_cons pe_int (pa_cons (pe_gi T.g_MOST_DELAY) pa_nil)))))
  (pss_one (ps_ret (pe_mk DI_Station T.c_Station (hr.mono (by omega)) pass0 (pa_cons (pv 3) (pa_cons (pv 4) (pa_cons (pv 5) pa_nil))))))))
    , ?_⟩
  have b1 := ok.antennas; have b2 := ok.turn
  obtain ⟨ls, l, xs, t1, t2, t3, t4, t5⟩ := hN
  obtain ⟨_, _, g0, z0⟩ := LnAt.no hL (m := "read_new_name") (by decide +kernel) (by decide +kernel) (by decide +kernel) (by decide +kernel)
  refine ⟨_, rfl, a, _, _, rfl, g0, z0, _, rfl, th, _, _, .ref l, rfl, rfl, t1, atI_nat (j := 1) (by rw [List.getElem?_map, t2]; rfl), l, xs, ns, rfl, t3, t4, t5, fun p H1 s1 np hp => ?_⟩
  refine ⟨a, _, 1, p, ns, sd.name, rfl, hL.same s1, SqL.of hp, rfl, ok.name, hno, fun H2 s2 L2 => ?_⟩
  (obtain ⟨_, _, g2, z2⟩ := LnAt.no L2 (m := "read_field") (by decide +kernel) (by decide +kernel) (by decide +kernel) (by decide +kernel); refine ⟨_, rfl, a, _, _, rfl, g2, z2, a, _, 2, _, _, _, sd.antennas, rfl, L2, rfl, rfl, by omega, by omega, by omega, by omega, fun H3 s3 L3 => ?_⟩)
  (obtain ⟨_, _, g3, z3⟩ := LnAt.no L3 (m := "read_field") (by decide +kernel) (by decide +kernel) (by decide +kernel) (by decide +kernel); refine ⟨_, rfl, a, _, _, rfl, g3, z3, a, _, 4, _, _, _, sd.turn, rfl, L3, rfl, rfl, by omega, by omega, by omega, by (clear T D_names_of D_Line_read_new_name D_Line_read_field DI_Station B hr hL hno ok q b1 t1 t2 t3 t4 t5 g0 z0 s1 np hp s2 L2 g2 z2 s3 L3 g3 z3; omega), fun H10 s4 L10 => ?_⟩)
  refine ⟨_, rfl, _, rfl, _, rfl, fun x dx hx hdx ne => ?_⟩
  refine ⟨x, dx, _, _, _, rfl, upd_same, rfl, ?_⟩
  have sA : SameX a H H10 := (((SameX.of s1).trans s2).trans s3).trans s4
  have sB := same_made (o := .own x) (u := .ins CT dx []) (v := .ins CT dx (staF sd)) hx hdx
  obtain ⟨o, ho⟩ := L10.there
  exact q x _ (sA.free ho hx) (sA.trans (SameX.of sB)) (L10.same sB) ⟨x, dx, rfl, upd_same⟩
def spRdRec (K : PySem.W.Frag) (CL CR : Addr) : Sp := fun vs H Q _ => ∃ (a : Addr) (th : Addr) (W : WorldD) (s : RecD) (ns : List Str), vs = [.ref a, .int W.horizon, .ref th] ∧ LnAt CL H a (wRec W s) 1 ∧ NamesAt K H th 2 ns ∧ NamesAt K H th 0 (W.sats.map (·.name)) ∧ s.name ∉ ns ∧ WorldOk W ∧ RecOk W s ∧
  ∀ b H', H b = none → SameX a H H' → LnAt CL H' a (wRec W s) (wRec W s).length → RecAt CR H' (.ref b) s → Q (.ref b) H'
theorem d_read_recording (T : TxtW K mg CL CS CT CR CP CW aS aR fS fT fR fP) (D_names_of : DefOk P w K mg base CX0 1 "names_of" ["things"] (spNames K)) (D_Line_read_new_name : MDef P w K mg base CX0 4 CL "read_new_name" ["self", "used"] [] (spNewName K CL))
    (D_Line_read_field : MDef P w K mg base CX0 4 CL "read_field" ["self", "word", "least", "most"] [] (spField CL)) (D_Line_read_choice : MDef P w K mg base CX0 3 CL "read_choice" ["self", "choices"] [] (spChoice K CL))
    (D_Line_read_known_name : MDef P w K mg base CX0 4 CL "read_known_name" ["self", "names", "least"] [.int 0] (spKnownName K CL))
    (DI_Recording : MDef P w K mg base CX0 1 CR "__init__" ["self", "name", "satellite", "earliest", "latest", "length", "size", "energy", "worth", "rank", "deadline"] [] (spI_Recording CR))
    (A : At K mg "read_recording" s_read_recording ["line", "horizon", "things"]) : DefOk P w K mg base CX0 5 "read_recording" ["line", "horizon", "things"] (spRdRec K CL CR) := by
  have B := T.L.B
  refine A.ok sc_read_recording (fun vs H Q E h => ?_) (fun f cdv A outer s H vs Q E hr h => ?_)
  · obtain ⟨a, th, W, s, ns, rfl, _⟩ := h
    rfl
  obtain ⟨a, th, W, sd, ns, rfl, hL, hN, hS, hno, wok, ok, q⟩ := h
  refine ⟨_, pss_cons (ps_set (i := 3) sc_read_recording.nd rfl (Or.inl rfl) (pe_m D_Line_read_new_name T.c_Line.cl (hr.mono (by omega)) pass0 (pv 0) (pa_cons (pe_f D_names_of (hr.mono (by omega)) pass0 (pa_cons (pe_ix ix_tup (pv 2) (pe_gi T.g_RECORDINGS) (fun _ _ => rfl)) pa_nil)) pa_nil)))
  (pss_cons (ps_expr (pe_m D_Line_read_choice T.c_Line.cl (hr.mono (by omega)) pass0 (pv 0) (pa_cons (pe_tup (pa_cons pe_str pa_nil)) pa_nil)))
  (pss_cons (ps_set (i := 4) sc_read_recording.nd rfl (Or.inl rfl) (pe_m D_Line_read_known_name T.c_Line.cl (hr.mono (by omega)) pass0 (pv 0) (pa_cons (pe_f D_names_of (hr.mono (by omega)) pass0 (pa_cons (pe_ix ix_tup (pv 2) (pe_gi T.g_SATELLITES) (fun _ _ => rfl)) pa_nil)) pa_nil)))
  (pss_cons (ps_set (i := 5) sc_read_recording.nd rfl (Or.inl rfl) (pe_m D_Line_read_field T.c_Line.cl (hr.mono (by omega)) pass0 (pv 0) (pa_cons pe_str (pa_cons pe_int (pa_cons (pe_op op_sub (pv 1) pe_int) pa_nil)))))
  (pss_cons (ps_set (i := 6) sc_read_recording.nd rfl (Or.inl rfl) (pe_m D_Line_read_field T.c_Line.cl (hr.mono (by omega)) pass0 (pv 0) (pa_cons pe_str (pa_cons (pv 5) (pa_cons (pe_callB (call_min2 rfl) (by rfl) B.min (by decide +kernel) (pa_cons (pe_op op_add (pv 5) (ClX.pe_cval (pe_ga T.c_World.gC) rfl)) (pa_cons (pe_op op_sub (pv 1) pe_int) pa_nil))) pa_nil)))))
  (pss_cons (ps_set (i := 7) sc_read_recording.nd rfl (Or.inl rfl) (pe_m D_Line_read_field T.c_Line.cl (hr.mono (by omega)) pass0 (pv 0) (pa_cons pe_str (pa_cons pe_int (pa_cons (pe_op op_sub (pv 1) (pv 6)) pa_nil)))))
  (pss_cons (ps_set (i := 8) sc_read_recording.nd rfl (Or.inl rfl) (pe_m D_Line_read_field T.c_Line.cl (hr.mono (by omega)) pass0 (pv 0) (pa_cons pe_str (pa_cons pe_int (pa_cons (pe_gi T.g_MOST_UNITS) pa_nil)))))
  (pss_cons (ps_set (i := 9) sc_read_recording.nd rfl (Or.inl rfl) (pe_m D_Line_read_field T.c_Line.cl (hr.mono (by omega)) pass0 (pv 0) (pa_cons pe_str (pa_cons pe_int (pa_cons (pe_gi T.g_MOST_UNITS) pa_nil)))))
  (pss_cons (ps_set (i := 10) sc_read_recording.nd rfl (Or.inl rfl) (pe_m D_Line_read_field T.c_Line.cl (hr.mono (by omega)) pass0 (pv 0) (pa_cons pe_str (pa_cons pe_int (pa_cons (pe_gi T.g_MOST_WORTH) pa_nil)))))
  (pss_cons (ps_set (i := 11) sc_read_recording.nd rfl (Or.inl rfl) (pe_m D_Line_read_field T.c_Line.cl (hr.mono (by omega)) pass0 (pv 0) (pa_cons pe_str (pa_cons pe_int (pa_cons (pe_gi T.g_MOST_RANK) pa_nil)))))
  (pss_cons (ps_set (i := 12) sc_read_recording.nd rfl (Or.inl rfl) (pe_m D_Line_read_field T.c_Line.cl (hr.mono (by omega)) pass0 (pv 0) (pa_cons pe_str (pa_cons pe_int (pa_cons (pv 1) pa_nil)))))
  (pss_one (ps_ret (pe_mk DI_Recording T.c_Recording (hr.mono (by omega)) pass0 (pa_cons (pv 3) (pa_cons (pv 4) (pa_cons (pv 5) (pa_cons (pv 6) (pa_cons (pv 7) (pa_cons (pv 8) (pa_cons (pv 9) (pa_cons (pv 10) (pa_cons (pv 11) (pa_cons (pv 12) pa_nil)))))))))))))))))))))))
    , ?_⟩
  have b0 := wok.horizon; have b1 := ok.earliest; have b2 := ok.latest; have b3 := ok.length; have b4 := ok.size; have b5 := ok.energy; have b6 := ok.worth; have b7 := ok.rank; have b8 := ok.deadline
  obtain ⟨ls, l, xs, t1, t2, t3, t4, t5⟩ := hN
  obtain ⟨_, _, g0, z0⟩ := LnAt.no hL (m := "read_new_name") (by decide +kernel) (by decide +kernel) (by decide +kernel) (by decide +kernel)
  refine ⟨_, rfl, a, _, _, rfl, g0, z0, _, rfl, th, _, _, .ref l, rfl, rfl, t1, atI_nat (j := 2) (by rw [List.getElem?_map, t2]; rfl), l, xs, ns, rfl, t3, t4, t5, fun p H1 s1 np hp => ?_⟩
  refine ⟨a, _, 1, p, ns, sd.name, rfl, hL.same s1, SqL.of hp, rfl, ok.name, hno, fun H2 s2 L2 => ?_⟩
  obtain ⟨_, _, g2, z2⟩ := LnAt.no L2 (m := "read_choice") (by decide +kernel) (by decide +kernel) (by decide +kernel) (by decide +kernel)
  refine ⟨_, rfl, a, _, _, rfl, g2, z2, (by show 1 ≤ sizeLine; decide), fun t ht => ?_⟩
  refine ⟨a, _, 2, t, [Str.ofString "by"], Str.ofString "by", rfl, L2.same (same_new ht _), SqT.of upd_same, rfl, List.mem_cons_self, fun H3 s3 L3 => ?_⟩
  have s03 : SameX a H H3 := (((SameX.of s1).trans s2).trans (SameX.of (same_new ht _))).trans s3
  obtain ⟨ls', l', xs', u1, u2, u3, u4, u5⟩ := hS.sameX hL s03
  obtain ⟨_, _, g3, z3⟩ := LnAt.no L3 (m := "read_known_name") (by decide +kernel) (by decide +kernel) (by decide +kernel) (by decide +kernel)
  refine ⟨_, rfl, a, _, _, rfl, g3, z3, _, rfl, th, _, _, .ref l', rfl, rfl, u1, atI_nat (j := 0) (by rw [List.getElem?_map, u2]; rfl), l', xs', _, rfl, u3, u4, u5, fun p2 H4 s4 np2 hp2 => ?_⟩
  refine ⟨a, _, 3, p2, _, satN W sd.sat, sd.sat, 0, rfl, L3.same s4, SqL.of hp2, rfl, satN_ok wok ok.sat, satN_at ok.sat, wok.dSats, by (clear T D_names_of D_Line_read_new_name D_Line_read_field D_Line_read_choice D_Line_read_known_name DI_Recording B hr hL hS hno wok ok q b0 b1 b2 b3 b4 b5 b6 b7 b8 t1 t2 t3 t4 t5 g0 z0 s1 np hp s2 L2 g2 z2 ht s3 L3 s03 u1 u2 u3 u4 u5 g3 z3 s4 np2 hp2; omega), fun H5 s5 L5 => ?_⟩
  (obtain ⟨_, _, g5, z5⟩ := LnAt.no L5 (m := "read_field") (by decide +kernel) (by decide +kernel) (by decide +kernel) (by decide +kernel); refine ⟨_, rfl, a, _, _, rfl, g5, z5, _, rfl, _, _, rfl, rfl, a, _, 4, _, _, _, sd.earliest, rfl, L5, rfl, rfl, by omega, by omega, by omega, by omega, fun H6 s6 L6 => ?_⟩)
  obtain ⟨tk, hv⟩ := T.v_MOST_SHIFT
  (obtain ⟨_, _, g6, z6⟩ := LnAt.no L6 (m := "read_field") (by decide +kernel) (by decide +kernel) (by decide +kernel) (by decide +kernel); refine ⟨_, rfl, a, _, _, rfl, g6, z6, _, rfl, _, rfl, CW, _, _, _, rfl, T.rdW, hv, _, _, rfl, rfl, _, rfl, _, _, rfl, rfl, _, _, rfl, a, _, 6, _, _, _, sd.latest, rfl, L6, rfl, rfl, by omega, by omega, by omega, le_min2 (by (clear T D_names_of D_Line_read_new_name D_Line_read_field D_Line_read_choice D_Line_read_known_name DI_Recording B hr hL hS hno wok ok q b0 b1 b3 b4 b5 b6 b7 b8 t1 t2 t3 t4 t5 g0 z0 s1 np hp s2 L2 g2 z2 ht s3 L3 s03 u1 u2 u3 u4 u5 g3 z3 s4 np2 hp2 s5 L5 g5 z5 s6 L6 hv g6 z6; omega)) (by omega), fun H7 s7 L7 => ?_⟩)
  (obtain ⟨_, _, g7, z7⟩ := LnAt.no L7 (m := "read_field") (by decide +kernel) (by decide +kernel) (by decide +kernel) (by decide +kernel); refine ⟨_, rfl, a, _, _, rfl, g7, z7, _, rfl, _, rfl, _, _, rfl, rfl, a, _, 8, _, _, _, sd.length, rfl, L7, rfl, rfl, by omega, by omega, by (clear T D_names_of D_Line_read_new_name D_Line_read_field D_Line_read_choice D_Line_read_known_name DI_Recording B hr hL hS hno wok ok q b0 b1 b2 b4 b5 b6 b7 b8 t1 t2 t3 t4 t5 g0 z0 s1 np hp s2 L2 g2 z2 ht s3 L3 s03 u1 u2 u3 u4 u5 g3 z3 s4 np2 hp2 s5 L5 g5 z5 s6 L6 hv g6 z6 s7 L7 g7 z7; omega), by omega, fun H8 s8 L8 => ?_⟩)
  (obtain ⟨_, _, g8, z8⟩ := LnAt.no L8 (m := "read_field") (by decide +kernel) (by decide +kernel) (by decide +kernel) (by decide +kernel); refine ⟨_, rfl, a, _, _, rfl, g8, z8, a, _, 10, _, _, _, sd.size, rfl, L8, rfl, rfl, by (clear T D_names_of D_Line_read_new_name D_Line_read_field D_Line_read_choice D_Line_read_known_name DI_Recording B hr hL hS hno wok ok q b0 b1 b2 b3 b5 b6 b7 b8 t1 t2 t3 t4 t5 g0 z0 s1 np hp s2 L2 g2 z2 ht s3 L3 s03 u1 u2 u3 u4 u5 g3 z3 s4 np2 hp2 s5 L5 g5 z5 s6 L6 hv g6 z6 s7 L7 g7 z7 s8 L8 g8 z8; omega), by (clear T D_names_of D_Line_read_new_name D_Line_read_field D_Line_read_choice D_Line_read_known_name DI_Recording B hr hL hS hno wok ok q b0 b1 b2 b3 b5 b6 b7 b8 t1 t2 t3 t4 t5 g0 z0 s1 np hp s2 L2 g2 z2 ht s3 L3 s03 u1 u2 u3 u4 u5 g3 z3 s4 np2 hp2 s5 L5 g5 z5 s6 L6 hv g6 z6 s7 L7 g7 z7 s8 L8 g8 z8; omega), by (clear T D_names_of D_Line_read_new_name D_Line_read_field D_Line_read_choice D_Line_read_known_name DI_Recording B hr hL hS hno wok ok q b0 b1 b2 b3 b5 b6 b7 b8 t1 t2 t3 t4 t5 g0 z0 s1 np hp s2 L2 g2 z2 ht s3 L3 s03 u1 u2 u3 u4 u5 g3 z3 s4 np2 hp2 s5 L5 g5 z5 s6 L6 hv g6 z6 s7 L7 g7 z7 s8 L8 g8 z8; omega), by (clear T D_names_of D_Line_read_new_name D_Line_read_field D_Line_read_choice D_Line_read_known_name DI_Recording B hr hL hS hno wok ok q b0 b1 b2 b3 b5 b6 b7 b8 t1 t2 t3 t4 t5 g0 z0 s1 np hp s2 L2 g2 z2 ht s3 L3 s03 u1 u2 u3 u4 u5 g3 z3 s4 np2 hp2 s5 L5 g5 z5 s6 L6 hv g6 z6 s7 L7 g7 z7 s8 L8 g8 z8; omega), fun H9 s9 L9 => ?_⟩)
  (obtain ⟨_, _, g9, z9⟩ := LnAt.no L9 (m := "read_field") (by decide +kernel) (by decide +kernel) (by decide +kernel) (by decide +kernel); refine ⟨_, rfl, a, _, _, rfl, g9, z9, a, _, 12, _, _, _, sd.energy, rfl, L9, rfl, rfl, by (clear T D_names_of D_Line_read_new_name D_Line_read_field D_Line_read_choice D_Line_read_known_name DI_Recording B hr hL hS hno wok ok q b0 b1 b2 b3 b4 b6 b7 b8 t1 t2 t3 t4 t5 g0 z0 s1 np hp s2 L2 g2 z2 ht s3 L3 s03 u1 u2 u3 u4 u5 g3 z3 s4 np2 hp2 s5 L5 g5 z5 s6 L6 hv g6 z6 s7 L7 g7 z7 s8 L8 g8 z8 s9 L9 g9 z9; omega), by (clear T D_names_of D_Line_read_new_name D_Line_read_field D_Line_read_choice D_Line_read_known_name DI_Recording B hr hL hS hno wok ok q b0 b1 b2 b3 b4 b6 b7 b8 t1 t2 t3 t4 t5 g0 z0 s1 np hp s2 L2 g2 z2 ht s3 L3 s03 u1 u2 u3 u4 u5 g3 z3 s4 np2 hp2 s5 L5 g5 z5 s6 L6 hv g6 z6 s7 L7 g7 z7 s8 L8 g8 z8 s9 L9 g9 z9; omega), by (clear T D_names_of D_Line_read_new_name D_Line_read_field D_Line_read_choice D_Line_read_known_name DI_Recording B hr hL hS hno wok ok q b0 b1 b2 b3 b4 b6 b7 b8 t1 t2 t3 t4 t5 g0 z0 s1 np hp s2 L2 g2 z2 ht s3 L3 s03 u1 u2 u3 u4 u5 g3 z3 s4 np2 hp2 s5 L5 g5 z5 s6 L6 hv g6 z6 s7 L7 g7 z7 s8 L8 g8 z8 s9 L9 g9 z9; omega), by (clear T D_names_of D_Line_read_new_name D_Line_read_field D_Line_read_choice D_Line_read_known_name DI_Recording B hr hL hS hno wok ok q b0 b1 b2 b3 b4 b6 b7 b8 t1 t2 t3 t4 t5 g0 z0 s1 np hp s2 L2 g2 z2 ht s3 L3 s03 u1 u2 u3 u4 u5 g3 z3 s4 np2 hp2 s5 L5 g5 z5 s6 L6 hv g6 z6 s7 L7 g7 z7 s8 L8 g8 z8 s9 L9 g9 z9; omega), fun H10 s10 L10 => ?_⟩)
  (obtain ⟨_, _, g10, z10⟩ := LnAt.no L10 (m := "read_field") (by decide +kernel) (by decide +kernel) (by decide +kernel) (by decide +kernel); refine ⟨_, rfl, a, _, _, rfl, g10, z10, a, _, 14, _, _, _, sd.worth, rfl, L10, rfl, rfl, by (clear T D_names_of D_Line_read_new_name D_Line_read_field D_Line_read_choice D_Line_read_known_name DI_Recording B hr hL hS hno wok ok q b0 b1 b2 b3 b4 b5 b7 b8 t1 t2 t3 t4 t5 g0 z0 s1 np hp s2 L2 g2 z2 ht s3 L3 s03 u1 u2 u3 u4 u5 g3 z3 s4 np2 hp2 s5 L5 g5 z5 s6 L6 hv g6 z6 s7 L7 g7 z7 s8 L8 g8 z8 s9 L9 g9 z9 s10 L10 g10 z10; omega), by (clear T D_names_of D_Line_read_new_name D_Line_read_field D_Line_read_choice D_Line_read_known_name DI_Recording B hr hL hS hno wok ok q b0 b1 b2 b3 b4 b5 b7 b8 t1 t2 t3 t4 t5 g0 z0 s1 np hp s2 L2 g2 z2 ht s3 L3 s03 u1 u2 u3 u4 u5 g3 z3 s4 np2 hp2 s5 L5 g5 z5 s6 L6 hv g6 z6 s7 L7 g7 z7 s8 L8 g8 z8 s9 L9 g9 z9 s10 L10 g10 z10; omega), by (clear T D_names_of D_Line_read_new_name D_Line_read_field D_Line_read_choice D_Line_read_known_name DI_Recording B hr hL hS hno wok ok q b0 b1 b2 b3 b4 b5 b7 b8 t1 t2 t3 t4 t5 g0 z0 s1 np hp s2 L2 g2 z2 ht s3 L3 s03 u1 u2 u3 u4 u5 g3 z3 s4 np2 hp2 s5 L5 g5 z5 s6 L6 hv g6 z6 s7 L7 g7 z7 s8 L8 g8 z8 s9 L9 g9 z9 s10 L10 g10 z10; omega), by (clear T D_names_of D_Line_read_new_name D_Line_read_field D_Line_read_choice D_Line_read_known_name DI_Recording B hr hL hS hno wok ok q b0 b1 b2 b3 b4 b5 b7 b8 t1 t2 t3 t4 t5 g0 z0 s1 np hp s2 L2 g2 z2 ht s3 L3 s03 u1 u2 u3 u4 u5 g3 z3 s4 np2 hp2 s5 L5 g5 z5 s6 L6 hv g6 z6 s7 L7 g7 z7 s8 L8 g8 z8 s9 L9 g9 z9 s10 L10 g10 z10; omega), fun H11 s11 L11 => ?_⟩)
  (obtain ⟨_, _, g11, z11⟩ := LnAt.no L11 (m := "read_field") (by decide +kernel) (by decide +kernel) (by decide +kernel) (by decide +kernel); refine ⟨_, rfl, a, _, _, rfl, g11, z11, a, _, 16, _, _, _, sd.rank, rfl, L11, rfl, rfl, by (clear T D_names_of D_Line_read_new_name D_Line_read_field D_Line_read_choice D_Line_read_known_name DI_Recording B hr hL hS hno wok ok q b0 b1 b2 b3 b4 b5 b6 b8 t1 t2 t3 t4 t5 g0 z0 s1 np hp s2 L2 g2 z2 ht s3 L3 s03 u1 u2 u3 u4 u5 g3 z3 s4 np2 hp2 s5 L5 g5 z5 s6 L6 hv g6 z6 s7 L7 g7 z7 s8 L8 g8 z8 s9 L9 g9 z9 s10 L10 g10 z10 s11 L11 g11 z11; omega), by (clear T D_names_of D_Line_read_new_name D_Line_read_field D_Line_read_choice D_Line_read_known_name DI_Recording B hr hL hS hno wok ok q b0 b1 b2 b3 b4 b5 b6 b8 t1 t2 t3 t4 t5 g0 z0 s1 np hp s2 L2 g2 z2 ht s3 L3 s03 u1 u2 u3 u4 u5 g3 z3 s4 np2 hp2 s5 L5 g5 z5 s6 L6 hv g6 z6 s7 L7 g7 z7 s8 L8 g8 z8 s9 L9 g9 z9 s10 L10 g10 z10 s11 L11 g11 z11; omega), by (clear T D_names_of D_Line_read_new_name D_Line_read_field D_Line_read_choice D_Line_read_known_name DI_Recording B hr hL hS hno wok ok q b0 b1 b2 b3 b4 b5 b6 b8 t1 t2 t3 t4 t5 g0 z0 s1 np hp s2 L2 g2 z2 ht s3 L3 s03 u1 u2 u3 u4 u5 g3 z3 s4 np2 hp2 s5 L5 g5 z5 s6 L6 hv g6 z6 s7 L7 g7 z7 s8 L8 g8 z8 s9 L9 g9 z9 s10 L10 g10 z10 s11 L11 g11 z11; omega), by (clear T D_names_of D_Line_read_new_name D_Line_read_field D_Line_read_choice D_Line_read_known_name DI_Recording B hr hL hS hno wok ok q b0 b1 b2 b3 b4 b5 b6 b8 t1 t2 t3 t4 t5 g0 z0 s1 np hp s2 L2 g2 z2 ht s3 L3 s03 u1 u2 u3 u4 u5 g3 z3 s4 np2 hp2 s5 L5 g5 z5 s6 L6 hv g6 z6 s7 L7 g7 z7 s8 L8 g8 z8 s9 L9 g9 z9 s10 L10 g10 z10 s11 L11 g11 z11; omega), fun H12 s12 L12 => ?_⟩)
  (obtain ⟨_, _, g12, z12⟩ := LnAt.no L12 (m := "read_field") (by decide +kernel) (by decide +kernel) (by decide +kernel) (by decide +kernel); refine ⟨_, rfl, a, _, _, rfl, g12, z12, _, rfl, a, _, 18, _, _, _, sd.deadline, rfl, L12, rfl, rfl, by omega, by omega, by omega, by (clear T D_names_of D_Line_read_new_name D_Line_read_field D_Line_read_choice D_Line_read_known_name DI_Recording B hr hL hS hno wok ok q b0 b1 b2 b3 b4 b5 b6 b7 t1 t2 t3 t4 t5 g0 z0 s1 np hp s2 L2 g2 z2 ht s3 L3 s03 u1 u2 u3 u4 u5 g3 z3 s4 np2 hp2 s5 L5 g5 z5 s6 L6 hv g6 z6 s7 L7 g7 z7 s8 L8 g8 z8 s9 L9 g9 z9 s10 L10 g10 z10 s11 L11 g11 z11 s12 L12 g12 z12; omega), fun H13 s13 L13 => ?_⟩)
  refine ⟨_, rfl, _, rfl, _, rfl, _, rfl, _, rfl, _, rfl, _, rfl, _, rfl, _, rfl, _, rfl, fun x dx hx hdx ne => ?_⟩
  refine ⟨x, dx, _, _, _, _, _, _, _, _, _, _, rfl, upd_same, rfl, ?_⟩
  have sA : SameX a H H13 := (((((((((s03.trans (SameX.of s4)).trans s5).trans s6).trans s7).trans s8).trans s9).trans s10).trans s11).trans s12).trans s13
  have sB := same_made (o := .own x) (u := .ins CR dx []) (v := .ins CR dx (recF sd)) hx hdx
  obtain ⟨o, ho⟩ := L13.there
  exact q x _ (sA.free ho hx) (sA.trans (SameX.of sB)) (L13.same sB) ⟨x, dx, rfl, upd_same⟩
def spRdPas (K : PySem.W.Frag) (CL CP : Addr) : Sp := fun vs H Q _ => ∃ (a : Addr) (th : Addr) (W : WorldD) (s : PasD) (ns : List Str), vs = [.ref a, .int W.horizon, .ref th] ∧ LnAt CL H a (wPas W s) 1 ∧ NamesAt K H th 3 ns ∧ NamesAt K H th 0 (W.sats.map (·.name)) ∧ NamesAt K H th 1 (W.stas.map (·.name)) ∧ s.name ∉ ns ∧ WorldOk W ∧ PasOk W s ∧
  ∀ b H', H b = none → SameX a H H' → LnAt CL H' a (wPas W s) (wPas W s).length → PasAt K CP H' (.ref b) s → Q (.ref b) H'
theorem d_read_pass (T : TxtW K mg CL CS CT CR CP CW aS aR fS fT fR fP) (D_names_of : DefOk P w K mg base CX0 1 "names_of" ["things"] (spNames K)) (D_Line_read_new_name : MDef P w K mg base CX0 4 CL "read_new_name" ["self", "used"] [] (spNewName K CL))
    (D_Line_read_field : MDef P w K mg base CX0 4 CL "read_field" ["self", "word", "least", "most"] [] (spField CL)) (D_Line_read_choice : MDef P w K mg base CX0 3 CL "read_choice" ["self", "choices"] [] (spChoice K CL))
    (D_Line_read_known_name : MDef P w K mg base CX0 4 CL "read_known_name" ["self", "names", "least"] [.int 0] (spKnownName K CL))
    (DI_Pass : MDef P w K mg base CX0 1 CP "__init__" ["self", "name", "satellite", "station", "span", "room", "energy", "fee"] [] (spI_Pass CP))
    (A : At K mg "read_pass" s_read_pass ["line", "horizon", "things"]) : DefOk P w K mg base CX0 5 "read_pass" ["line", "horizon", "things"] (spRdPas K CL CP) := by
  have B := T.L.B
  refine A.ok sc_read_pass (fun vs H Q E h => ?_) (fun f cdv A outer s H vs Q E hr h => ?_)
  · obtain ⟨a, th, W, s, ns, rfl, _⟩ := h
    rfl
  obtain ⟨a, th, W, sd, ns, rfl, hL, hN, hS, hT, hno, wok, ok, q⟩ := h
  refine ⟨_, pss_cons (ps_set (i := 3) sc_read_pass.nd rfl (Or.inl rfl) (pe_m D_Line_read_new_name T.c_Line.cl (hr.mono (by omega)) pass0 (pv 0) (pa_cons (pe_f D_names_of (hr.mono (by omega)) pass0 (pa_cons (pe_ix ix_tup (pv 2) (pe_gi T.g_PASSES) (fun _ _ => rfl)) pa_nil)) pa_nil)))
  (pss_cons (ps_expr (pe_m D_Line_read_choice T.c_Line.cl (hr.mono (by omega)) pass0 (pv 0) (pa_cons (pe_tup (pa_cons pe_str pa_nil)) pa_nil)))
  (pss_cons (ps_set (i := 4) sc_read_pass.nd rfl (Or.inl rfl) (pe_m D_Line_read_known_name T.c_Line.cl (hr.mono (by omega)) pass0 (pv 0) (pa_cons (pe_f D_names_of (hr.mono (by omega)) pass0 (pa_cons (pe_ix ix_tup (pv 2) (pe_gi T.g_SATELLITES) (fun _ _ => rfl)) pa_nil)) pa_nil)))
  (pss_cons (ps_expr (pe_m D_Line_read_choice T.c_Line.cl (hr.mono (by omega)) pass0 (pv 0) (pa_cons (pe_tup (pa_cons pe_str pa_nil)) pa_nil)))
  (pss_cons (ps_set (i := 5) sc_read_pass.nd rfl (Or.inl rfl) (pe_m D_Line_read_known_name T.c_Line.cl (hr.mono (by omega)) pass0 (pv 0) (pa_cons (pe_f D_names_of (hr.mono (by omega)) pass0 (pa_cons (pe_ix ix_tup (pv 2) (pe_gi T.g_STATIONS) (fun _ _ => rfl)) pa_nil)) pa_nil)))
  (pss_cons (ps_set (i := 6) sc_read_pass.nd rfl (Or.inl rfl) (pe_m D_Line_read_field T.c_Line.cl (hr.mono (by omega)) pass0 (pv 0) (pa_cons pe_str (pa_cons pe_int (pa_cons (pe_op op_sub (pv 1) pe_int) pa_nil)))))
  (pss_cons (ps_set (i := 7) sc_read_pass.nd rfl (Or.inl rfl) (pe_m D_Line_read_field T.c_Line.cl (hr.mono (by omega)) pass0 (pv 0) (pa_cons pe_str (pa_cons (pe_op op_add (pv 6) pe_int) (pa_cons (pv 1) pa_nil)))))
  (pss_cons (ps_set (i := 8) sc_read_pass.nd rfl (Or.inl rfl) (pe_m D_Line_read_field T.c_Line.cl (hr.mono (by omega)) pass0 (pv 0) (pa_cons pe_str (pa_cons pe_int (pa_cons (pe_gi T.g_MOST_UNITS) pa_nil)))))
  (pss_cons (ps_set (i := 9) sc_read_pass.nd rfl (Or.inl rfl) (pe_m D_Line_read_field T.c_Line.cl (hr.mono (by omega)) pass0 (pv 0) (pa_cons pe_str (pa_cons pe_int (pa_cons (pe_gi T.g_MOST_UNITS) pa_nil)))))
  (pss_cons (ps_set (i := 10) sc_read_pass.nd rfl (Or.inl rfl) (pe_m D_Line_read_field T.c_Line.cl (hr.mono (by omega)) pass0 (pv 0) (pa_cons pe_str (pa_cons pe_int (pa_cons (pe_gi T.g_MOST_FEE) pa_nil)))))
  (pss_one (ps_ret (pe_mk DI_Pass T.c_Pass (hr.mono (by omega)) pass0 (pa_cons (pv 3) (pa_cons (pv 4) (pa_cons (pv 5) (pa_cons (pe_tup (pa_cons (pv 6) (pa_cons (pv 7) pa_nil))) (pa_cons (pv 8) (pa_cons (pv 9) (pa_cons (pv 10) pa_nil)))))))))))))))))))
    , ?_⟩
  have b0 := wok.horizon; have b1 := ok.first; have b2 := ok.fin; have b3 := ok.room; have b4 := ok.energy; have b5 := ok.fee
  obtain ⟨ls, l, xs, t1, t2, t3, t4, t5⟩ := hN
  obtain ⟨_, _, g0, z0⟩ := LnAt.no hL (m := "read_new_name") (by decide +kernel) (by decide +kernel) (by decide +kernel) (by decide +kernel)
  refine ⟨_, rfl, a, _, _, rfl, g0, z0, _, rfl, th, _, _, .ref l, rfl, rfl, t1, atI_nat (j := 3) (by rw [List.getElem?_map, t2]; rfl), l, xs, ns, rfl, t3, t4, t5, fun p H1 s1 np hp => ?_⟩
  refine ⟨a, _, 1, p, ns, sd.name, rfl, hL.same s1, SqL.of hp, rfl, ok.name, hno, fun H2 s2 L2 => ?_⟩
  obtain ⟨_, _, g2, z2⟩ := LnAt.no L2 (m := "read_choice") (by decide +kernel) (by decide +kernel) (by decide +kernel) (by decide +kernel)
  refine ⟨_, rfl, a, _, _, rfl, g2, z2, (by show 1 ≤ sizeLine; decide), fun t ht => ?_⟩
  refine ⟨a, _, 2, t, [Str.ofString "by"], Str.ofString "by", rfl, L2.same (same_new ht _), SqT.of upd_same, rfl, List.mem_cons_self, fun H3 s3 L3 => ?_⟩
  have s03 : SameX a H H3 := (((SameX.of s1).trans s2).trans (SameX.of (same_new ht _))).trans s3
  obtain ⟨ls', l', xs', u1, u2, u3, u4, u5⟩ := hS.sameX hL s03
  obtain ⟨_, _, g3, z3⟩ := LnAt.no L3 (m := "read_known_name") (by decide +kernel) (by decide +kernel) (by decide +kernel) (by decide +kernel)
  refine ⟨_, rfl, a, _, _, rfl, g3, z3, _, rfl, th, _, _, .ref l', rfl, rfl, u1, atI_nat (j := 0) (by rw [List.getElem?_map, u2]; rfl), l', xs', _, rfl, u3, u4, u5, fun p2 H4 s4 np2 hp2 => ?_⟩
  refine ⟨a, _, 3, p2, _, satN W sd.sat, sd.sat, 0, rfl, L3.same s4, SqL.of hp2, rfl, satN_ok wok ok.sat, satN_at ok.sat, wok.dSats, by (clear T D_names_of D_Line_read_new_name D_Line_read_field D_Line_read_choice D_Line_read_known_name DI_Pass B hr hL hS hT hno wok ok q b0 b1 b2 b3 b4 b5 t1 t2 t3 t4 t5 g0 z0 s1 np hp s2 L2 g2 z2 ht s3 L3 s03 u1 u2 u3 u4 u5 g3 z3 s4 np2 hp2; omega), fun H5 s5 L5 => ?_⟩
  obtain ⟨_, _, g5, z5⟩ := LnAt.no L5 (m := "read_choice") (by decide +kernel) (by decide +kernel) (by decide +kernel) (by decide +kernel)
  refine ⟨_, rfl, a, _, _, rfl, g5, z5, (by show 1 ≤ sizeLine; decide), fun t3 ht3 => ?_⟩
  refine ⟨a, _, 4, t3, [Str.ofString "over"], Str.ofString "over", rfl, L5.same (same_new ht3 _), SqT.of upd_same, rfl, List.mem_cons_self, fun H6 s6 L6 => ?_⟩
  have s06 : SameX a H H6 := (((s03.trans (SameX.of s4)).trans s5).trans (SameX.of (same_new ht3 _))).trans s6
  obtain ⟨ls6, l6, xs6, v1, v2, v3, v4, v5⟩ := hT.sameX hL s06
  obtain ⟨_, _, g6, z6⟩ := LnAt.no L6 (m := "read_known_name") (by decide +kernel) (by decide +kernel) (by decide +kernel) (by decide +kernel)
  refine ⟨_, rfl, a, _, _, rfl, g6, z6, _, rfl, th, _, _, .ref l6, rfl, rfl, v1, atI_nat (j := 1) (by rw [List.getElem?_map, v2]; rfl), l6, xs6, _, rfl, v3, v4, v5, fun p7 H7 s7 np7 hp7 => ?_⟩
  refine ⟨a, _, 5, p7, _, staN W sd.sta, sd.sta, 0, rfl, L6.same s7, SqL.of hp7, rfl, staN_ok wok ok.sta, staN_at ok.sta, wok.dStas, by (clear T D_names_of D_Line_read_new_name D_Line_read_field D_Line_read_choice D_Line_read_known_name DI_Pass B hr hL hS hT hno wok ok q b0 b1 b2 b3 b4 b5 t1 t2 t4 t5 g0 z0 s1 np hp s2 L2 g2 z2 ht s3 L3 s03 u1 u2 u3 u4 u5 g3 z3 s4 np2 hp2 s5 L5 g5 z5 ht3 s6 L6 s06 v1 v2 v3 v4 v5 g6 z6 s7 np7 hp7; omega), fun H8 s8 L8 => ?_⟩
  (obtain ⟨_, _, g8, z8⟩ := LnAt.no L8 (m := "read_field") (by decide +kernel) (by decide +kernel) (by decide +kernel) (by decide +kernel); refine ⟨_, rfl, a, _, _, rfl, g8, z8, _, rfl, _, _, rfl, rfl, a, _, 6, _, _, _, sd.first, rfl, L8, rfl, rfl, by omega, by omega, by omega, by omega, fun H9 s9 L9 => ?_⟩)
  (obtain ⟨_, _, g9, z9⟩ := LnAt.no L9 (m := "read_field") (by decide +kernel) (by decide +kernel) (by decide +kernel) (by decide +kernel); refine ⟨_, rfl, a, _, _, rfl, g9, z9, _, rfl, _, _, rfl, rfl, _, rfl, a, _, 8, _, _, _, sd.fin, rfl, L9, rfl, rfl, by omega, by omega, by (clear T D_names_of D_Line_read_new_name D_Line_read_field D_Line_read_choice D_Line_read_known_name DI_Pass B hr hL hS hT hno wok ok q b0 b1 b3 b4 b5 t1 t2 t4 t5 g0 z0 s1 np hp s2 L2 g2 z2 ht s3 L3 s03 u1 u2 u3 u4 u5 g3 z3 s4 np2 hp2 s5 L5 g5 z5 ht3 s6 L6 s06 v1 v2 v3 v4 v5 g6 z6 s7 np7 hp7 s8 L8 g8 z8 s9 L9 g9 z9; omega), by omega, fun H10 s10 L10 => ?_⟩)
  (obtain ⟨_, _, g10, z10⟩ := LnAt.no L10 (m := "read_field") (by decide +kernel) (by decide +kernel) (by decide +kernel) (by decide +kernel); refine ⟨_, rfl, a, _, _, rfl, g10, z10, a, _, 10, _, _, _, sd.room, rfl, L10, rfl, rfl, by (clear T D_names_of D_Line_read_new_name D_Line_read_field D_Line_read_choice D_Line_read_known_name DI_Pass B hr hL hS hT hno wok ok q b0 b1 b2 b4 b5 t1 t2 t4 t5 g0 z0 s1 np hp s2 L2 g2 z2 ht s3 L3 s03 u1 u2 u3 u4 u5 g3 z3 s4 np2 hp2 s5 L5 g5 z5 ht3 s6 L6 s06 v1 v2 v3 v4 v5 g6 z6 s7 np7 hp7 s8 L8 g8 z8 s9 L9 g9 z9 s10 L10 g10 z10; omega), by (clear T D_names_of D_Line_read_new_name D_Line_read_field D_Line_read_choice D_Line_read_known_name DI_Pass B hr hL hS hT hno wok ok q b0 b1 b2 b4 b5 t1 t2 t4 t5 g0 z0 s1 np hp s2 L2 g2 z2 ht s3 L3 s03 u1 u2 u3 u4 u5 g3 z3 s4 np2 hp2 s5 L5 g5 z5 ht3 s6 L6 s06 v1 v2 v3 v4 v5 g6 z6 s7 np7 hp7 s8 L8 g8 z8 s9 L9 g9 z9 s10 L10 g10 z10; omega), by (clear T D_names_of D_Line_read_new_name D_Line_read_field D_Line_read_choice D_Line_read_known_name DI_Pass B hr hL hS hT hno wok ok q b0 b1 b2 b4 b5 t1 t2 t4 t5 g0 z0 s1 np hp s2 L2 g2 z2 ht s3 L3 s03 u1 u2 u3 u4 u5 g3 z3 s4 np2 hp2 s5 L5 g5 z5 ht3 s6 L6 s06 v1 v2 v3 v4 v5 g6 z6 s7 np7 hp7 s8 L8 g8 z8 s9 L9 g9 z9 s10 L10 g10 z10; omega), by (clear T D_names_of D_Line_read_new_name D_Line_read_field D_Line_read_choice D_Line_read_known_name DI_Pass B hr hL hS hT hno wok ok q b0 b1 b2 b4 b5 t1 t2 t4 t5 g0 z0 s1 np hp s2 L2 g2 z2 ht s3 L3 s03 u1 u2 u3 u4 u5 g3 z3 s4 np2 hp2 s5 L5 g5 z5 ht3 s6 L6 s06 v1 v2 v3 v4 v5 g6 z6 s7 np7 hp7 s8 L8 g8 z8 s9 L9 g9 z9 s10 L10 g10 z10; omega), fun H11 s11 L11 => ?_⟩)
  (obtain ⟨_, _, g11, z11⟩ := LnAt.no L11 (m := "read_field") (by decide +kernel) (by decide +kernel) (by decide +kernel) (by decide +kernel); refine ⟨_, rfl, a, _, _, rfl, g11, z11, a, _, 12, _, _, _, sd.energy, rfl, L11, rfl, rfl, by (clear T D_names_of D_Line_read_new_name D_Line_read_field D_Line_read_choice D_Line_read_known_name DI_Pass B hr hL hS hT hno wok ok q b0 b1 b2 b3 b5 t1 t2 t4 t5 g0 z0 s1 np hp s2 L2 g2 z2 ht s3 L3 s03 u1 u2 u3 u4 u5 g3 z3 s4 np2 hp2 s5 L5 g5 z5 ht3 s6 L6 s06 v1 v2 v3 v4 v5 g6 z6 s7 np7 hp7 s8 L8 g8 z8 s9 L9 g9 z9 s10 L10 g10 z10 s11 L11 g11 z11; omega), by (clear T D_names_of D_Line_read_new_name D_Line_read_field D_Line_read_choice D_Line_read_known_name DI_Pass B hr hL hS hT hno wok ok q b0 b1 b2 b3 b5 t1 t2 t4 t5 g0 z0 s1 np hp s2 L2 g2 z2 ht s3 L3 s03 u1 u2 u3 u4 u5 g3 z3 s4 np2 hp2 s5 L5 g5 z5 ht3 s6 L6 s06 v1 v2 v3 v4 v5 g6 z6 s7 np7 hp7 s8 L8 g8 z8 s9 L9 g9 z9 s10 L10 g10 z10 s11 L11 g11 z11; omega), by (clear T D_names_of D_Line_read_new_name D_Line_read_field D_Line_read_choice D_Line_read_known_name DI_Pass B hr hL hS hT hno wok ok q b0 b1 b2 b3 b5 t1 t2 t4 t5 g0 z0 s1 np hp s2 L2 g2 z2 ht s3 L3 s03 u1 u2 u3 u4 u5 g3 z3 s4 np2 hp2 s5 L5 g5 z5 ht3 s6 L6 s06 v1 v2 v3 v4 v5 g6 z6 s7 np7 hp7 s8 L8 g8 z8 s9 L9 g9 z9 s10 L10 g10 z10 s11 L11 g11 z11; omega), by (clear T D_names_of D_Line_read_new_name D_Line_read_field D_Line_read_choice D_Line_read_known_name DI_Pass B hr hL hS hT hno wok ok q b0 b1 b2 b3 b5 t1 t2 t4 t5 g0 z0 s1 np hp s2 L2 g2 z2 ht s3 L3 s03 u1 u2 u3 u4 u5 g3 z3 s4 np2 hp2 s5 L5 g5 z5 ht3 s6 L6 s06 v1 v2 v3 v4 v5 g6 z6 s7 np7 hp7 s8 L8 g8 z8 s9 L9 g9 z9 s10 L10 g10 z10 s11 L11 g11 z11; omega), fun H12 s12 L12 => ?_⟩)
  (obtain ⟨_, _, g12, z12⟩ := LnAt.no L12 (m := "read_field") (by decide +kernel) (by decide +kernel) (by decide +kernel) (by decide +kernel); refine ⟨_, rfl, a, _, _, rfl, g12, z12, a, _, 14, _, _, _, sd.fee, rfl, L12, rfl, rfl, by (clear T D_names_of D_Line_read_new_name D_Line_read_field D_Line_read_choice D_Line_read_known_name DI_Pass B hr hL hS hT hno wok ok q b0 b1 b2 b3 b4 t1 t2 t4 t5 g0 z0 s1 np hp s2 L2 g2 z2 ht s3 L3 s03 u1 u2 u3 u4 u5 g3 z3 s4 np2 hp2 s5 L5 g5 z5 ht3 s6 L6 s06 v1 v2 v3 v4 v5 g6 z6 s7 np7 hp7 s8 L8 g8 z8 s9 L9 g9 z9 s10 L10 g10 z10 s11 L11 g11 z11 s12 L12 g12 z12; omega), by (clear T D_names_of D_Line_read_new_name D_Line_read_field D_Line_read_choice D_Line_read_known_name DI_Pass B hr hL hS hT hno wok ok q b0 b1 b2 b3 b4 t1 t2 t4 t5 g0 z0 s1 np hp s2 L2 g2 z2 ht s3 L3 s03 u1 u2 u3 u4 u5 g3 z3 s4 np2 hp2 s5 L5 g5 z5 ht3 s6 L6 s06 v1 v2 v3 v4 v5 g6 z6 s7 np7 hp7 s8 L8 g8 z8 s9 L9 g9 z9 s10 L10 g10 z10 s11 L11 g11 z11 s12 L12 g12 z12; omega), by (clear T D_names_of D_Line_read_new_name D_Line_read_field D_Line_read_choice D_Line_read_known_name DI_Pass B hr hL hS hT hno wok ok q b0 b1 b2 b3 b4 t1 t2 t4 t5 g0 z0 s1 np hp s2 L2 g2 z2 ht s3 L3 s03 u1 u2 u3 u4 u5 g3 z3 s4 np2 hp2 s5 L5 g5 z5 ht3 s6 L6 s06 v1 v2 v3 v4 v5 g6 z6 s7 np7 hp7 s8 L8 g8 z8 s9 L9 g9 z9 s10 L10 g10 z10 s11 L11 g11 z11 s12 L12 g12 z12; omega), by (clear T D_names_of D_Line_read_new_name D_Line_read_field D_Line_read_choice D_Line_read_known_name DI_Pass B hr hL hS hT hno wok ok q b0 b1 b2 b3 b4 t1 t2 t4 t5 g0 z0 s1 np hp s2 L2 g2 z2 ht s3 L3 s03 u1 u2 u3 u4 u5 g3 z3 s4 np2 hp2 s5 L5 g5 z5 ht3 s6 L6 s06 v1 v2 v3 v4 v5 g6 z6 s7 np7 hp7 s8 L8 g8 z8 s9 L9 g9 z9 s10 L10 g10 z10 s11 L11 g11 z11 s12 L12 g12 z12; omega), fun H13 s13 L13 => ?_⟩)
  refine ⟨_, rfl, _, rfl, _, rfl, _, rfl, _, rfl, (by show 2 ≤ sizeLine; decide), fun sp hsp => ⟨_, rfl, _, rfl, _, rfl, fun x dx hx hdx ne => ?_⟩⟩
  refine ⟨x, dx, _, _, _, _, _, _, _, rfl, upd_same, rfl, ?_⟩
  have sA : SameX a H (upd H13 sp (.tup [.int sd.first, .int sd.fin])) := (((((((s06.trans (SameX.of s7)).trans s8).trans s9).trans s10).trans s11).trans s12).trans s13).trans (SameX.of (same_new hsp _))
  have sB := same_made (o := .own x) (u := .ins CP dx []) (v := .ins CP dx (pasF sd sp)) hx hdx
  have L14 := L13.same (same_new hsp (.tup [.int sd.first, .int sd.fin]))
  obtain ⟨o, ho⟩ := L14.there
  exact q x _ (sA.free ho hx) (sA.trans (SameX.of sB)) (L14.same sB) ⟨x, dx, sp, rfl, upd_same, SqT.of (sB _ _ upd_same)⟩
end
end DP
namespace DP
open PySem PySem.Spec PyProof.Rows L2
section
variable {K : PySem.W.Frag} {CL CS CT CR CP : Addr} {H H' : Hp} {a L : Addr} {ws : List Str} {r : Nat} {x : V} {ys : List V} {o : HO}
theorem SatAt.same {s : SatD} (h : SatAt K CS H x s) (z : Same H H') : SatAt K CS H' x s := by
  obtain ⟨b, dx, t, ls, h1, h2, h3, h4⟩ := h
  exact ⟨b, dx, t, ls, h1, z _ _ h2, Same.tup z h3, h4.same z⟩
theorem StaAt.same {s : StaD} (h : StaAt CT H x s) (z : Same H H') : StaAt CT H' x s := by
  obtain ⟨b, dx, h1, h2⟩ := h
  exact ⟨b, dx, h1, z _ _ h2⟩
theorem RecAt.same {s : RecD} (h : RecAt CR H x s) (z : Same H H') : RecAt CR H' x s := by
  obtain ⟨b, dx, h1, h2⟩ := h
  exact ⟨b, dx, h1, z _ _ h2⟩
theorem PasAt.same {s : PasD} (h : PasAt K CP H x s) (z : Same H H') : PasAt K CP H' x s := by
  obtain ⟨b, dx, t, h1, h2, h3⟩ := h
  exact ⟨b, dx, t, h1, z _ _ h2, Same.tup z h3⟩
theorem SatAt.sx {s : SatD} (h : SatAt K CS H x s) (hL : LnAt CL H a ws r) (z : SameX a H H') : SatAt K CS H' x s := by
  obtain ⟨dx', n, wl, c, g1, g2⟩ := hL.ex
  obtain ⟨b, dx, t, ls, h1, h2, h3, h4⟩ := h
  exact ⟨b, dx, t, ls, h1, z.ins g1 h2 (by show 8 ≠ 4; decide), z.sqT g1 h3, z.spans g1 h4⟩
theorem StaAt.sx {s : StaD} (h : StaAt CT H x s) (hL : LnAt CL H a ws r) (z : SameX a H H') : StaAt CT H' x s := by
  obtain ⟨dx', n, wl, c, g1, g2⟩ := hL.ex
  obtain ⟨b, dx, h1, h2⟩ := h
  exact ⟨b, dx, h1, z.ins g1 h2 (by show 3 ≠ 4; decide)⟩
theorem RecAt.sx {s : RecD} (h : RecAt CR H x s) (hL : LnAt CL H a ws r) (z : SameX a H H') : RecAt CR H' x s := by
  obtain ⟨dx', n, wl, c, g1, g2⟩ := hL.ex
  obtain ⟨b, dx, h1, h2⟩ := h
  exact ⟨b, dx, h1, z.ins g1 h2 (by show 10 ≠ 4; decide)⟩
theorem PasAt.sx {s : PasD} (h : PasAt K CP H x s) (hL : LnAt CL H a ws r) (z : SameX a H H') : PasAt K CP H' x s := by
  obtain ⟨dx', n, wl, c, g1, g2⟩ := hL.ex
  obtain ⟨b, dx, t, h1, h2, h3⟩ := h
  exact ⟨b, dx, t, h1, z.ins g1 h2 (by show 7 ≠ 4; decide), z.sqT g1 h3⟩
theorem SatAt.up {s : SatD} (h : SatAt K CS H x s) (e : H L = some (.lst ys)) : SatAt K CS (L2.upd H L o) x s := by
  obtain ⟨b, dx, t, ls, h1, h2, h3, h4⟩ := h
  exact ⟨b, dx, t, ls, h1, by rw [upd_ne (ne_of h2 e (fun z => nomatch z))]; exact h2, sqT_upd h3 e, h4.upd e⟩
theorem StaAt.up {s : StaD} (h : StaAt CT H x s) (e : H L = some (.lst ys)) : StaAt CT (L2.upd H L o) x s := by
  obtain ⟨b, dx, h1, h2⟩ := h
  exact ⟨b, dx, h1, by rw [upd_ne (ne_of h2 e (fun z => nomatch z))]; exact h2⟩
theorem RecAt.up {s : RecD} (h : RecAt CR H x s) (e : H L = some (.lst ys)) : RecAt CR (L2.upd H L o) x s := by
  obtain ⟨b, dx, h1, h2⟩ := h
  exact ⟨b, dx, h1, by rw [upd_ne (ne_of h2 e (fun z => nomatch z))]; exact h2⟩
theorem PasAt.up {s : PasD} (h : PasAt K CP H x s) (e : H L = some (.lst ys)) : PasAt K CP (L2.upd H L o) x s := by
  obtain ⟨b, dx, t, h1, h2, h3⟩ := h
  exact ⟨b, dx, t, h1, by rw [upd_ne (ne_of h2 e (fun z => nomatch z))]; exact h2, sqT_upd h3 e⟩
/-- a line stays where a list of objects is changed -/
theorem LnAt.up (h : LnAt CL H a ws r) (hne : ws ≠ []) (e : H L = some (.lst ys)) (hr : ∀ y ∈ ys, ∃ t, y = V.ref t) : LnAt CL (L2.upd H L o) a ws r := by
  obtain ⟨dx, n, wl, c, h1, h2⟩ := h.ex
  refine ⟨⟨dx, n, wl, c, by rw [upd_ne (ne_of h1 e (fun z => nomatch z))]; exact h1, ?_⟩, h.ok⟩
  rw [upd_ne]
  · exact h2
  · intro z
    rw [z, e] at h2
    have e2 : ys = ws.map V.str := HO.lst.inj (Option.some.inj h2)
    cases ws with
    | nil => exact hne rfl
    | cons w wr =>
      obtain ⟨t, ht⟩ := hr (.str w) (by rw [e2]; exact List.mem_cons_self)
      cases ht
theorem LnAt.sx {b : Addr} {vs : List Str} {q : Nat} (h : LnAt CL H a ws r) (hL : LnAt CL H b vs q) (n : a ≠ b) (z : SameX b H H') : LnAt CL H' a ws r := by
  obtain ⟨dx', n', wl', c', g1, g2⟩ := hL.ex
  obtain ⟨dx, m, wl, c, h1, h2⟩ := h.ex
  exact ⟨⟨dx, m, wl, c, z _ _ n h1, z _ _ (ne_of h2 g1 (fun z => nomatch z)) h2⟩, h.ok⟩
end
/-- the four lists of a world's things as far as they are read -/
structure Thg (K : PySem.W.Frag) (CS CT CR CP : Addr) (H : Hp) (th l0 l1 l2 l3 : Addr) (S : List SatD) (T : List StaD) (R : List RecD) (P : List PasD) : Prop where
  tup : H th = some (.tup [.ref l0, .ref l1, .ref l2, .ref l3])
  d01 : l0 ≠ l1
  d02 : l0 ≠ l2
  d03 : l0 ≠ l3
  d12 : l1 ≠ l2
  d13 : l1 ≠ l3
  d23 : l2 ≠ l3
  sats : ∃ xs, H l0 = some (.lst xs) ∧ Paired (SatAt K CS H) xs S
  stas : ∃ xs, H l1 = some (.lst xs) ∧ Paired (StaAt CT H) xs T
  recs : ∃ xs, H l2 = some (.lst xs) ∧ Paired (RecAt CR H) xs R
  pass : ∃ xs, H l3 = some (.lst xs) ∧ Paired (PasAt K CP H) xs P
theorem refs_sat {K : PySem.W.Frag} {C : Addr} {H : Hp} {xs : List V} {S : List SatD} (h : Paired (SatAt K C H) xs S) : ∀ y ∈ xs, ∃ t, y = V.ref t := fun y hy => by
  obtain ⟨i, hi, e⟩ := List.mem_iff_getElem.mp hy
  obtain ⟨s, _, b, _, _, _, e1, _⟩ := paired_at h (List.getElem?_eq_getElem hi)
  exact ⟨b, by rw [← e, e1]⟩
theorem refs_sta {C : Addr} {H : Hp} {xs : List V} {S : List StaD} (h : Paired (StaAt C H) xs S) : ∀ y ∈ xs, ∃ t, y = V.ref t := fun y hy => by
  obtain ⟨i, hi, e⟩ := List.mem_iff_getElem.mp hy
  obtain ⟨s, _, b, _, e1, _⟩ := paired_at h (List.getElem?_eq_getElem hi)
  exact ⟨b, by rw [← e, e1]⟩
theorem refs_rec {C : Addr} {H : Hp} {xs : List V} {S : List RecD} (h : Paired (RecAt C H) xs S) : ∀ y ∈ xs, ∃ t, y = V.ref t := fun y hy => by
  obtain ⟨i, hi, e⟩ := List.mem_iff_getElem.mp hy
  obtain ⟨s, _, b, _, e1, _⟩ := paired_at h (List.getElem?_eq_getElem hi)
  exact ⟨b, by rw [← e, e1]⟩
theorem refs_pas {K : PySem.W.Frag} {C : Addr} {H : Hp} {xs : List V} {S : List PasD} (h : Paired (PasAt K C H) xs S) : ∀ y ∈ xs, ∃ t, y = V.ref t := fun y hy => by
  obtain ⟨i, hi, e⟩ := List.mem_iff_getElem.mp hy
  obtain ⟨s, _, b, _, _, e1, _⟩ := paired_at h (List.getElem?_eq_getElem hi)
  exact ⟨b, by rw [← e, e1]⟩
section
variable {K : PySem.W.Frag} {CL CS CT CR CP : Addr} {H H' : Hp} {a th l0 l1 l2 l3 : Addr} {ws : List Str} {r : Nat} {S : List SatD} {T : List StaD} {R : List RecD} {P : List PasD}
theorem Thg.same (h : Thg K CS CT CR CP H th l0 l1 l2 l3 S T R P) (z : Same H H') : Thg K CS CT CR CP H' th l0 l1 l2 l3 S T R P := by
  obtain ⟨x0, a0, b0⟩ := h.sats
  obtain ⟨x1, a1, b1⟩ := h.stas
  obtain ⟨x2, a2, b2⟩ := h.recs
  obtain ⟨x3, a3, b3⟩ := h.pass
  exact ⟨z _ _ h.tup, h.d01, h.d02, h.d03, h.d12, h.d13, h.d23, ⟨x0, z _ _ a0, Paired.mapP b0 fun _ _ y => y.same z⟩, ⟨x1, z _ _ a1, Paired.mapP b1 fun _ _ y => y.same z⟩, ⟨x2, z _ _ a2, Paired.mapP b2 fun _ _ y => y.same z⟩, ⟨x3, z _ _ a3, Paired.mapP b3 fun _ _ y => y.same z⟩⟩
theorem Thg.sx (h : Thg K CS CT CR CP H th l0 l1 l2 l3 S T R P) (hL : LnAt CL H a ws r) (z : SameX a H H') : Thg K CS CT CR CP H' th l0 l1 l2 l3 S T R P := by
  obtain ⟨dx', n', wl', c', g1, g2⟩ := hL.ex
  obtain ⟨x0, a0, b0⟩ := h.sats
  obtain ⟨x1, a1, b1⟩ := h.stas
  obtain ⟨x2, a2, b2⟩ := h.recs
  obtain ⟨x3, a3, b3⟩ := h.pass
  exact ⟨z _ _ (ne_of h.tup g1 (fun z => nomatch z)) h.tup, h.d01, h.d02, h.d03, h.d12, h.d13, h.d23, ⟨x0, z _ _ (ne_of a0 g1 (fun z => nomatch z)) a0, Paired.mapP b0 fun _ _ y => y.sx hL z⟩, ⟨x1, z _ _ (ne_of a1 g1 (fun z => nomatch z)) a1, Paired.mapP b1 fun _ _ y => y.sx hL z⟩,
    ⟨x2, z _ _ (ne_of a2 g1 (fun z => nomatch z)) a2, Paired.mapP b2 fun _ _ y => y.sx hL z⟩, ⟨x3, z _ _ (ne_of a3 g1 (fun z => nomatch z)) a3, Paired.mapP b3 fun _ _ y => y.sx hL z⟩⟩
theorem Thg.push0 {xs : List V} {b : Addr} {s : SatD} (h : Thg K CS CT CR CP H th l0 l1 l2 l3 S T R P) (e : H l0 = some (.lst xs)) (k : SatAt K CS H (.ref b) s) : Thg K CS CT CR CP (L2.upd H l0 (.lst (xs ++ [.ref b]))) th l0 l1 l2 l3 (S ++ [s]) T R P := by
  obtain ⟨x0, a0, b0⟩ := h.sats
  obtain ⟨x1, a1, b1⟩ := h.stas
  obtain ⟨x2, a2, b2⟩ := h.recs
  obtain ⟨x3, a3, b3⟩ := h.pass
  have ex : x0 = xs := HO.lst.inj (Option.some.inj (a0.symm.trans e))
  subst ex
  exact ⟨by rw [upd_ne (ne_of h.tup e (fun z => nomatch z))]; exact h.tup, h.d01, h.d02, h.d03, h.d12, h.d13, h.d23, ⟨_, upd_same, paired_snoc (Paired.mapP b0 fun _ _ y => y.up e) (k.up e)⟩, ⟨x1, by rw [upd_ne h.d01.symm]; exact a1, Paired.mapP b1 fun _ _ y => y.up e⟩,
    ⟨x2, by rw [upd_ne h.d02.symm]; exact a2, Paired.mapP b2 fun _ _ y => y.up e⟩, ⟨x3, by rw [upd_ne h.d03.symm]; exact a3, Paired.mapP b3 fun _ _ y => y.up e⟩⟩
theorem Thg.push1 {xs : List V} {b : Addr} {s : StaD} (h : Thg K CS CT CR CP H th l0 l1 l2 l3 S T R P) (e : H l1 = some (.lst xs)) (k : StaAt CT H (.ref b) s) : Thg K CS CT CR CP (L2.upd H l1 (.lst (xs ++ [.ref b]))) th l0 l1 l2 l3 S (T ++ [s]) R P := by
  obtain ⟨x0, a0, b0⟩ := h.sats
  obtain ⟨x1, a1, b1⟩ := h.stas
  obtain ⟨x2, a2, b2⟩ := h.recs
  obtain ⟨x3, a3, b3⟩ := h.pass
  have ex : x1 = xs := HO.lst.inj (Option.some.inj (a1.symm.trans e))
  subst ex
  exact ⟨by rw [upd_ne (ne_of h.tup e (fun z => nomatch z))]; exact h.tup, h.d01, h.d02, h.d03, h.d12, h.d13, h.d23, ⟨x0, by rw [upd_ne h.d01]; exact a0, Paired.mapP b0 fun _ _ y => y.up e⟩, ⟨_, upd_same, paired_snoc (Paired.mapP b1 fun _ _ y => y.up e) (k.up e)⟩,
    ⟨x2, by rw [upd_ne h.d12.symm]; exact a2, Paired.mapP b2 fun _ _ y => y.up e⟩, ⟨x3, by rw [upd_ne h.d13.symm]; exact a3, Paired.mapP b3 fun _ _ y => y.up e⟩⟩
theorem Thg.push2 {xs : List V} {b : Addr} {s : RecD} (h : Thg K CS CT CR CP H th l0 l1 l2 l3 S T R P) (e : H l2 = some (.lst xs)) (k : RecAt CR H (.ref b) s) : Thg K CS CT CR CP (L2.upd H l2 (.lst (xs ++ [.ref b]))) th l0 l1 l2 l3 S T (R ++ [s]) P := by
  obtain ⟨x0, a0, b0⟩ := h.sats
  obtain ⟨x1, a1, b1⟩ := h.stas
  obtain ⟨x2, a2, b2⟩ := h.recs
  obtain ⟨x3, a3, b3⟩ := h.pass
  have ex : x2 = xs := HO.lst.inj (Option.some.inj (a2.symm.trans e))
  subst ex
  exact ⟨by rw [upd_ne (ne_of h.tup e (fun z => nomatch z))]; exact h.tup, h.d01, h.d02, h.d03, h.d12, h.d13, h.d23, ⟨x0, by rw [upd_ne h.d02]; exact a0, Paired.mapP b0 fun _ _ y => y.up e⟩, ⟨x1, by rw [upd_ne h.d12]; exact a1, Paired.mapP b1 fun _ _ y => y.up e⟩,
    ⟨_, upd_same, paired_snoc (Paired.mapP b2 fun _ _ y => y.up e) (k.up e)⟩, ⟨x3, by rw [upd_ne h.d23.symm]; exact a3, Paired.mapP b3 fun _ _ y => y.up e⟩⟩
theorem Thg.push3 {xs : List V} {b : Addr} {s : PasD} (h : Thg K CS CT CR CP H th l0 l1 l2 l3 S T R P) (e : H l3 = some (.lst xs)) (k : PasAt K CP H (.ref b) s) : Thg K CS CT CR CP (L2.upd H l3 (.lst (xs ++ [.ref b]))) th l0 l1 l2 l3 S T R (P ++ [s]) := by
  obtain ⟨x0, a0, b0⟩ := h.sats
  obtain ⟨x1, a1, b1⟩ := h.stas
  obtain ⟨x2, a2, b2⟩ := h.recs
  obtain ⟨x3, a3, b3⟩ := h.pass
  have ex : x3 = xs := HO.lst.inj (Option.some.inj (a3.symm.trans e))
  subst ex
  exact ⟨by rw [upd_ne (ne_of h.tup e (fun z => nomatch z))]; exact h.tup, h.d01, h.d02, h.d03, h.d12, h.d13, h.d23, ⟨x0, by rw [upd_ne h.d03]; exact a0, Paired.mapP b0 fun _ _ y => y.up e⟩, ⟨x1, by rw [upd_ne h.d13]; exact a1, Paired.mapP b1 fun _ _ y => y.up e⟩,
    ⟨x2, by rw [upd_ne h.d23]; exact a2, Paired.mapP b2 fun _ _ y => y.up e⟩, ⟨_, upd_same, paired_snoc (Paired.mapP b3 fun _ _ y => y.up e) (k.up e)⟩⟩
end
theorem paired_map {α β γ : Type} {F : α → β → Prop} {G : α → γ → Prop} {f : β → γ} (h : ∀ a b, F a b → G a (f b)) : ∀ {xs : List α} {ys : List β}, Paired F xs ys → Paired G xs (ys.map f)
  | _, _, .nil => .nil
  | _, _, .cons a t => .cons (h _ _ a) (paired_map h t)
section
variable {K : PySem.W.Frag} {mg : Str → Option Value} {CL CS CT CR CP CW aS aR fS fT fR fP : Addr} {H : Hp} {th l0 l1 l2 l3 : Addr} {S : List SatD} {T : List StaD} {R : List RecD} {P : List PasD}
theorem Thg.list (h : Thg K CS CT CR CP H th l0 l1 l2 l3 S T R P) : SqT K H th (([l0, l1, l2, l3]).map V.ref) := SqT.of h.tup
theorem Thg.n0 (X : TxtW K mg CL CS CT CR CP CW aS aR fS fT fR fP) (h : Thg K CS CT CR CP H th l0 l1 l2 l3 S T R P) (hl : S.length ≤ 100) : NamesAt K H th 0 (S.map (·.name)) := by
  obtain ⟨xs, a, b⟩ := h.sats
  exact ⟨[l0, l1, l2, l3], l0, xs, h.list, rfl, SqL.of a, paired_map (fun _ _ ⟨b, dx, t, ls, h1, h2, _⟩ => ⟨b, CS, dx, _, h1, h2, X.c_Satellite.cl, X.n_Satellite_name, lk_hit⟩) b, by rw [List.length_map]; exact hl⟩
theorem Thg.n1 (X : TxtW K mg CL CS CT CR CP CW aS aR fS fT fR fP) (h : Thg K CS CT CR CP H th l0 l1 l2 l3 S T R P) (hl : T.length ≤ 100) : NamesAt K H th 1 (T.map (·.name)) := by
  obtain ⟨xs, a, b⟩ := h.stas
  exact ⟨[l0, l1, l2, l3], l1, xs, h.list, rfl, SqL.of a, paired_map (fun _ _ ⟨b, dx, h1, h2⟩ => ⟨b, CT, dx, _, h1, h2, X.c_Station.cl, X.n_Station_name, lk_hit⟩) b, by rw [List.length_map]; exact hl⟩
theorem Thg.n2 (X : TxtW K mg CL CS CT CR CP CW aS aR fS fT fR fP) (h : Thg K CS CT CR CP H th l0 l1 l2 l3 S T R P) (hl : R.length ≤ 100) : NamesAt K H th 2 (R.map (·.name)) := by
  obtain ⟨xs, a, b⟩ := h.recs
  exact ⟨[l0, l1, l2, l3], l2, xs, h.list, rfl, SqL.of a, paired_map (fun _ _ ⟨b, dx, h1, h2⟩ => ⟨b, CR, dx, _, h1, h2, X.c_Recording.cl, X.n_Recording_name, lk_hit⟩) b, by rw [List.length_map]; exact hl⟩
theorem Thg.n3 (X : TxtW K mg CL CS CT CR CP CW aS aR fS fT fR fP) (h : Thg K CS CT CR CP H th l0 l1 l2 l3 S T R P) (hl : P.length ≤ 100) : NamesAt K H th 3 (P.map (·.name)) := by
  obtain ⟨xs, a, b⟩ := h.pass
  exact ⟨[l0, l1, l2, l3], l3, xs, h.list, rfl, SqL.of a, paired_map (fun _ _ ⟨b, dx, t, h1, h2, _⟩ => ⟨b, CP, dx, _, h1, h2, X.c_Pass.cl, X.n_Pass_name, lk_hit⟩) b, by rw [List.length_map]; exact hl⟩
end
end DP
namespace DP
open PySem PySem.Spec PyProof.Rows L2
/-- what is read ahead of the i-th line behind the first one -/
def preS (W : WorldD) (i : Nat) : List SatD := W.sats.take i
def preT (W : WorldD) (i : Nat) : List StaD := W.stas.take (i - W.sats.length)
def preR (W : WorldD) (i : Nat) : List RecD := W.recs.take (i - W.sats.length - W.stas.length)
def preP (W : WorldD) (i : Nat) : List PasD := W.pass.take (i - W.sats.length - W.stas.length - W.recs.length)
/-- the lines behind the first one -/
def restW (W : WorldD) : List (List Str) := W.sats.map wSat ++ W.stas.map wSta ++ W.recs.map (wRec W) ++ W.pass.map (wPas W)
/-- the sort of the i-th -/
def kindW (W : WorldD) (i : Nat) : Nat := if i < W.sats.length then 0 else if i < W.sats.length + W.stas.length then 1 else if i < W.sats.length + W.stas.length + W.recs.length then 2 else 3
theorem restW_len (W : WorldD) : (restW W).length = W.sats.length + W.stas.length + W.recs.length + W.pass.length := by
  unfold restW
  rw [List.length_append, List.length_append, List.length_append, List.length_map, List.length_map, List.length_map, List.length_map]
theorem take_snoc {α : Type} {l : List α} {i : Nat} {x : α} (h : l[i]? = some x) : l.take (i + 1) = l.take i ++ [x] := by
  rw [List.take_add_one, h]
  rfl
theorem sub_lo {i a : Nat} (h : i < a) : i + 1 - a = i - a := by rw [Nat.sub_eq_zero_of_le h, Nat.sub_eq_zero_of_le (Nat.le_of_lt h)]
theorem sub_hi {i a : Nat} (h : ¬ i < a) : i + 1 - a = i - a + 1 := Nat.succ_sub (Nat.not_lt.mp h)
theorem sub_in {i a b : Nat} (h : ¬ i < a) : i - a < b ↔ i < a + b := Nat.sub_lt_iff_lt_add' (Nat.not_lt.mp h)
/-- the i-th line, by its sort -/
theorem restW_at (W : WorldD) {i : Nat} (hi : i < (restW W).length) :
    (∃ s, kindW W i = 0 ∧ s ∈ W.sats ∧ (restW W)[i]? = some (wSat s) ∧ W.sats[i]? = some s ∧ preS W (i + 1) = preS W i ++ [s] ∧ preT W (i + 1) = preT W i ∧ preR W (i + 1) = preR W i ∧ preP W (i + 1) = preP W i) ∨
    (∃ s, kindW W i = 1 ∧ s ∈ W.stas ∧ (restW W)[i]? = some (wSta s) ∧ W.stas[i - W.sats.length]? = some s ∧ preS W (i + 1) = preS W i ∧ preT W (i + 1) = preT W i ++ [s] ∧ preR W (i + 1) = preR W i ∧ preP W (i + 1) = preP W i ∧ preS W i = W.sats) ∨
    (∃ s, kindW W i = 2 ∧ s ∈ W.recs ∧ (restW W)[i]? = some (wRec W s) ∧ W.recs[i - W.sats.length - W.stas.length]? = some s ∧ preS W (i + 1) = preS W i ∧ preT W (i + 1) = preT W i ∧ preR W (i + 1) = preR W i ++ [s] ∧ preP W (i + 1) = preP W i ∧ preS W i = W.sats ∧ preT W i = W.stas) ∨
    (∃ s, kindW W i = 3 ∧ s ∈ W.pass ∧ (restW W)[i]? = some (wPas W s) ∧ W.pass[i - W.sats.length - W.stas.length - W.recs.length]? = some s ∧ preS W (i + 1) = preS W i ∧ preT W (i + 1) = preT W i ∧ preR W (i + 1) = preR W i ∧ preP W (i + 1) = preP W i ++ [s] ∧ preS W i = W.sats ∧ preT W i = W.stas) := by
  rw [restW_len] at hi
  by_cases c0 : i < W.sats.length
  · have e : W.sats[i]? = some W.sats[i] := List.getElem?_eq_getElem c0
    refine .inl ⟨W.sats[i], by unfold kindW; rw [if_pos c0], List.getElem_mem c0, ?_, e, take_snoc e, ?_, ?_, ?_⟩
    · unfold restW
      rw [List.append_assoc, List.append_assoc, List.getElem?_append_left (by rw [List.length_map]; exact c0), List.getElem?_map, e]
      rfl
    · unfold preT; rw [sub_lo c0]
    · unfold preR; rw [sub_lo c0]
    · unfold preP; rw [sub_lo c0]
  have aS : ∀ j, W.sats.length ≤ j → preS W j = W.sats := fun j hj => List.take_of_length_le hj
  have d0 := Nat.not_lt.mp c0
  have e0 := Nat.le_succ_of_le d0
  by_cases c1 : i < W.sats.length + W.stas.length
  · have hj : i - W.sats.length < W.stas.length := (sub_in c0).mpr c1
    have e : W.stas[i - W.sats.length]? = some W.stas[i - W.sats.length] := List.getElem?_eq_getElem hj
    refine .inr (.inl ⟨_, by unfold kindW; rw [if_neg c0, if_pos c1], List.getElem_mem hj, ?_, e, by rw [aS _ e0, aS _ d0], ?_, ?_, ?_, aS _ d0⟩)
    · unfold restW
      rw [List.append_assoc, List.append_assoc, List.getElem?_append_right (by rw [List.length_map]; exact d0), List.length_map, List.getElem?_append_left (by rw [List.length_map]; exact hj), List.getElem?_map, e]
      rfl
    · unfold preT; rw [sub_hi c0]; exact take_snoc e
    · unfold preR; rw [sub_hi c0, sub_lo hj]
    · unfold preP; rw [sub_hi c0, sub_lo hj]
  have aT : ∀ j, W.sats.length + W.stas.length ≤ j → preT W j = W.stas := fun j hj => List.take_of_length_le (Nat.le_sub_of_add_le' hj)
  have n1 : ¬ i - W.sats.length < W.stas.length := fun z => c1 ((sub_in c0).mp z)
  have d1 := Nat.not_lt.mp c1
  have e1 := Nat.le_succ_of_le d1
  have d2 := Nat.not_lt.mp n1
  by_cases c2 : i < W.sats.length + W.stas.length + W.recs.length
  · have hj : i - W.sats.length - W.stas.length < W.recs.length := (sub_in n1).mpr ((sub_in c0).mpr (by rw [← Nat.add_assoc]; exact c2))
    have e : W.recs[i - W.sats.length - W.stas.length]? = some W.recs[i - W.sats.length - W.stas.length] := List.getElem?_eq_getElem hj
    refine .inr (.inr (.inl ⟨_, by unfold kindW; rw [if_neg c0, if_neg c1, if_pos c2], List.getElem_mem hj, ?_, e, by rw [aS _ e0, aS _ d0], by rw [aT _ e1, aT _ d1], ?_, ?_, aS _ d0, aT _ d1⟩))
    · unfold restW
      rw [List.append_assoc, List.append_assoc, List.getElem?_append_right (by rw [List.length_map]; exact d0), List.length_map, List.getElem?_append_right (by rw [List.length_map]; exact d2), List.length_map, List.getElem?_append_left (by rw [List.length_map]; exact hj), List.getElem?_map, e]
      rfl
    · unfold preR; rw [sub_hi c0, sub_hi n1]; exact take_snoc e
    · unfold preP; rw [sub_hi c0, sub_hi n1, sub_lo hj]
  have n2 : ¬ i - W.sats.length - W.stas.length < W.recs.length := fun z => c2 (by rw [Nat.add_assoc]; exact (sub_in c0).mp ((sub_in n1).mp z))
  have d3 := Nat.not_lt.mp n2
  have d4 := Nat.not_lt.mp c2
  have e4 := Nat.le_succ_of_le d4
  have hj : i - W.sats.length - W.stas.length - W.recs.length < W.pass.length := (sub_in n2).mpr ((sub_in n1).mpr ((sub_in c0).mpr (by rw [← Nat.add_assoc, ← Nat.add_assoc]; exact hi)))
  have e : W.pass[i - W.sats.length - W.stas.length - W.recs.length]? = some W.pass[i - W.sats.length - W.stas.length - W.recs.length] := List.getElem?_eq_getElem hj
  have aR : ∀ j, W.sats.length + W.stas.length + W.recs.length ≤ j → preR W j = W.recs := fun j hj => List.take_of_length_le (Nat.le_sub_of_add_le' (Nat.le_sub_of_add_le' (by rw [← Nat.add_assoc]; exact hj)))
  refine .inr (.inr (.inr ⟨_, by unfold kindW; rw [if_neg c0, if_neg c1, if_neg c2], List.getElem_mem hj, ?_, e, by rw [aS _ e0, aS _ d0], by rw [aT _ e1, aT _ d1], by rw [aR _ e4, aR _ d4], ?_, aS _ d0, aT _ d1⟩))
  · unfold restW
    rw [List.append_assoc, List.append_assoc, List.getElem?_append_right (by rw [List.length_map]; exact d0), List.length_map, List.getElem?_append_right (by rw [List.length_map]; exact d2), List.length_map, List.getElem?_append_right (by rw [List.length_map]; exact d3), List.length_map, List.getElem?_map, e]
    rfl
  · unfold preP; rw [sub_hi c0, sub_hi n1, sub_hi n2]; exact take_snoc e
theorem kindW_mono (W : WorldD) (i : Nat) : kindW W i ≤ kindW W (i + 1) := by
  unfold kindW
  by_cases c0 : i < W.sats.length
  · rw [if_pos c0]; exact Nat.zero_le _
  rw [if_neg c0, if_neg (show ¬ i + 1 < W.sats.length by omega)]
  by_cases c1 : i < W.sats.length + W.stas.length
  · rw [if_pos c1]
    split
    · exact Nat.le_refl _
    · split <;> omega
  rw [if_neg c1, if_neg (show ¬ i + 1 < W.sats.length + W.stas.length by omega)]
  by_cases c2 : i < W.sats.length + W.stas.length + W.recs.length
  · rw [if_pos c2]
    split <;> omega
  · rw [if_neg c2, if_neg (show ¬ i + 1 < W.sats.length + W.stas.length + W.recs.length by omega)]
    exact Nat.le_refl _
/-- a name is not among those ahead of it -/
theorem fresh_name {α : Type} {f : α → Str} {l : List α} {i : Nat} {s : α} (hd : (l.map f).Nodup) (h : l[i]? = some s) : f s ∉ (l.take i).map f := fun z => by
  obtain ⟨t, ht, e⟩ := List.mem_map.mp z
  obtain ⟨j, hj, ej⟩ := List.mem_iff_getElem.mp ht
  rw [List.getElem_take] at ej
  rw [List.length_take] at hj
  obtain ⟨hi, es⟩ := List.getElem?_eq_some_iff.mp h
  have h1 : (l.map f)[j]'(by rw [List.length_map]; omega) = (l.map f)[i]'(by rw [List.length_map]; exact hi) := by
    rw [List.getElem_map, List.getElem_map, ej, es]
    exact e
  have := (List.getElem_inj hd).mp h1
  omega
def sortsL : List Str := ["satellite", "station", "recording", "pass"]
section
variable {P : Program} {w : World} {K : PySem.W.Frag} {mg : Str → Option Value} {base : Heap} {CL CS CT CR CP CW aS aR fS fT fR fP : Addr}
def mostK : List Int := [3, 3, 10, 10]
def spMost : Sp := fun vs H Q _ => ∃ (i : Nat) (m : Int), vs = [.int (i : Int)] ∧ mostK[i]? = some m ∧ ∀ H', Same H H' → Q (.int m) H'
theorem d_most_things (T : TxtW K mg CL CS CT CR CP CW aS aR fS fT fR fP) (A : At K mg "most_things" s_most_things ["sort"]) : DefOk P w K mg base CX0 1 "most_things" ["sort"] spMost := by
  have B := T.L.B
  refine A.ok sc_most_things (fun vs H Q E h => ?_) (fun f cdv A outer s H vs Q E hr h => ?_)
  · obtain ⟨i, m, rfl, _⟩ := h
    rfl
  obtain ⟨i, m, rfl, hi, q⟩ := h
  refine ⟨_, pss_cons (ps_set (i := 1) sc_most_things.nd rfl (Or.inl rfl) (pe_tup (pa_cons (ClX.pe_cval (pe_ga T.c_World.gC) rfl) (pa_cons (ClX.pe_cval (pe_ga T.c_World.gC) rfl) (pa_cons (ClX.pe_cval (pe_ga T.c_World.gC) rfl) (pa_cons (ClX.pe_cval (pe_ga T.c_World.gC) rfl) pa_nil))))))
  (pss_one (ps_ret (pe_ix ix_tup (pv 1) (pv 0) (fun _ _ => rfl))))
    , ?_⟩
  obtain ⟨k1, h1⟩ := T.v_MOST_SATELLITES
  obtain ⟨k2, h2⟩ := T.v_MOST_STATIONS
  obtain ⟨k3, h3⟩ := T.v_MOST_RECORDINGS
  obtain ⟨k4, h4⟩ := T.v_MOST_PASSES
  refine ⟨CW, _, _, _, rfl, T.rdW, h1, CW, _, _, _, rfl, T.rdW, h2, CW, _, _, _, rfl, T.rdW, h3, CW, _, _, _, rfl, T.rdW, h4, (by show 4 ≤ sizeLine; decide), fun p hp => ?_⟩
  refine ⟨_, rfl, _, rfl, p, _, _, .int m, rfl, rfl, SqT.of upd_same, atI_nat ?_, q _ (same_new hp _)⟩
  have e : ([V.int 3, V.int 3, V.int 10, V.int 10] : List V) = mostK.map V.int := rfl
  rw [e, List.getElem?_map, hi]
  rfl
def spSort (K : PySem.W.Frag) (CL : Addr) : Sp := fun vs H Q _ => ∃ (a : Addr) (ws : List Str) (ahead : Int) (th : Addr) (ls : List Addr) (l : Addr) (xs : List V) (i : Nat) (u : Str) (m : Int), vs = [.ref a, .int ahead, .ref th] ∧ LnAt CL H a ws 0 ∧ ws[0]? = some u ∧ sortsL[i]? = some u ∧ ahead ≤ (i : Int) ∧
  SqT K H th (ls.map V.ref) ∧ ls[i]? = some l ∧ SqL K H l xs ∧ mostK[i]? = some m ∧ (xs.length : Int) < m ∧ ∀ H', SameX a H H' → LnAt CL H' a ws 1 → Q (.int (i : Int)) H'
theorem sorts_first {u : Str} : ∀ {i : Nat}, sortsL[i]? = some u → ∀ m, m < i → sortsL[m]? ≠ some u := by
  have nd : sortsL.Nodup := by decide +kernel
  intro i h m hm z
  obtain ⟨h1, e1⟩ := List.getElem?_eq_some_iff.mp h
  obtain ⟨h2, e2⟩ := List.getElem?_eq_some_iff.mp z
  have := (List.getElem_inj nd).mp (e1.trans e2.symm)
  omega
theorem d_read_sort (T : TxtW K mg CL CS CT CR CP CW aS aR fS fT fR fP) (D_Line_due : MDef P w K mg base CX0 2 CL "due" ["self"] [] (spDue CL)) (D_Line_step : MDef P w K mg base CX0 1 CL "step" ["self"] [] (spStep CL)) (D_most_things : DefOk P w K mg base CX0 1 "most_things" ["sort"] spMost)
    (A : At K mg "read_sort" s_read_sort ["line", "ahead", "things"]) : DefOk P w K mg base CX0 3 "read_sort" ["line", "ahead", "things"] (spSort K CL) := by
  have B := T.L.B
  refine A.ok sc_read_sort (fun vs H Q E h => ?_) (fun f cdv A outer s H vs Q E hr h => ?_)
  · obtain ⟨a, ws, ahead, th, ls, l, xs, i, u, m, rfl, _⟩ := h
    rfl
  obtain ⟨a, ws, ahead, th, ls, l, xs, i, u, m, rfl, hL, hu, hi, hah, h1, h2, h3, h4, h5, q⟩ := h
  refine ⟨_, pss_cons (ps_set (i := 3) sc_read_sort.nd rfl (Or.inl rfl) (pe_m0 D_Line_due T.c_Line.cl (hr.mono (by omega)) pass0 (pv 0)))
  (pss_cons (ps_if (pt_cmpR op_notIn_seq (pv 3) (pe_ga T.g_SORTS) (by rfl))
      (pss_one (ps_never))
      (pss_nil))
  (pss_cons (ps_set (i := 4) sc_read_sort.nd rfl (Or.inl rfl) (pe_bm PySem.F.plainAttrs_tuple PySem.F.slot_tuple_index PySem.F.type_tuple_index mt_tup_index (pe_ga T.g_SORTS) (pa_cons (pv 3) pa_nil)))
  (pss_cons (ps_if (pt_cmpR op_lt (pv 4) (pv 1) (nomark _))
      (pss_one (ps_never))
      (pss_nil))
  (pss_cons (ps_if (pt_cmpR op_eq (pe_callB (call_len_seq) (by rfl) B.len (by decide +kernel) (pa_cons (pe_ix ix_tup (pv 2) (pv 4) (fun _ _ => rfl)) pa_nil)) (pe_f D_most_things (hr.mono (by omega)) pass0 (pa_cons (pv 4) pa_nil)) (nomark _))
      (pss_one (ps_never))
      (pss_nil))
  (pss_cons (ps_expr (pe_m0 D_Line_step T.c_Line.cl (hr.mono (by omega)) pass0 (pv 0)))
  (pss_one (ps_ret (pv 4))))))))
    , ?_⟩
  have hm : u ∈ sortsL := List.mem_of_getElem? hi
  have hr' : 0 < ws.length := (List.getElem?_eq_some_iff.mp hu).1
  obtain ⟨dx, fs, g0, z0⟩ := LnAt.no hL (m := "due") (by decide +kernel) (by decide +kernel) (by decide +kernel) (by decide +kernel)
  refine ⟨_, rfl, a, _, _, rfl, g0, z0, a, ws, 0, u, rfl, hL, hu, ?_⟩
  refine ⟨_, rfl, aS, _, rfl, .inr (T.t_SORTS H), rfl, flat_strs, _, rfl, iteF' (by rw [show (([("satellite" : Str), "station", "recording", "pass"]).map V.str) = sortsL.map V.str from rfl, inV_str, decide_eq_true hm]; rfl) ?_⟩
  obtain ⟨o, ho1, ho2, ho3⟩ := T.k_SORTS
  refine ⟨.inr (.inl ⟨rfl, o, ho1, ho2, ho3⟩), _, rfl, aS, sortsL, u, i, rfl, rfl, T.t_SORTS H, hi, sorts_first hi, ?_⟩
  refine ⟨_, rfl, _, rfl, _, _, rfl, rfl, _, rfl, iteF' (decide_eq_false (by omega)) ?_⟩
  refine ⟨_, rfl, _, rfl, th, _, _, .ref l, rfl, rfl, h1, atI_nat (by rw [List.getElem?_map, h2]; rfl), l, xs, rfl, .inl h3, _, rfl, i, m, rfl, h4, fun H1 s1 => ?_⟩
  refine ⟨rfl, _, rfl, iteF' (decide_eq_false fun z => by have := V.int.inj z; (clear T D_Line_due D_Line_step D_most_things B hr hL hu hi hah h1 h2 h3 h4 q hm hr' g0 z0 ho1 ho2 ho3 s1 z; omega)) ?_⟩
  obtain ⟨dx, fs, g1, z1⟩ := LnAt.no (hL.same s1) (m := "step") (by decide +kernel) (by decide +kernel) (by decide +kernel) (by decide +kernel)
  refine ⟨_, rfl, a, _, _, rfl, g1, z1, a, ws, 0, rfl, hL.same s1, hr', fun H2 s2 L2 => ?_⟩
  exact ⟨_, rfl, q H2 ((SameX.of s1).trans s2) L2⟩
end
end DP
namespace DP
open PySem PySem.Spec PyProof.Rows L2
def SameA (as : List Addr) (H H' : Hp) : Prop := ∀ b o, b ∉ as → H b = some o → H' b = some o
theorem SameA.trans {as : List Addr} {H H1 H2 : Hp} (x : SameA as H H1) (y : SameA as H1 H2) : SameA as H H2 := fun b o n h => y b o n (x b o n h)
theorem SameA.of {as : List Addr} {H H' : Hp} (s : Same H H') : SameA as H H' := fun b o _ h => s b o h
theorem SameA.ofX {as : List Addr} {a : Addr} {H H' : Hp} (s : SameX a H H') (h : a ∈ as) : SameA as H H' := fun b o n q => s b o (fun z => n (z ▸ h)) q
theorem SameA.new {as : List Addr} {H H' : Hp} {L : Addr} {o : HO} (hL : H L = none) (s : SameA as H H') : SameA as H (upd H' L o) := fun b u n h => by
  rw [upd_ne (ne_of_none h hL)]
  exact s b u n h
theorem at_ne {K : PySem.W.Frag} {mg : Str → Option Value} {x y : Str} {st st' : Stmt} {ps ps' : List Str} {f g : Addr} (A : At K mg x st ps) (B : At K mg y st' ps') (hf : mg x = some (.ref f)) (hg : mg y = some (.ref g)) (n : x ≠ y) : f ≠ g := fun z => by
  obtain ⟨f', fd, F, e1, _⟩ := A.ex
  obtain ⟨g', gd, G, e2, _⟩ := B.ex
  rw [hf] at e1
  rw [hg] at e2
  cases e1
  cases e2
  obtain ⟨_, _, _, _, _, _, _, _, _, e3, l1, _⟩ := F.ex
  obtain ⟨_, _, _, _, _, _, _, _, _, e4, l2, _⟩ := G.ex
  rw [← z, l1] at l2
  have e : fd = gd := by
    injection Option.some.inj l2 with _ _ h _
    injection h
  have e5 := congrArg FuncData.name (e3.symm.trans (e.trans e4))
  exact n e5
section
variable {P : Program} {w : World} {K : PySem.W.Frag} {mg : Str → Option Value} {base : Heap} {CL CS CT CR CP CW aS aR fS fT fR fP : Addr}
def rdS (K : PySem.W.Frag) (CL CS CT CR CP fS fT fR fP : Addr) (f : Addr) : Option Sp := if f = fS then some (spRdSat K CL CS) else if f = fT then some (spRdSta K CL CT) else if f = fR then some (spRdRec K CL CR) else if f = fP then some (spRdPas K CL CP) else none
theorem held_of {x : Str} {ps : List Str} {sp : Sp} {k : Nat} {f : Addr} (D : DefOk P w K mg base CX0 k x ps sp) (h : mg x = some (.ref f)) : Held P w K mg base k f sp := by
  obtain ⟨g, fd, G, m, kp, b, _⟩ := D.ex
  rw [h] at m
  cases m
  exact ⟨fd, ps, G, kp, b⟩
def spThings (K : PySem.W.Frag) (CL CS CT CR CP : Addr) : Sp := fun vs H Q _ => ∃ (p : Addr) (as : List Addr) (W : WorldD), vs = [.ref p, .int W.horizon] ∧ SqL K H p (as.map V.ref) ∧ as.Nodup ∧ WorldOk W ∧ Paired (fun a l => LnAt CL H a l 0) as (restW W) ∧
  ∀ th l0 l1 l2 l3 H', SameA as H H' → Thg K CS CT CR CP H' th l0 l1 l2 l3 W.sats W.stas W.recs W.pass → Q (.ref th) H'
set_option maxHeartbeats 8000000 in
theorem d_read_things (T : TxtW K mg CL CS CT CR CP CW aS aR fS fT fR fP) (D_read_sort : DefOk P w K mg base CX0 3 "read_sort" ["line", "ahead", "things"] (spSort K CL))
    (D1 : DefOk P w K mg base CX0 5 "read_satellite" ["line", "horizon", "things"] (spRdSat K CL CS)) (D2 : DefOk P w K mg base CX0 5 "read_station" ["line", "_", "things"] (spRdSta K CL CT))
    (D3 : DefOk P w K mg base CX0 5 "read_recording" ["line", "horizon", "things"] (spRdRec K CL CR)) (D4 : DefOk P w K mg base CX0 5 "read_pass" ["line", "horizon", "things"] (spRdPas K CL CP))
    (n1 : fT ≠ fS) (n2 : fR ≠ fS) (n3 : fR ≠ fT) (n4 : fP ≠ fS) (n5 : fP ≠ fT) (n6 : fP ≠ fR)
    (D_Line_finish : MDef P w K mg base CX0 3 CL "finish" ["self"] [] (spFinish CL)) (A : At K mg "read_things" s_read_things ["lines", "horizon"]) : DefOk P w K mg base CX0 6 "read_things" ["lines", "horizon"] (spThings K CL CS CT CR CP) := by
  have B := T.L.B
  have HA : ∀ f sp, rdS K CL CS CT CR CP fS fT fR fP f = some sp → Held P w K mg base 5 f sp := fun f sp h => by
    unfold rdS at h
    by_cases c1 : f = fS
    · rw [if_pos c1] at h
      cases h
      rw [c1]
      exact held_of D1 T.r_satellite
    rw [if_neg c1] at h
    by_cases c2 : f = fT
    · rw [if_pos c2] at h
      cases h
      rw [c2]
      exact held_of D2 T.r_station
    rw [if_neg c2] at h
    by_cases c3 : f = fR
    · rw [if_pos c3] at h
      cases h
      rw [c3]
      exact held_of D3 T.r_recording
    rw [if_neg c3] at h
    by_cases c4 : f = fP
    · rw [if_pos c4] at h
      cases h
      rw [c4]
      exact held_of D4 T.r_pass
    rw [if_neg c4] at h
    cases h
  have S0 : rdS K CL CS CT CR CP fS fT fR fP fS = some (spRdSat K CL CS) := by unfold rdS; rw [if_pos rfl]
  have S1 : rdS K CL CS CT CR CP fS fT fR fP fT = some (spRdSta K CL CT) := by unfold rdS; rw [if_neg n1, if_pos rfl]
  have S2 : rdS K CL CS CT CR CP fS fT fR fP fR = some (spRdRec K CL CR) := by unfold rdS; rw [if_neg n2, if_neg n3, if_pos rfl]
  have S3 : rdS K CL CS CT CR CP fS fT fR fP fP = some (spRdPas K CL CP) := by unfold rdS; rw [if_neg n4, if_neg n5, if_neg n6, if_pos rfl]
  refine A.ok sc_read_things (fun vs H Q E h => ?_) (fun f cdv A outer s H vs Q E hr h => ?_)
  · obtain ⟨p, as, W, rfl, _⟩ := h
    rfl
  obtain ⟨p, as, W, rfl, hp, hnd, wok, hpr, q⟩ := h
  have hlen := paired_len hpr
  refine ⟨_, pss_cons (ps_set (i := 2) sc_read_things.nd rfl (Or.inl rfl) (pe_tup (pa_cons (pe_lst pa_nil) (pa_cons (pe_lst pa_nil) (pa_cons (pe_lst pa_nil) (pa_cons (pe_lst pa_nil) pa_nil))))))
  (pss_cons (ps_set (i := 3) sc_read_things.nd rfl (Or.inl rfl) pe_int)
  (pss_cons (ps_for PassesOwn.never rfl (pi_list (pv 0)) (pg_name (i := 4) sc_read_things.nd rfl (Or.inl rfl))
      (pss_cons (ps_set (i := 3) sc_read_things.nd rfl (Or.inl rfl) (pe_f D_read_sort (hr.mono (by omega)) pass0 (pa_cons (pv 4) (pa_cons (pv 3) (pa_cons (pv 2) pa_nil)))))
      (pss_cons (ps_set (i := 5) sc_read_things.nd rfl (Or.inl rfl) (pe_ix ix_tup (pe_ga T.g_READERS) (pv 3) (fun _ _ => rfl)))
      (pss_cons (ps_expr (pe_bm PySem.F.plainAttrs_list PySem.F.slot_list_append PySem.F.type_list_append mt_append (pe_ix ix_tup (pv 2) (pv 3) (fun _ _ => rfl)) (pa_cons (pe_callA (i := 5) (S := rdS K CL CS CT CR CP fS fT fR fP) HA (hr.mono (by omega)) rfl (Or.inl rfl) (pa_cons (pv 4) (pa_cons (pv 1) (pa_cons (pv 2) pa_nil)))) pa_nil)))
      (pss_one (ps_expr (pe_m0 D_Line_finish T.c_Line.cl (hr.mono (by omega)) pass0 (pv 4))))))))
  (pss_one (ps_ret (pv 2)))))
    , ?_⟩
  refine ⟨Nat.zero_le _, fun l0 h0 => ⟨Nat.zero_le _, fun l1 h1 => ⟨Nat.zero_le _, fun l2 h2 => ⟨Nat.zero_le _, fun l3 h3 => ⟨(by show 4 ≤ sizeLine; decide), fun th hth => ?_⟩⟩⟩⟩⟩
  have d01 : l0 ≠ l1 := fun z => by rw [← z, upd_same] at h1; cases h1
  have h1' : H l1 = none := by rw [upd_ne d01.symm] at h1; exact h1
  have d12 : l1 ≠ l2 := fun z => by rw [← z, upd_same] at h2; cases h2
  have d02 : l0 ≠ l2 := fun z => by rw [← z, upd_ne d01, upd_same] at h2; cases h2
  have h2' : H l2 = none := by rw [upd_ne d12.symm, upd_ne d02.symm] at h2; exact h2
  have d23 : l2 ≠ l3 := fun z => by rw [← z, upd_same] at h3; cases h3
  have d13 : l1 ≠ l3 := fun z => by rw [← z, upd_ne d12, upd_same] at h3; cases h3
  have d03 : l0 ≠ l3 := fun z => by rw [← z, upd_ne d02, upd_ne d01, upd_same] at h3; cases h3
  have h3' : H l3 = none := by rw [upd_ne d23.symm, upd_ne d13.symm, upd_ne d03.symm] at h3; exact h3
  have t3 : l3 ≠ th := fun z => by rw [← z, upd_same] at hth; cases hth
  have t2 : l2 ≠ th := fun z => by rw [← z, upd_ne d23, upd_same] at hth; cases hth
  have t1 : l1 ≠ th := fun z => by rw [← z, upd_ne d13, upd_ne d12, upd_same] at hth; cases hth
  have t0 : l0 ≠ th := fun z => by rw [← z, upd_ne d03, upd_ne d02, upd_ne d01, upd_same] at hth; cases hth
  have hth' : H th = none := by rw [upd_ne t3.symm, upd_ne t2.symm, upd_ne t1.symm, upd_ne t0.symm] at hth; exact hth
  have sS : Same H (upd (upd (upd (upd (upd H l0 (.lst [])) l1 (.lst [])) l2 (.lst [])) l3 (.lst [])) th (.tup [.ref l0, .ref l1, .ref l2, .ref l3])) := same_at hth' (same_at h3' (same_at h2' (same_at h1' (same_new h0 _) _) _) _) _
  refine ⟨_, rfl, p, rfl, ⟨_, sS.seq hp⟩, for_list (K := K) (a := p) (xs := as.map V.ref) (fun i σ H' => ∃ (k : Int) (y4 y5 : Option V), σ = [some (.ref p), some (.int W.horizon), some (.ref th), some (.int k), y4, y5] ∧ k ≤ (kindW W i : Int) ∧
      Thg K CS CT CR CP H' th l0 l1 l2 l3 (preS W i) (preT W i) (preR W i) (preP W i) ∧ (∀ j a l, i ≤ j → as[j]? = some a → (restW W)[j]? = some l → LnAt CL H' a l 0) ∧ SameA as H H') ⟨0, none, none, rfl, by (clear T D_read_sort D1 D2 D3 D4 n1 n2 n3 n4 n5 n6 D_Line_finish B HA S0 S1 S2 S3 hr hp hnd wok hpr q hlen h0 h1 h2 h3 hth d01 h1' d12 d02 h2' d23 d13 d03 h3' t3 t2 t1 t0 hth' sS; omega), ?_, ?_, SameA.of sS⟩ (fun i σ H' _ hI => ?_) (fun i x σ H1 hx hI => ?_) (fun σ H1 hI => ?_)⟩
  · have e0 : preS W 0 = [] := rfl
    have e1 : preT W 0 = [] := by unfold preT; rw [Nat.zero_sub]; rfl
    have e2 : preR W 0 = [] := by unfold preR; rw [Nat.zero_sub, Nat.zero_sub]; rfl
    have e3 : preP W 0 = [] := by unfold preP; rw [Nat.zero_sub, Nat.zero_sub, Nat.zero_sub]; rfl
    rw [e0, e1, e2, e3]
    exact ⟨upd_same, d01, d02, d03, d12, d13, d23, ⟨[], by rw [upd_ne t0, upd_ne d03, upd_ne d02, upd_ne d01, upd_same], .nil⟩, ⟨[], by rw [upd_ne t1, upd_ne d13, upd_ne d12, upd_same], .nil⟩, ⟨[], by rw [upd_ne t2, upd_ne d23, upd_same], .nil⟩, ⟨[], by rw [upd_ne t3, upd_same], .nil⟩⟩
  · intro j a l _ ha hl
    obtain ⟨l', hl', hL⟩ := paired_at hpr ha
    rw [hl] at hl'
    cases hl'
    exact hL.same sS
  · obtain ⟨k, y4, y5, rfl, _, _, _, hs⟩ := hI
    rcases hp with (hp | ⟨o, hp⟩) | hp
    · exact .inl (.inl (hs _ _ (fun z => by
        obtain ⟨j, hj, ej⟩ := List.mem_iff_getElem.mp z
        obtain ⟨l, _, hL⟩ := paired_at hpr (List.getElem?_eq_getElem hj)
        rw [ej] at hL
        obtain ⟨dx, n, wl, c, g1, g2⟩ := hL.ex
        rw [hp] at g1
        cases g1) hp))
    · exact .inl (.inr ⟨o, hs _ _ (fun z => by
        obtain ⟨j, hj, ej⟩ := List.mem_iff_getElem.mp z
        obtain ⟨l, _, hL⟩ := paired_at hpr (List.getElem?_eq_getElem hj)
        rw [ej] at hL
        obtain ⟨dx, n, wl, c, g1, g2⟩ := hL.ex
        rw [hp] at g1
        cases g1) hp⟩)
    · exact .inr hp
  · obtain ⟨k, y4, y5, rfl, hk, hT, hLs, hs⟩ := hI
    rw [List.getElem?_map] at hx
    cases ha : as[i]? with
    | none => rw [ha] at hx; cases hx
    | some a =>
    rw [ha] at hx
    have ex : V.ref a = x := Option.some.inj hx
    subst ex
    have hmem : a ∈ as := List.mem_of_getElem? ha
    have hi : i < (restW W).length := by
      rw [← hlen]
      exact (List.getElem?_eq_some_iff.mp ha).1
    have far : ∀ j b, i + 1 ≤ j → as[j]? = some b → b ≠ a := fun j b hj hb z => by
      subst z
      obtain ⟨q1, e1⟩ := List.getElem?_eq_some_iff.mp ha
      obtain ⟨q2, e2⟩ := List.getElem?_eq_some_iff.mp hb
      have := (List.getElem_inj hnd).mp (e1.trans e2.symm)
      (clear T D_read_sort D1 D2 D3 D4 n1 n2 n3 n4 n5 n6 D_Line_finish B HA S0 S1 S2 S3 hr hp hnd wok hpr q hlen h0 h1 h2 h3 hth d01 h1' d12 d02 h2' d23 d13 d03 h3' t3 t2 t1 t0 hth' sS hk hT hLs hs hi hb ha hx hmem q1 e1 q2 e2; omega)
    have neR : ∀ j l, (restW W)[j]? = some l → l ≠ [] := fun j l hl => by
      have hm : l ∈ restW W := List.mem_of_getElem? hl
      exact (linesW_ok wok l (List.mem_cons_of_mem _ hm)).1
    have nS := wok.nSats
    have nT := wok.nStas
    have nR := wok.nRecs
    have nP := wok.nPass
    have lS : (preS W i).length ≤ W.sats.length := by unfold preS; rw [List.length_take]; (clear T D_read_sort D1 D2 D3 D4 n1 n2 n3 n4 n5 n6 D_Line_finish B HA S0 S1 S2 S3 hr hp hnd wok hpr q hlen h0 h1 h2 h3 hth d01 h1' d12 d02 h2' d23 d13 d03 h3' t3 t2 t1 t0 hth' sS hk hT hLs hs ha hx hmem hi far neR nS nT nR nP; omega)
    have lT : (preT W i).length ≤ W.stas.length := by unfold preT; rw [List.length_take]; (clear T D_read_sort D1 D2 D3 D4 n1 n2 n3 n4 n5 n6 D_Line_finish B HA S0 S1 S2 S3 hr hp hnd wok hpr q hlen h0 h1 h2 h3 hth d01 h1' d12 d02 h2' d23 d13 d03 h3' t3 t2 t1 t0 hth' sS hk hT hLs hs ha hx hmem hi far neR nS nT nR nP lS; omega)
    have lR : (preR W i).length ≤ W.recs.length := by unfold preR; rw [List.length_take]; (clear T D_read_sort D1 D2 D3 D4 n1 n2 n3 n4 n5 n6 D_Line_finish B HA S0 S1 S2 S3 hr hp hnd wok hpr q hlen h0 h1 h2 h3 hth d01 h1' d12 d02 h2' d23 d13 d03 h3' t3 t2 t1 t0 hth' sS hk hT hLs hs ha hx hmem hi far neR nS nT nR nP lS lT; omega)
    have lP : (preP W i).length ≤ W.pass.length := by unfold preP; rw [List.length_take]; (clear T D_read_sort D1 D2 D3 D4 n1 n2 n3 n4 n5 n6 D_Line_finish B HA S0 S1 S2 S3 hr hp hnd wok hpr q hlen h0 h1 h2 h3 hth d01 h1' d12 d02 h2' d23 d13 d03 h3' t3 t2 t1 t0 hth' sS hk hT hLs hs ha hx hmem hi far neR nS nT nR nP lS lT lR; omega)
    have km := kindW_mono W i
    rcases restW_at W hi with ⟨s, hkd, hsm, hw, hat, e1, e2, e3, e4⟩ | ⟨s, hkd, hsm, hw, hat, e1, e2, e3, e4, eS⟩ | ⟨s, hkd, hsm, hw, hat, e1, e2, e3, e4, eS, eT⟩ | ⟨s, hkd, hsm, hw, hat, e1, e2, e3, e4, eS, eT⟩
    · have hL := hLs i a _ (Nat.le_refl _) ha hw
      obtain ⟨xs, ax, bx⟩ := hT.sats
      have lx := paired_len bx
      have hlt : (preS W i).length < W.sats.length := by
        have z := (List.getElem?_eq_some_iff.mp hat).1
        unfold preS
        rw [List.length_take]
        (clear T D_read_sort D1 D2 D3 D4 n1 n2 n3 n4 n5 n6 D_Line_finish B HA S0 S1 S2 S3 hr hp hnd wok hpr q hlen h0 h1 h2 h3 hth d01 h1' d12 d02 h2' d23 d13 d03 h3' t3 t2 t1 t0 hth' sS hk hT hLs hs ha hx hmem hi far neR nS nT nR nP lS lT lR lP km hkd hsm hw hat e1 e2 e3 e4 hL ax bx lx; omega)
      refine ⟨_, rfl, _, rfl, _, rfl, a, _, k, th, [l0, l1, l2, l3], l0, xs, 0, "satellite", 3, rfl, hL, rfl, rfl, by (clear T D_read_sort D1 D2 D3 D4 n1 n2 n3 n4 n5 n6 D_Line_finish B HA S0 S1 S2 S3 hr hp hnd wok hpr q hlen h0 h1 h2 h3 hth d01 h1' d12 d02 h2' d23 d13 d03 h3' t3 t2 t1 t0 hth' sS hT hLs hs ha hx hmem hi far neR nS nT nR nP lS lT lR lP km hsm hw hat e1 e2 e3 e4 hL ax bx lx hlt; omega), hT.list, rfl, SqL.of ax, rfl, by (clear T D_read_sort D1 D2 D3 D4 n1 n2 n3 n4 n5 n6 D_Line_finish B HA S0 S1 S2 S3 hr hp hnd wok hpr q hlen h0 h1 h2 h3 hth d01 h1' d12 d02 h2' d23 d13 d03 h3' t3 t2 t1 t0 hth' sS hk hT hLs hs ha hx hmem hi far neR nT nR nP lS lT lR lP km hkd hsm hw hat e1 e2 e3 e4 hL ax bx; omega), fun H2 s1 L1 => ?_⟩
      have hT1 := hT.sx hL s1
      refine ⟨_, rfl, aR, _, _, .ref fS, rfl, rfl, T.t_READERS _, atI_nat (j := 0) rfl, ?_⟩
      obtain ⟨dx0, n0, wl0, c0, g1, g2⟩ := hL.ex
      have ax1 : H2 l0 = some (.lst xs) := s1 _ _ (ne_of ax g1 (fun z => nomatch z)) ax
      refine ⟨_, rfl, _, rfl, th, _, _, .ref l0, rfl, rfl, hT1.list, atI_nat (j := 0) rfl, .inl ⟨rfl, _, SqL.of ax1⟩, fS, _, rfl, S0, _, rfl, _, rfl, _, rfl, ?_⟩
      refine ⟨a, W.horizon, th, s, _, rfl, L1, (hT.n0 T (by (clear T D_read_sort D1 D2 D3 D4 n1 n2 n3 n4 n5 n6 D_Line_finish B HA S0 S1 S2 S3 hr hp hnd wok hpr q hlen h0 h1 h2 h3 hth d01 h1' d12 d02 h2' d23 d13 d03 h3' t3 t2 t1 t0 hth' sS hk hT hLs hs ha hx hmem hi far neR nT nR nP lS lT lR lP km hkd hsm hw hat e1 e2 e3 e4 hL ax bx s1 L1 hT1 g1 g2 ax1; omega))).sameX hL s1, (fresh_name (f := (·.name)) wok.dSats hat), wok.sats s hsm, wok.horizon.1, wok.horizon.2, fun b H3 nb s2 L2 o2 => ?_⟩
      have hT2 := hT1.sx L1 s2
      obtain ⟨dx1, n1', wl1, c1, g3, g4⟩ := L1.ex
      have ax2 : H3 l0 = some (.lst xs) := s2 _ _ (ne_of ax1 g3 (fun z => nomatch z)) ax1
      refine ⟨l0, xs, .ref b, rfl, rfl, ax2, small1000 (by (clear T D_read_sort D1 D2 D3 D4 n1 n2 n3 n4 n5 n6 D_Line_finish B HA S0 S1 S2 S3 hr hp hnd wok hpr q hlen h0 h1 h2 h3 hth d01 h1' d12 d02 h2' d23 d13 d03 h3' t3 t2 t1 t0 hth' sS hk hT hLs hs ha hx hmem hi far neR nT nR nP lS lT lR lP km hkd hsm hw hat e1 e2 e3 e4 hL ax bx s1 L1 hT1 g1 g2 ax1 nb s2 L2 o2 hT2 g3 g4 ax2; omega)), ?_⟩
      have rf := refs_sat bx
      have L3 := L2.up (o := .lst (xs ++ [.ref b])) (neR i _ hw) ax2 rf
      obtain ⟨dx2, fs2, g5, z5⟩ := LnAt.no L3 (m := "finish") (by decide +kernel) (by decide +kernel) (by decide +kernel) (by decide +kernel)
      refine ⟨_, rfl, a, _, _, rfl, g5, z5, a, _, rfl, L3, ?_⟩
      refine ⟨(0 : Int), some (.ref a), some (.ref fS), rfl, by (clear T D_read_sort D1 D2 D3 D4 n1 n2 n3 n4 n5 n6 D_Line_finish B HA S0 S1 S2 S3 hr hp hnd wok hpr q hlen h0 h1 h2 h3 hth d01 h1' d12 d02 h2' d23 d13 d03 h3' t3 t2 t1 t0 hth' sS hk hT hLs hs ha hx hmem hi far neR nS nT nR nP lS lT lR lP hsm hw hat e1 e2 e3 e4 hL ax bx lx hlt s1 L1 hT1 g1 g2 ax1 nb s2 L2 o2 hT2 g3 g4 ax2 rf L3 g5 z5; omega), ?_, fun j d l hj hd hl => ?_, SameA.new h0 ((hs.trans (SameA.ofX s1 hmem)).trans (SameA.ofX s2 hmem))⟩
      · rw [e1, e2, e3, e4]
        exact hT2.push0 ax2 o2
      · have nd := far j d hj hd
        exact (((hLs j d l (by (clear T D_read_sort D1 D2 D3 D4 n1 n2 n3 n4 n5 n6 D_Line_finish B HA S0 S1 S2 S3 hr hp hnd wok hpr q hlen h0 h1 h2 h3 hth d01 h1' d12 d02 h2' d23 d13 d03 h3' t3 t2 t1 t0 hth' sS hk hT hLs hs ha hx hmem hi far neR nS nT nR nP lS lT lR lP km hkd hsm hw hat e1 e2 e3 e4 hL ax bx lx hlt s1 L1 hT1 g1 g2 ax1 nb s2 L2 o2 hT2 g3 g4 ax2 rf L3 g5 z5 hd hl nd; omega)) hd hl).sx hL nd s1).sx L1 nd s2).up (neR j l hl) ax2 rf
    · have hL := hLs i a _ (Nat.le_refl _) ha hw
      obtain ⟨xs, ax, bx⟩ := hT.stas
      have lx := paired_len bx
      have hlt : (preT W i).length < W.stas.length := by
        have z := (List.getElem?_eq_some_iff.mp hat).1
        unfold preT
        rw [List.length_take]
        (clear T D_read_sort D1 D2 D3 D4 n1 n2 n3 n4 n5 n6 D_Line_finish B HA S0 S1 S2 S3 hr hp hnd wok hpr q hlen h0 h1 h2 h3 hth d01 h1' d12 d02 h2' d23 d13 d03 h3' t3 t2 t1 t0 hth' sS hk hT hLs hs ha hx hmem hi far neR nS nT nR nP lS lT lR lP km hkd hsm hw hat e1 e2 e3 e4 eS hL ax bx lx; omega)
      refine ⟨_, rfl, _, rfl, _, rfl, a, _, k, th, [l0, l1, l2, l3], l1, xs, 1, "station", 3, rfl, hL, rfl, rfl, by (clear T D_read_sort D1 D2 D3 D4 n1 n2 n3 n4 n5 n6 D_Line_finish B HA S0 S1 S2 S3 hr hp hnd wok hpr q hlen h0 h1 h2 h3 hth d01 h1' d12 d02 h2' d23 d13 d03 h3' t3 t2 t1 t0 hth' sS hT hLs hs ha hx hmem hi far neR nS nT nR nP lS lT lR lP km hsm hw hat e1 e2 e3 e4 eS hL ax bx lx hlt; omega), hT.list, rfl, SqL.of ax, rfl, by (clear T D_read_sort D1 D2 D3 D4 n1 n2 n3 n4 n5 n6 D_Line_finish B HA S0 S1 S2 S3 hr hp hnd wok hpr q hlen h0 h1 h2 h3 hth d01 h1' d12 d02 h2' d23 d13 d03 h3' t3 t2 t1 t0 hth' sS hk hT hLs hs ha hx hmem hi far neR nS nR nP lS lT lR lP km hkd hsm hw hat e1 e2 e3 e4 eS hL ax bx; omega), fun H2 s1 L1 => ?_⟩
      have hT1 := hT.sx hL s1
      refine ⟨_, rfl, aR, _, _, .ref fT, rfl, rfl, T.t_READERS _, atI_nat (j := 1) rfl, ?_⟩
      obtain ⟨dx0, n0, wl0, c0, g1, g2⟩ := hL.ex
      have ax1 : H2 l1 = some (.lst xs) := s1 _ _ (ne_of ax g1 (fun z => nomatch z)) ax
      refine ⟨_, rfl, _, rfl, th, _, _, .ref l1, rfl, rfl, hT1.list, atI_nat (j := 1) rfl, .inl ⟨rfl, _, SqL.of ax1⟩, fT, _, rfl, S1, _, rfl, _, rfl, _, rfl, ?_⟩
      refine ⟨a, W.horizon, th, s, _, rfl, L1, (hT.n1 T (by (clear T D_read_sort D1 D2 D3 D4 n1 n2 n3 n4 n5 n6 D_Line_finish B HA S0 S1 S2 S3 hr hp hnd wok hpr q hlen h0 h1 h2 h3 hth d01 h1' d12 d02 h2' d23 d13 d03 h3' t3 t2 t1 t0 hth' sS hk hT hLs hs ha hx hmem hi far neR nS nR nP lS lT lR lP km hkd hsm hw hat e1 e2 e3 e4 eS hL ax bx s1 L1 hT1 g1 g2 ax1; omega))).sameX hL s1, (fresh_name (f := (·.name)) wok.dStas hat), wok.stas s hsm, fun b H3 nb s2 L2 o2 => ?_⟩
      have hT2 := hT1.sx L1 s2
      obtain ⟨dx1, n1', wl1, c1, g3, g4⟩ := L1.ex
      have ax2 : H3 l1 = some (.lst xs) := s2 _ _ (ne_of ax1 g3 (fun z => nomatch z)) ax1
      refine ⟨l1, xs, .ref b, rfl, rfl, ax2, small1000 (by (clear T D_read_sort D1 D2 D3 D4 n1 n2 n3 n4 n5 n6 D_Line_finish B HA S0 S1 S2 S3 hr hp hnd wok hpr q hlen h0 h1 h2 h3 hth d01 h1' d12 d02 h2' d23 d13 d03 h3' t3 t2 t1 t0 hth' sS hk hT hLs hs ha hx hmem hi far neR nS nR nP lS lT lR lP km hkd hsm hw hat e1 e2 e3 e4 eS hL ax bx s1 L1 hT1 g1 g2 ax1 nb s2 L2 o2 hT2 g3 g4 ax2; omega)), ?_⟩
      have rf := refs_sta bx
      have L3 := L2.up (o := .lst (xs ++ [.ref b])) (neR i _ hw) ax2 rf
      obtain ⟨dx2, fs2, g5, z5⟩ := LnAt.no L3 (m := "finish") (by decide +kernel) (by decide +kernel) (by decide +kernel) (by decide +kernel)
      refine ⟨_, rfl, a, _, _, rfl, g5, z5, a, _, rfl, L3, ?_⟩
      refine ⟨(1 : Int), some (.ref a), some (.ref fT), rfl, by (clear T D_read_sort D1 D2 D3 D4 n1 n2 n3 n4 n5 n6 D_Line_finish B HA S0 S1 S2 S3 hr hp hnd wok hpr q hlen h0 h1 h2 h3 hth d01 h1' d12 d02 h2' d23 d13 d03 h3' t3 t2 t1 t0 hth' sS hk hT hLs hs ha hx hmem hi far neR nS nT nR nP lS lT lR lP hsm hw hat e1 e2 e3 e4 eS hL ax bx lx hlt s1 L1 hT1 g1 g2 ax1 nb s2 L2 o2 hT2 g3 g4 ax2 rf L3 g5 z5; omega), ?_, fun j d l hj hd hl => ?_, SameA.new h1' ((hs.trans (SameA.ofX s1 hmem)).trans (SameA.ofX s2 hmem))⟩
      · rw [e1, e2, e3, e4]
        exact hT2.push1 ax2 o2
      · have nd := far j d hj hd
        exact (((hLs j d l (by (clear T D_read_sort D1 D2 D3 D4 n1 n2 n3 n4 n5 n6 D_Line_finish B HA S0 S1 S2 S3 hr hp hnd wok hpr q hlen h0 h1 h2 h3 hth d01 h1' d12 d02 h2' d23 d13 d03 h3' t3 t2 t1 t0 hth' sS hk hT hLs hs ha hx hmem hi far neR nS nT nR nP lS lT lR lP km hkd hsm hw hat e1 e2 e3 e4 eS hL ax bx lx hlt s1 L1 hT1 g1 g2 ax1 nb s2 L2 o2 hT2 g3 g4 ax2 rf L3 g5 z5 hd hl nd; omega)) hd hl).sx hL nd s1).sx L1 nd s2).up (neR j l hl) ax2 rf
    · have hL := hLs i a _ (Nat.le_refl _) ha hw
      obtain ⟨xs, ax, bx⟩ := hT.recs
      have lx := paired_len bx
      have hlt : (preR W i).length < W.recs.length := by
        have z := (List.getElem?_eq_some_iff.mp hat).1
        unfold preR
        rw [List.length_take]
        (clear T D_read_sort D1 D2 D3 D4 n1 n2 n3 n4 n5 n6 D_Line_finish B HA S0 S1 S2 S3 hr hp hnd wok hpr q hlen h0 h1 h2 h3 hth d01 h1' d12 d02 h2' d23 d13 d03 h3' t3 t2 t1 t0 hth' sS hk hT hLs hs ha hx hmem hi far neR nS nT nR nP lS lT lR lP km hkd hsm hw hat e1 e2 e3 e4 eS eT hL ax bx lx; omega)
      refine ⟨_, rfl, _, rfl, _, rfl, a, _, k, th, [l0, l1, l2, l3], l2, xs, 2, "recording", 10, rfl, hL, rfl, rfl, by (clear T D_read_sort D1 D2 D3 D4 n1 n2 n3 n4 n5 n6 D_Line_finish B HA S0 S1 S2 S3 hr hp hnd wok hpr q hlen h0 h1 h2 h3 hth d01 h1' d12 d02 h2' d23 d13 d03 h3' t3 t2 t1 t0 hth' sS hT hLs hs ha hx hmem hi far neR nS nT nR nP lS lT lR lP km hsm hw hat e1 e2 e3 e4 eS eT hL ax bx lx hlt; omega), hT.list, rfl, SqL.of ax, rfl, by (clear T D_read_sort D1 D2 D3 D4 n1 n2 n3 n4 n5 n6 D_Line_finish B HA S0 S1 S2 S3 hr hp hnd wok hpr q hlen h0 h1 h2 h3 hth d01 h1' d12 d02 h2' d23 d13 d03 h3' t3 t2 t1 t0 hth' sS hk hT hLs hs ha hx hmem hi far neR nS nT nP lS lT lR lP km hkd hsm hw hat e1 e2 e3 e4 eS eT hL ax bx; omega), fun H2 s1 L1 => ?_⟩
      have hT1 := hT.sx hL s1
      refine ⟨_, rfl, aR, _, _, .ref fR, rfl, rfl, T.t_READERS _, atI_nat (j := 2) rfl, ?_⟩
      obtain ⟨dx0, n0, wl0, c0, g1, g2⟩ := hL.ex
      have ax1 : H2 l2 = some (.lst xs) := s1 _ _ (ne_of ax g1 (fun z => nomatch z)) ax
      refine ⟨_, rfl, _, rfl, th, _, _, .ref l2, rfl, rfl, hT1.list, atI_nat (j := 2) rfl, .inl ⟨rfl, _, SqL.of ax1⟩, fR, _, rfl, S2, _, rfl, _, rfl, _, rfl, ?_⟩
      refine ⟨a, th, W, s, _, rfl, L1, (hT.n2 T (by (clear T D_read_sort D1 D2 D3 D4 n1 n2 n3 n4 n5 n6 D_Line_finish B HA S0 S1 S2 S3 hr hp hnd wok hpr q hlen h0 h1 h2 h3 hth d01 h1' d12 d02 h2' d23 d13 d03 h3' t3 t2 t1 t0 hth' sS hk hT hLs hs ha hx hmem hi far neR nS nT nP lS lT lR lP km hkd hsm hw hat e1 e2 e3 e4 eS eT hL ax bx s1 L1 hT1 g1 g2 ax1; omega))).sameX hL s1, (by rw [← eS]; exact (hT.n0 T (by (clear T D_read_sort D1 D2 D3 D4 n1 n2 n3 n4 n5 n6 D_Line_finish B HA S0 S1 S2 S3 hr hp hnd wok hpr q hlen h0 h1 h2 h3 hth d01 h1' d12 d02 h2' d23 d13 d03 h3' t3 t2 t1 t0 hth' sS hk hT hLs hs ha hx hmem hi far neR nT nR nP lT lR lP km hkd hsm hw hat e1 e2 e3 e4 eS eT hL ax bx lx hlt s1 L1 hT1 g1 g2 ax1; omega))).sameX hL s1), (fresh_name (f := (·.name)) wok.dRecs hat), wok, wok.recs s hsm, fun b H3 nb s2 L2 o2 => ?_⟩
      have hT2 := hT1.sx L1 s2
      obtain ⟨dx1, n1', wl1, c1, g3, g4⟩ := L1.ex
      have ax2 : H3 l2 = some (.lst xs) := s2 _ _ (ne_of ax1 g3 (fun z => nomatch z)) ax1
      refine ⟨l2, xs, .ref b, rfl, rfl, ax2, small1000 (by (clear T D_read_sort D1 D2 D3 D4 n1 n2 n3 n4 n5 n6 D_Line_finish B HA S0 S1 S2 S3 hr hp hnd wok hpr q hlen h0 h1 h2 h3 hth d01 h1' d12 d02 h2' d23 d13 d03 h3' t3 t2 t1 t0 hth' sS hk hT hLs hs ha hx hmem hi far neR nS nT nP lS lT lR lP km hkd hsm hw hat e1 e2 e3 e4 eS eT hL ax bx s1 L1 hT1 g1 g2 ax1 nb s2 L2 o2 hT2 g3 g4 ax2; omega)), ?_⟩
      have rf := refs_rec bx
      have L3 := L2.up (o := .lst (xs ++ [.ref b])) (neR i _ hw) ax2 rf
      obtain ⟨dx2, fs2, g5, z5⟩ := LnAt.no L3 (m := "finish") (by decide +kernel) (by decide +kernel) (by decide +kernel) (by decide +kernel)
      refine ⟨_, rfl, a, _, _, rfl, g5, z5, a, _, rfl, L3, ?_⟩
      refine ⟨(2 : Int), some (.ref a), some (.ref fR), rfl, by (clear T D_read_sort D1 D2 D3 D4 n1 n2 n3 n4 n5 n6 D_Line_finish B HA S0 S1 S2 S3 hr hp hnd wok hpr q hlen h0 h1 h2 h3 hth d01 h1' d12 d02 h2' d23 d13 d03 h3' t3 t2 t1 t0 hth' sS hk hT hLs hs ha hx hmem hi far neR nS nT nR nP lS lT lR lP hsm hw hat e1 e2 e3 e4 eS eT hL ax bx lx hlt s1 L1 hT1 g1 g2 ax1 nb s2 L2 o2 hT2 g3 g4 ax2 rf L3 g5 z5; omega), ?_, fun j d l hj hd hl => ?_, SameA.new h2' ((hs.trans (SameA.ofX s1 hmem)).trans (SameA.ofX s2 hmem))⟩
      · rw [e1, e2, e3, e4]
        exact hT2.push2 ax2 o2
      · have nd := far j d hj hd
        exact (((hLs j d l (by (clear T D_read_sort D1 D2 D3 D4 n1 n2 n3 n4 n5 n6 D_Line_finish B HA S0 S1 S2 S3 hr hp hnd wok hpr q hlen h0 h1 h2 h3 hth d01 h1' d12 d02 h2' d23 d13 d03 h3' t3 t2 t1 t0 hth' sS hk hT hLs hs ha hx hmem hi far neR nS nT nR nP lS lT lR lP km hkd hsm hw hat e1 e2 e3 e4 eS eT hL ax bx lx hlt s1 L1 hT1 g1 g2 ax1 nb s2 L2 o2 hT2 g3 g4 ax2 rf L3 g5 z5 hd hl nd; omega)) hd hl).sx hL nd s1).sx L1 nd s2).up (neR j l hl) ax2 rf
    · have hL := hLs i a _ (Nat.le_refl _) ha hw
      obtain ⟨xs, ax, bx⟩ := hT.pass
      have lx := paired_len bx
      have hlt : (preP W i).length < W.pass.length := by
        have z := (List.getElem?_eq_some_iff.mp hat).1
        unfold preP
        rw [List.length_take]
        (clear T D_read_sort D1 D2 D3 D4 n1 n2 n3 n4 n5 n6 D_Line_finish B HA S0 S1 S2 S3 hr hp hnd wok hpr q hlen h0 h1 h2 h3 hth d01 h1' d12 d02 h2' d23 d13 d03 h3' t3 t2 t1 t0 hth' sS hk hT hLs hs ha hx hmem hi far neR nS nT nR nP lS lT lR lP km hkd hsm hw hat e1 e2 e3 e4 eS eT hL ax bx lx; omega)
      refine ⟨_, rfl, _, rfl, _, rfl, a, _, k, th, [l0, l1, l2, l3], l3, xs, 3, "pass", 10, rfl, hL, rfl, rfl, by (clear T D_read_sort D1 D2 D3 D4 n1 n2 n3 n4 n5 n6 D_Line_finish B HA S0 S1 S2 S3 hr hp hnd wok hpr q hlen h0 h1 h2 h3 hth d01 h1' d12 d02 h2' d23 d13 d03 h3' t3 t2 t1 t0 hth' sS hT hLs hs ha hx hmem hi far neR nS nT nR nP lS lT lR lP km hsm hw hat e1 e2 e3 e4 eS eT hL ax bx lx hlt; omega), hT.list, rfl, SqL.of ax, rfl, by (clear T D_read_sort D1 D2 D3 D4 n1 n2 n3 n4 n5 n6 D_Line_finish B HA S0 S1 S2 S3 hr hp hnd wok hpr q hlen h0 h1 h2 h3 hth d01 h1' d12 d02 h2' d23 d13 d03 h3' t3 t2 t1 t0 hth' sS hk hT hLs hs ha hx hmem hi far neR nS nT nR lS lT lR lP km hkd hsm hw hat e1 e2 e3 e4 eS eT hL ax bx; omega), fun H2 s1 L1 => ?_⟩
      have hT1 := hT.sx hL s1
      refine ⟨_, rfl, aR, _, _, .ref fP, rfl, rfl, T.t_READERS _, atI_nat (j := 3) rfl, ?_⟩
      obtain ⟨dx0, n0, wl0, c0, g1, g2⟩ := hL.ex
      have ax1 : H2 l3 = some (.lst xs) := s1 _ _ (ne_of ax g1 (fun z => nomatch z)) ax
      refine ⟨_, rfl, _, rfl, th, _, _, .ref l3, rfl, rfl, hT1.list, atI_nat (j := 3) rfl, .inl ⟨rfl, _, SqL.of ax1⟩, fP, _, rfl, S3, _, rfl, _, rfl, _, rfl, ?_⟩
      refine ⟨a, th, W, s, _, rfl, L1, (hT.n3 T (by (clear T D_read_sort D1 D2 D3 D4 n1 n2 n3 n4 n5 n6 D_Line_finish B HA S0 S1 S2 S3 hr hp hnd wok hpr q hlen h0 h1 h2 h3 hth d01 h1' d12 d02 h2' d23 d13 d03 h3' t3 t2 t1 t0 hth' sS hk hT hLs hs ha hx hmem hi far neR nS nT nR lS lT lR lP km hkd hsm hw hat e1 e2 e3 e4 eS eT hL ax bx s1 L1 hT1 g1 g2 ax1; omega))).sameX hL s1, (by rw [← eS]; exact (hT.n0 T (by (clear T D_read_sort D1 D2 D3 D4 n1 n2 n3 n4 n5 n6 D_Line_finish B HA S0 S1 S2 S3 hr hp hnd wok hpr q hlen h0 h1 h2 h3 hth d01 h1' d12 d02 h2' d23 d13 d03 h3' t3 t2 t1 t0 hth' sS hk hT hLs hs ha hx hmem hi far neR nT nR nP lT lR lP km hkd hsm hw hat e1 e2 e3 e4 eS eT hL ax bx lx hlt s1 L1 hT1 g1 g2 ax1; omega))).sameX hL s1), (by rw [← eT]; exact (hT.n1 T (by (clear T D_read_sort D1 D2 D3 D4 n1 n2 n3 n4 n5 n6 D_Line_finish B HA S0 S1 S2 S3 hr hp hnd wok hpr q hlen h0 h1 h2 h3 hth d01 h1' d12 d02 h2' d23 d13 d03 h3' t3 t2 t1 t0 hth' sS hk hT hLs hs ha hx hmem hi far neR nS nR nP lS lR lP km hkd hsm hw hat e1 e2 e3 e4 eS eT hL ax bx lx hlt s1 L1 hT1 g1 g2 ax1; omega))).sameX hL s1), (fresh_name (f := (·.name)) wok.dPass hat), wok, wok.pass s hsm, fun b H3 nb s2 L2 o2 => ?_⟩
      have hT2 := hT1.sx L1 s2
      obtain ⟨dx1, n1', wl1, c1, g3, g4⟩ := L1.ex
      have ax2 : H3 l3 = some (.lst xs) := s2 _ _ (ne_of ax1 g3 (fun z => nomatch z)) ax1
      refine ⟨l3, xs, .ref b, rfl, rfl, ax2, small1000 (by (clear T D_read_sort D1 D2 D3 D4 n1 n2 n3 n4 n5 n6 D_Line_finish B HA S0 S1 S2 S3 hr hp hnd wok hpr q hlen h0 h1 h2 h3 hth d01 h1' d12 d02 h2' d23 d13 d03 h3' t3 t2 t1 t0 hth' sS hk hT hLs hs ha hx hmem hi far neR nS nT nR lS lT lR lP km hkd hsm hw hat e1 e2 e3 e4 eS eT hL ax bx s1 L1 hT1 g1 g2 ax1 nb s2 L2 o2 hT2 g3 g4 ax2; omega)), ?_⟩
      have rf := refs_pas bx
      have L3 := L2.up (o := .lst (xs ++ [.ref b])) (neR i _ hw) ax2 rf
      obtain ⟨dx2, fs2, g5, z5⟩ := LnAt.no L3 (m := "finish") (by decide +kernel) (by decide +kernel) (by decide +kernel) (by decide +kernel)
      refine ⟨_, rfl, a, _, _, rfl, g5, z5, a, _, rfl, L3, ?_⟩
      refine ⟨(3 : Int), some (.ref a), some (.ref fP), rfl, by (clear T D_read_sort D1 D2 D3 D4 n1 n2 n3 n4 n5 n6 D_Line_finish B HA S0 S1 S2 S3 hr hp hnd wok hpr q hlen h0 h1 h2 h3 hth d01 h1' d12 d02 h2' d23 d13 d03 h3' t3 t2 t1 t0 hth' sS hk hT hLs hs ha hx hmem hi far neR nS nT nR nP lS lT lR lP hsm hw hat e1 e2 e3 e4 eS eT hL ax bx lx hlt s1 L1 hT1 g1 g2 ax1 nb s2 L2 o2 hT2 g3 g4 ax2 rf L3 g5 z5; omega), ?_, fun j d l hj hd hl => ?_, SameA.new h3' ((hs.trans (SameA.ofX s1 hmem)).trans (SameA.ofX s2 hmem))⟩
      · rw [e1, e2, e3, e4]
        exact hT2.push3 ax2 o2
      · have nd := far j d hj hd
        exact (((hLs j d l (by (clear T D_read_sort D1 D2 D3 D4 n1 n2 n3 n4 n5 n6 D_Line_finish B HA S0 S1 S2 S3 hr hp hnd wok hpr q hlen h0 h1 h2 h3 hth d01 h1' d12 d02 h2' d23 d13 d03 h3' t3 t2 t1 t0 hth' sS hk hT hLs hs ha hx hmem hi far neR nS nT nR nP lS lT lR lP km hkd hsm hw hat e1 e2 e3 e4 eS eT hL ax bx lx hlt s1 L1 hT1 g1 g2 ax1 nb s2 L2 o2 hT2 g3 g4 ax2 rf L3 g5 z5 hd hl nd; omega)) hd hl).sx hL nd s1).sx L1 nd s2).up (neR j l hl) ax2 rf
  · obtain ⟨k, y4, y5, rfl, hk, hT, hLs, hs⟩ := hI
    rw [List.length_map, hlen] at hT
    have f1 : preS W (restW W).length = W.sats := List.take_of_length_le (by rw [restW_len]; (clear T D_read_sort D1 D2 D3 D4 n1 n2 n3 n4 n5 n6 D_Line_finish B HA S0 S1 S2 S3 hr hp hnd wok hpr q hlen h0 h1 h2 h3 hth d01 h1' d12 d02 h2' d23 d13 d03 h3' t3 t2 t1 t0 hth' sS hk hT hLs hs; omega))
    have f2 : preT W (restW W).length = W.stas := List.take_of_length_le (by rw [restW_len]; (clear T D_read_sort D1 D2 D3 D4 n1 n2 n3 n4 n5 n6 D_Line_finish B HA S0 S1 S2 S3 hr hp hnd wok hpr q hlen h0 h1 h2 h3 hth d01 h1' d12 d02 h2' d23 d13 d03 h3' t3 t2 t1 t0 hth' sS hk hT hLs hs f1; omega))
    have f3 : preR W (restW W).length = W.recs := List.take_of_length_le (by rw [restW_len]; (clear T D_read_sort D1 D2 D3 D4 n1 n2 n3 n4 n5 n6 D_Line_finish B HA S0 S1 S2 S3 hr hp hnd wok hpr q hlen h0 h1 h2 h3 hth d01 h1' d12 d02 h2' d23 d13 d03 h3' t3 t2 t1 t0 hth' sS hk hT hLs hs f1 f2; omega))
    have f4 : preP W (restW W).length = W.pass := List.take_of_length_le (by rw [restW_len]; (clear T D_read_sort D1 D2 D3 D4 n1 n2 n3 n4 n5 n6 D_Line_finish B HA S0 S1 S2 S3 hr hp hnd wok hpr q hlen h0 h1 h2 h3 hth d01 h1' d12 d02 h2' d23 d13 d03 h3' t3 t2 t1 t0 hth' sS hk hT hLs hs f1 f2 f3; omega))
    rw [f1, f2, f3, f4] at hT
    exact ⟨_, rfl, q th l0 l1 l2 l3 H1 hs hT⟩
end
end DP
namespace DP
open PySem PySem.Spec PyProof.Rows L2
/-- a staticmethod of a class -/
structure SMet (K : PySem.W.Frag) (C : Addr) (m : Str) (g : Addr) : Prop where
  ex : ∃ p rest, PySem.W.findCls K (.ref C) (.type "type") m = some (.get (.builtin "staticmethod.__get__") (.ref p) .none (.ref C)) ∧ PySem.W.recIn K p "staticmethod" = some (.ref g :: rest)
structure SAt (K : PySem.W.Frag) (C : Addr) (m qual : Str) (st : Stmt) (ps : List Str) : Prop where
  ex : ∃ f fd, Fun K m qual st f fd ∧ SMet K C m f ∧ Binds K fd ps []
structure SDef (P : Program) (w : World) (K : PySem.W.Frag) (mg : Str → Option Value) (base : Heap) (CX : CXT) (k : Nat) (C : Addr) (m : Str) (ps : List Str) (sp : Sp) : Prop where
  ex : ∃ f fd, FnOk P w K mg base CX k f fd ps sp ∧ SMet K C m f ∧ PySem.W.keepIn K (.ref f) = true ∧ Binds K fd ps []
def tSMeth (C : Addr) (sp : Sp) (E : XK) (ta : TE) (t : TA) : TE := fun σ H Q => ta σ H fun x H1 => x = .ref C ∧ t σ H1 fun vs H2 => sp vs H2 Q E
theorem pe_smeth {X : Cx} {CX : CXT} {k : Nat} {C : Addr} {m : Str} {ps : List Str} {sp : Sp} {E : XK} {o e : Expr} {es : List Expr} {ta : TE} {t : TA} {pos apos : Pos} {pl : Sem Bool}
    (D : SDef X.prog X.w X.K X.mg X.base CX k C m ps sp) (rd : ClX.CRead X.K C (.type "type")) (hr : Room k X.A) (hx : Passes CX X E) (he : PE X o ta) (ha : PA X (e :: es) t)
    (hst : starEach (e :: es) X.env = (false, eval e X.env) :: starEach es X.env := by rfl) (hpl : (backTo pos (starEach es X.env)).any (·.1) = false := by rfl)
    (ht : eval (.Call (.Attribute o m apos) (e :: es) [] pos) X.env = (do
      let ov ← eval o X.env
      standAt apos.atName
      let (f, first) ← holding [ov] (getMethod ov m pl)
      callWith pos f first (backTo pos (starEach (e :: es) X.env)) (backToKw pos (keywordEach [] X.env))) := by rfl) :
    PE X (.Call (.Attribute o m apos) (e :: es) [] pos) (tSMeth C sp E ta t) := by
  obtain ⟨f, fd, G, ⟨p, rest, e1, e2⟩, kp, b⟩ := D.ex
  refine ⟨fun pins s σ H Q I h => ?_⟩
  refine PySem.W.methodCall_KW (pl := pl) (thn (he.run pins s σ H _ I h) fun u s1 ⟨x, H1, I1, rx, ex, q⟩ => ?_) ht
  subst ex
  obtain rfl : u = Value.ref C := rx
  have I2 := I1.tok (s1.toks + 1)
  refine PySem.W.method_cls I1.kIn rd.ga (PySem.W.cls_bind I1.kIn rd.rd e1 (wpAny_call (PySem.W.sm_get (s := { s1 with toks := s1.toks + 1 }) I2.kIn e2 (PySem.W.handed_on (handed_of (v := .ref f) rfl) ?_))))
  refine PySem.W.callWith_K (h₀ := X.base) I.ok.mod.kin kp (thn (ha.run pos pins _ σ H1 _ I2 q) fun us s3 ⟨vs, H2, I3, r, q2⟩ => ⟨I3.kIn, ?_⟩) hst hpl
  rw [← List.append_nil vs] at q2
  exact run_fn (dvs := []) (ds := []) G hr b .nil hx I3 r q2
section
variable {P : Program} {w : World} {K : PySem.W.Frag} {mg : Str → Option Value} {base : Heap} {C : Addr} {m qual : Str} {st : Stmt} {ps N : List Str} {k : Nat} {sp : Sp}
theorem SAt.ok (F : SAt K C m qual st ps) (S : FnScope N ps (defScope st)) (len : ∀ vs H Q E, sp vs H Q E → vs.length = ps.length)
    (hbody : ∀ (f : Addr) (cdv : Value) (A : Around) (outer : List Env) (s : Shared) (H : Hp) (vs : List V) (Q : VK) (E : XK), Room k (A.deeper (envOfC qual (defScope st) s.heap.objs.size f cdv)) → sp vs H Q E →
      ∃ t, PSs (cxOf CX0 P w K mg base N qual (defScope st) f cdv A outer s H E).nox (defBody st) t ∧ t { nx := fun _ H' => Q .non H', rt := Q } (start N vs) H) : SDef P w K mg base CX0 (k + 1) C m ps sp := by
  obtain ⟨f, fd, G, M, b⟩ := F.ex
  exact ⟨f, fd, G.ok S len (fun cdv A outer s H vs Q E hr h => hbody f cdv A outer s H vs Q E hr h), M, G.kp, b⟩
end
def worF (u : Str) (h : Int) (t0 t1 t2 t3 : Addr) : List (Str × V) := [("text", .str u), ("horizon", .int h), ("satellites", .ref t0), ("stations", .ref t1), ("recordings", .ref t2), ("passes", .ref t3)]
structure WorldAt (K : PySem.W.Frag) (CS CT CR CP CW : Addr) (H : Hp) (a : Addr) (W : WorldD) : Prop where
  ex : ∃ dx t0 t1 t2 t3 x0 x1 x2 x3, H a = some (.ins CW dx (worF (textW W) W.horizon t0 t1 t2 t3)) ∧ SqT K H t0 x0 ∧ Paired (SatAt K CS H) x0 W.sats ∧ SqT K H t1 x1 ∧ Paired (StaAt CT H) x1 W.stas ∧
    SqT K H t2 x2 ∧ Paired (RecAt CR H) x2 W.recs ∧ SqT K H t3 x3 ∧ Paired (PasAt K CP H) x3 W.pass
theorem WorldAt.same {K : PySem.W.Frag} {CS CT CR CP CW : Addr} {H H' : Hp} {a : Addr} {W : WorldD} (h : WorldAt K CS CT CR CP CW H a W) (z : Same H H') : WorldAt K CS CT CR CP CW H' a W := by
  obtain ⟨dx, t0, t1, t2, t3, x0, x1, x2, x3, g, a0, b0, a1, b1, a2, b2, a3, b3⟩ := h.ex
  exact ⟨dx, t0, t1, t2, t3, x0, x1, x2, x3, z _ _ g, Same.tup z a0, Paired.mapP b0 fun _ _ y => y.same z, Same.tup z a1, Paired.mapP b1 fun _ _ y => y.same z, Same.tup z a2, Paired.mapP b2 fun _ _ y => y.same z, Same.tup z a3, Paired.mapP b3 fun _ _ y => y.same z⟩
section
variable {K : PySem.W.Frag} {CS CT CR CP C : Addr} {H H' : Hp} {x dx th l0 l1 l2 l3 : Addr} {y : V} {S : List SatD} {T : List StaD} {R : List RecD} {P : List PasD}
theorem ne_bare {b D dy : Addr} {fs : List (Str × V)} (hx : H x = some (.ins C dx [])) (hb : H b = some (.ins D dy fs)) (n : fs.length ≠ 0) : b ≠ x := ins_ne hb hx n
/-- the things stay where a new object is filled -/
theorem Thg.bare (h : Thg K CS CT CR CP H th l0 l1 l2 l3 S T R P) (hx : H x = some (.ins C dx [])) (z : SameX x H H') : Thg K CS CT CR CP H' th l0 l1 l2 l3 S T R P := by
  obtain ⟨x0, a0, b0⟩ := h.sats
  obtain ⟨x1, a1, b1⟩ := h.stas
  obtain ⟨x2, a2, b2⟩ := h.recs
  obtain ⟨x3, a3, b3⟩ := h.pass
  refine ⟨z _ _ (ne_of h.tup hx (fun z => nomatch z)) h.tup, h.d01, h.d02, h.d03, h.d12, h.d13, h.d23, ⟨x0, z _ _ (ne_of a0 hx (fun z => nomatch z)) a0, Paired.mapP b0 fun _ _ q => ?_⟩, ⟨x1, z _ _ (ne_of a1 hx (fun z => nomatch z)) a1, Paired.mapP b1 fun _ _ q => ?_⟩,
    ⟨x2, z _ _ (ne_of a2 hx (fun z => nomatch z)) a2, Paired.mapP b2 fun _ _ q => ?_⟩, ⟨x3, z _ _ (ne_of a3 hx (fun z => nomatch z)) a3, Paired.mapP b3 fun _ _ q => ?_⟩⟩
  · obtain ⟨b, dx, t, ls, h1, h2, h3, h4⟩ := q
    exact ⟨b, dx, t, ls, h1, z _ _ (ne_bare hx h2 (by show 8 ≠ 0; decide)) h2, z.sqT hx h3, z.spans hx h4⟩
  · obtain ⟨b, dx, h1, h2⟩ := q
    exact ⟨b, dx, h1, z _ _ (ne_bare hx h2 (by show 3 ≠ 0; decide)) h2⟩
  · obtain ⟨b, dx, h1, h2⟩ := q
    exact ⟨b, dx, h1, z _ _ (ne_bare hx h2 (by show 10 ≠ 0; decide)) h2⟩
  · obtain ⟨b, dx, t, h1, h2, h3⟩ := q
    exact ⟨b, dx, t, h1, z _ _ (ne_bare hx h2 (by show 7 ≠ 0; decide)) h2, z.sqT hx h3⟩
end
section
variable {P : Program} {w : World} {K : PySem.W.Frag} {mg : Str → Option Value} {base : Heap} {CL CS CT CR CP CW aS aR fS fT fR fP : Addr}
def spWInit (K : PySem.W.Frag) (CS CT CR CP CW : Addr) : Sp := fun vs H Q _ => ∃ (x dx : Addr) (W : WorldD) (th l0 l1 l2 l3 : Addr), vs = [.ref x, .str (textW W), .int W.horizon, .ref th] ∧ H x = some (.ins CW dx []) ∧
  Thg K CS CT CR CP H th l0 l1 l2 l3 W.sats W.stas W.recs W.pass ∧ ∀ H', SameX x H H' → WorldAt K CS CT CR CP CW H' x W → Q .non H'
theorem dI_World (T : TxtW K mg CL CS CT CR CP CW aS aR fS fT fR fP) (A : MAt K CW "__init__" "World.__init__" s_World___init__ ["self", "text", "horizon", "things"]) : MDef P w K mg base CX0 1 CW "__init__" ["self", "text", "horizon", "things"] [] (spWInit K CS CT CR CP CW) := by
  have B := T.L.B
  refine A.ok sc_World___init__ (fun vs H Q E h => ?_) (fun f cdv A outer s H vs Q E hr h => ?_)
  · obtain ⟨x, dx, W, th, l0, l1, l2, l3, rfl, _⟩ := h
    rfl
  obtain ⟨x, dx, W, th, l0, l1, l2, l3, rfl, hx, hT, q⟩ := h
  refine ⟨_, pss_cons (ps_asg (pv 3) (pg_tup (by rfl) (pgs_cons (pg_name (i := 4) sc_World___init__.nd rfl (Or.inl rfl)) (pgs_cons (pg_name (i := 5) sc_World___init__.nd rfl (Or.inl rfl)) (pgs_cons (pg_name (i := 6) sc_World___init__.nd rfl (Or.inl rfl)) (pgs_cons (pg_name (i := 7) sc_World___init__.nd rfl (Or.inl rfl)) (pgs_nil)))))))
  (pss_cons (ps_fld (pv 0) (pv 1) rfl)
  (pss_cons (ps_fld (pv 0) (pv 2) rfl)
  (pss_cons (ps_fld (pv 0) (pe_callTy (call_tuple_of) (by rfl) B.tuple (by decide +kernel) (pa_cons (pv 4) pa_nil)) rfl)
  (pss_cons (ps_fld (pv 0) (pe_callTy (call_tuple_of) (by rfl) B.tuple (by decide +kernel) (pa_cons (pv 5) pa_nil)) rfl)
  (pss_cons (ps_fld (pv 0) (pe_callTy (call_tuple_of) (by rfl) B.tuple (by decide +kernel) (pa_cons (pv 6) pa_nil)) rfl)
  (pss_one (ps_fld (pv 0) (pe_callTy (call_tuple_of) (by rfl) B.tuple (by decide +kernel) (pa_cons (pv 7) pa_nil)) rfl)))))))
    , ?_⟩
  have cl := T.c_World.cl
  refine ⟨_, rfl, th, _, rfl, SqT.of hT.tup, rfl, _, _, rfl, _, _, rfl, _, _, rfl, _, _, rfl, rfl, ?_⟩
  refine ⟨_, rfl, _, rfl, x, CW, dx, _, rfl, hx, cl, T.n_World_text, (by show 0 < 1000; decide), ?_⟩
  rw [put_nil]
  refine ⟨_, rfl, _, rfl, x, CW, dx, _, rfl, upd_same, cl, T.n_World_horizon, (by show 1 < 1000; decide), ?_⟩
  rw [upd_upd, put_miss (by decide +kernel), put_nil]
  have z1 : SameX x H (upd H x (.ins CW dx [("text", .str (textW W)), ("horizon", .int W.horizon)])) := SameX.upd
  obtain ⟨x0, a0, b0⟩ := (hT.bare hx z1).sats
  refine ⟨_, rfl, l0, x0, rfl, .inl ⟨SqL.of a0, fun t0 ht0 => ?_⟩⟩
  have e0 : x ≠ t0 := fun z => by rw [← z, upd_same] at ht0; cases ht0
  refine ⟨_, rfl, x, CW, dx, _, rfl, (upd_ne e0).trans upd_same, cl, T.n_World_satellites, (by show 2 < 1000; decide), ?_⟩
  rw [put_miss (by decide +kernel), put_miss (by decide +kernel), put_nil]
  have z2 : SameX x H (upd (upd (upd H x (.ins CW dx [("text", .str (textW W)), ("horizon", .int W.horizon)])) t0 (.tup x0)) x (.ins CW dx [("text", .str (textW W)), ("horizon", .int W.horizon), ("satellites", .ref t0)])) := (z1.trans (SameX.of (same_new ht0 _))).trans SameX.upd
  generalize hH2 : (upd (upd (upd H x (.ins CW dx [("text", .str (textW W)), ("horizon", .int W.horizon)])) t0 (.tup x0)) x (.ins CW dx [("text", .str (textW W)), ("horizon", .int W.horizon), ("satellites", .ref t0)])) = H2 at z2
  have g2 : H2 x = some (.ins CW dx [("text", .str (textW W)), ("horizon", .int W.horizon), ("satellites", .ref t0)]) := by rw [← hH2, upd_same]
  have k0 : H2 t0 = some (.tup x0) := by rw [← hH2, upd_ne e0.symm, upd_same]
  obtain ⟨x1, a1, b1⟩ := (hT.bare hx z2).stas
  refine ⟨_, rfl, l1, x1, rfl, .inl ⟨SqL.of a1, fun t1 ht1 => ?_⟩⟩
  have e1 : x ≠ t1 := ne_of_none g2 ht1
  refine ⟨_, rfl, x, CW, dx, _, rfl, (upd_ne e1).trans g2, cl, T.n_World_stations, (by show 3 < 1000; decide), ?_⟩
  rw [put_miss (by decide +kernel), put_miss (by decide +kernel), put_miss (by decide +kernel), put_nil]
  have z3 : SameX x H2 (upd (upd H2 t1 (.tup x1)) x (.ins CW dx [("text", .str (textW W)), ("horizon", .int W.horizon), ("satellites", .ref t0), ("stations", .ref t1)])) := (SameX.of (same_new ht1 _)).trans SameX.upd
  generalize hH3 : (upd (upd H2 t1 (.tup x1)) x (.ins CW dx [("text", .str (textW W)), ("horizon", .int W.horizon), ("satellites", .ref t0), ("stations", .ref t1)])) = H3 at z3
  have g3 : H3 x = some (.ins CW dx [("text", .str (textW W)), ("horizon", .int W.horizon), ("satellites", .ref t0), ("stations", .ref t1)]) := by rw [← hH3, upd_same]
  have k1 : H3 t1 = some (.tup x1) := by rw [← hH3, upd_ne e1.symm, upd_same]
  obtain ⟨x2, a2, b2⟩ := (hT.bare hx (z2.trans z3)).recs
  refine ⟨_, rfl, l2, x2, rfl, .inl ⟨SqL.of a2, fun t2 ht2 => ?_⟩⟩
  have e2 : x ≠ t2 := ne_of_none g3 ht2
  refine ⟨_, rfl, x, CW, dx, _, rfl, (upd_ne e2).trans g3, cl, T.n_World_recordings, (by show 4 < 1000; decide), ?_⟩
  rw [put_miss (by decide +kernel), put_miss (by decide +kernel), put_miss (by decide +kernel), put_miss (by decide +kernel), put_nil]
  have z4 : SameX x H3 (upd (upd H3 t2 (.tup x2)) x (.ins CW dx [("text", .str (textW W)), ("horizon", .int W.horizon), ("satellites", .ref t0), ("stations", .ref t1), ("recordings", .ref t2)])) := (SameX.of (same_new ht2 _)).trans SameX.upd
  generalize hH4 : (upd (upd H3 t2 (.tup x2)) x (.ins CW dx [("text", .str (textW W)), ("horizon", .int W.horizon), ("satellites", .ref t0), ("stations", .ref t1), ("recordings", .ref t2)])) = H4 at z4
  have g4 : H4 x = some (.ins CW dx [("text", .str (textW W)), ("horizon", .int W.horizon), ("satellites", .ref t0), ("stations", .ref t1), ("recordings", .ref t2)]) := by rw [← hH4, upd_same]
  have k2 : H4 t2 = some (.tup x2) := by rw [← hH4, upd_ne e2.symm, upd_same]
  obtain ⟨x3, a3, b3⟩ := (hT.bare hx ((z2.trans z3).trans z4)).pass
  refine ⟨_, rfl, l3, x3, rfl, .inl ⟨SqL.of a3, fun t3 ht3 => ?_⟩⟩
  have e3 : x ≠ t3 := ne_of_none g4 ht3
  refine ⟨_, rfl, x, CW, dx, _, rfl, (upd_ne e3).trans g4, cl, T.n_World_passes, (by show 5 < 1000; decide), ?_⟩
  rw [put_miss (by decide +kernel), put_miss (by decide +kernel), put_miss (by decide +kernel), put_miss (by decide +kernel), put_miss (by decide +kernel), put_nil]
  have z5 : SameX x H4 (upd (upd H4 t3 (.tup x3)) x (.ins CW dx (worF (textW W) W.horizon t0 t1 t2 t3))) := (SameX.of (same_new ht3 _)).trans SameX.upd
  have zz := (((z2.trans z3).trans z4).trans z5)
  have hTT := hT.bare hx zz
  have c0 : ∀ {y0 : List V}, Paired (SatAt K CS H) y0 W.sats → True := fun _ => True.intro
  obtain ⟨y0, q0, r0⟩ := hT.sats
  obtain ⟨y1, q1, r1⟩ := hT.stas
  obtain ⟨y2, q2, r2⟩ := hT.recs
  obtain ⟨y3, q3, r3⟩ := hT.pass
  obtain ⟨w0, u0, v0⟩ := hTT.sats
  obtain ⟨w1, u1, v1⟩ := hTT.stas
  obtain ⟨w2, u2, v2⟩ := hTT.recs
  obtain ⟨w3, u3, v3⟩ := hTT.pass
  have n0 : l0 ≠ x := ne_of q0 hx (fun z => nomatch z)
  have n1 : l1 ≠ x := ne_of q1 hx (fun z => nomatch z)
  have n2 : l2 ≠ x := ne_of q2 hx (fun z => nomatch z)
  have n3 : l3 ≠ x := ne_of q3 hx (fun z => nomatch z)
  have j0 : w0 = x0 := HO.lst.inj (Option.some.inj (u0.symm.trans ((((z2.trans z3).trans z4).trans z5) _ _ n0 q0 |>.trans (by rw [← (z1 _ _ n0 q0).symm.trans a0]))))
  have j1 : w1 = x1 := HO.lst.inj (Option.some.inj (u1.symm.trans ((((z2.trans z3).trans z4).trans z5) _ _ n1 q1 |>.trans (by rw [← (z2 _ _ n1 q1).symm.trans a1]))))
  have j2 : w2 = x2 := HO.lst.inj (Option.some.inj (u2.symm.trans ((((z2.trans z3).trans z4).trans z5) _ _ n2 q2 |>.trans (by rw [← ((z2.trans z3) _ _ n2 q2).symm.trans a2]))))
  have j3 : w3 = x3 := HO.lst.inj (Option.some.inj (u3.symm.trans ((((z2.trans z3).trans z4).trans z5) _ _ n3 q3 |>.trans (by rw [← (((z2.trans z3).trans z4) _ _ n3 q3).symm.trans a3]))))
  subst j0 j1 j2 j3
  exact q _ zz ⟨dx, t0, t1, t2, t3, w0, w1, w2, w3, upd_same, SqT.of (z5 _ _ e0.symm (z4 _ _ e0.symm (z3 _ _ e0.symm k0))), v0, SqT.of (z5 _ _ e1.symm (z4 _ _ e1.symm k1)), v1, SqT.of (z5 _ _ e2.symm k2), v2, SqT.of (by rw [upd_ne e3.symm, upd_same]), v3⟩
end
end DP
namespace DP
open PySem PySem.Spec PyProof.Rows L2
section
variable {P : Program} {w : World} {K : PySem.W.Frag} {mg : Str → Option Value} {base : Heap} {CL CS CT CR CP CW aS aR fS fT fR fP : Addr}
def spParse (K : PySem.W.Frag) (CS CT CR CP CW : Addr) : Sp := fun vs H Q _ => ∃ W : WorldD, vs = [.str (textW W)] ∧ WorldOk W ∧ ∀ a H', H a = none → Same H H' → WorldAt K CS CT CR CP CW H' a W → Q (.ref a) H'
theorem d_parse (T : TxtW K mg CL CS CT CR CP CW aS aR fS fT fR fP) (D_lines_of : DefOk P w K mg base CX0 3 "lines_of" ["text"] (spLines CL)) (D_Line_read_field : MDef P w K mg base CX0 4 CL "read_field" ["self", "word", "least", "most"] [] (spField CL))
    (D_Line_finish : MDef P w K mg base CX0 3 CL "finish" ["self"] [] (spFinish CL)) (D_read_things : DefOk P w K mg base CX0 6 "read_things" ["lines", "horizon"] (spThings K CL CS CT CR CP))
    (DI_World : MDef P w K mg base CX0 1 CW "__init__" ["self", "text", "horizon", "things"] [] (spWInit K CS CT CR CP CW)) (A : SAt K CW "parse" "World.parse" s_World_parse ["text"]) : SDef P w K mg base CX0 7 CW "parse" ["text"] (spParse K CS CT CR CP CW) := by
  have B := T.L.B
  refine A.ok sc_World_parse (fun vs H Q E h => ?_) (fun f cdv A outer s H vs Q E hr h => ?_)
  · obtain ⟨W, rfl, _⟩ := h
    rfl
  obtain ⟨W, rfl, wok, q⟩ := h
  refine ⟨_, pss_cons (ps_set (i := 1) sc_World_parse.nd rfl (Or.inl rfl) (pe_f D_lines_of (hr.mono (by omega)) pass0 (pa_cons (pv 0) pa_nil)))
  (pss_cons (ps_if (pt_cmpR op_eq (pe_callB (call_len_seq) (by rfl) B.len (by decide +kernel) (pa_cons (pv 1) pa_nil)) pe_int (nomark _))
      (pss_one (ps_never))
      (pss_nil))
  (pss_cons (ps_set (i := 2) sc_World_parse.nd rfl (Or.inl rfl) (pe_m D_Line_read_field T.c_Line.cl (hr.mono (by omega)) pass0 (pe_ix ix_list (pv 1) pe_int (fun _ _ => rfl)) (pa_cons pe_str (pa_cons pe_int (pa_cons (ClX.pe_cval (pe_ga T.c_World.gC) rfl) pa_nil)))))
  (pss_cons (ps_expr (pe_m0 D_Line_finish T.c_Line.cl (hr.mono (by omega)) pass0 (pe_ix ix_list (pv 1) pe_int (fun _ _ => rfl))))
  (pss_one (ps_ret (pe_mk DI_World T.c_World (hr.mono (by omega)) pass0 (pa_cons (pv 0) (pa_cons (pv 2) (pa_cons (pe_f D_read_things (hr.mono (by omega)) pass0 (pa_cons (pe_slice sl_list (pv 1) (po_some pe_int) po_none) (pa_cons (pv 2) pa_nil))) pa_nil)))))))))
    , ?_⟩
  refine ⟨_, rfl, linesW W, rfl, linesW_ok wok, Nat.le_trans (linesW_len wok) (by decide), textW_len wok, fun p as H1 s1 hp hfr hnd hpp hpr => ?_⟩
  obtain ⟨a0, ar, rfl⟩ : ∃ a0 ar, as = a0 :: ar := by
    cases hpr with
    | cons _ _ => exact ⟨_, _, rfl⟩
  obtain ⟨L0, hpr2⟩ : LnAt CL H1 a0 (wHor W.horizon) 0 ∧ Paired (fun a l => LnAt CL H1 a l 0) ar (restW W) := by
    cases hpr with
    | cons x y => exact ⟨x, y⟩
  have hl0 : a0 ≠ p := by
    obtain ⟨dx, n, wl, c, g1, g2⟩ := L0.ex
    exact ne_of g1 hpp (fun z => nomatch z)
  refine ⟨_, rfl, p, _, rfl, .inl (SqL.of hpp), rfl, _, rfl, iteF' (decide_eq_false fun z => by
    have z2 := V.int.inj z
    rw [List.length_map, List.length_cons] at z2
    omega) ?_⟩
  obtain ⟨tk, hv⟩ := T.v_MOST_HORIZON
  have hh := wok.horizon
  obtain ⟨dx0, fs0, g0, z0⟩ := LnAt.no L0 (m := "read_field") (by decide +kernel) (by decide +kernel) (by decide +kernel) (by decide +kernel)
  refine ⟨_, rfl, p, _, _, .ref a0, rfl, rfl, SqL.of hpp, atI_nat (j := 0) rfl, a0, _, _, rfl, g0, z0, CW, _, _, _, rfl, T.rdW, hv, a0, _, 0, _, _, _, W.horizon, rfl, L0, rfl, rfl, by omega, by omega, by omega, by omega, fun H2 s2 L2 => ?_⟩
  have hpp2 := s2 _ _ hl0.symm hpp
  obtain ⟨dx1, fs1, g1, z1⟩ := LnAt.no L2 (m := "finish") (by decide +kernel) (by decide +kernel) (by decide +kernel) (by decide +kernel)
  refine ⟨_, rfl, p, _, _, .ref a0, rfl, rfl, SqL.of hpp2, atI_nat (j := 0) rfl, a0, _, _, rfl, g1, z1, a0, _, rfl, L2, ?_⟩
  have sl : cutV ((a0 :: ar).map V.ref) (some 1) none = ar.map V.ref := by
    unfold cutV
    rw [show HT.sIx ((a0 :: ar).map V.ref).length 0 (some 1) = min 1 ((a0 :: ar).map V.ref).length from HT.sIx_nat _ 0 1, HT.sIx_none]
    rw [List.map_cons, List.length_cons, show min 1 ((ar.map V.ref).length + 1) = 1 by omega]
    show List.take ((ar.map V.ref).length + 1 - 1) (ar.map V.ref) = ar.map V.ref
    rw [Nat.add_sub_cancel, List.take_length]
  refine ⟨_, rfl, _, rfl, _, rfl, 1, rfl, p, _, rfl, SqL.of hpp2, fun p2 hp2 => ?_⟩
  rw [sl]
  have nd2 := List.nodup_cons.mp hnd
  refine ⟨_, rfl, p2, ar, W, rfl, SqL.of upd_same, nd2.2, wok, ?_, fun th l0 l1 l2 l3 H3 s3 hT => ?_⟩
  · -- the lines stay
    have key : ∀ {as : List Addr} {ls : List (List Str)}, a0 ∉ as → Paired (fun a l => LnAt CL H1 a l 0) as ls → Paired (fun a l => LnAt CL (upd H2 p2 (.lst (ar.map V.ref))) a l 0) as ls := by
      intro as ls hn hp
      induction hp with
      | nil => exact .nil
      | cons x _ ih =>
        refine .cons ?_ (ih fun z => hn (List.mem_cons_of_mem _ z))
        exact (x.sx L0 (fun z => hn (z ▸ List.mem_cons_self)) s2).same (same_new hp2 _)
    exact key nd2.1 hpr2
  refine fun x dx hx hdx ne => ?_
  have sm : Same H3 (upd (upd H3 dx (.own x)) x (.ins CW dx [])) := fun b o e => by
    rw [upd_ne (ne_of_none e hx), upd_ne (ne_of_none e hdx)]
    exact e
  refine ⟨x, dx, W, th, l0, l1, l2, l3, rfl, upd_same, hT.same sm, fun H4 s4 hW => ⟨rfl, ?_⟩⟩
  have all : Same H H3 := fun b o e => by
    have n0 : b ≠ a0 := ne_of_none e (hfr a0 List.mem_cons_self)
    refine s3 b o (fun z => ?_) (same_new hp2 _ b o (s2 b o n0 (s1 b o e)))
    exact ne_of_none e (hfr b (List.mem_cons_of_mem _ z)) rfl
  refine q x H4 (all.free hx) (fun b o e => ?_) hW
  have e3 := all b o e
  exact s4 b o (ne_of_none e3 hx) (sm b o e3)
end
end DP
namespace DP
open PySem PySem.Spec PyProof.Rows L2
abbrev s__law_cell : Stmt := topS 80
theorem sc__law_cell : FnScope ["script", "k"] ["script", "k"] (defScope s__law_cell) := ⟨rfl, rfl, rfl, by decide +kernel, rfl, by decide +kernel, by decide +kernel⟩
abbrev s__law_draws : Stmt := topS 81
theorem sc__law_draws : FnScope ["cell", "count", "number", "great", "found", "k", "mixed"] ["cell", "count"] (defScope s__law_draws) := ⟨rfl, rfl, rfl, by decide +kernel, rfl, by decide +kernel, by decide +kernel⟩
abbrev s__law_stream : Stmt := topS 82
theorem sc__law_stream : FnScope ["script", "first", "count", "found", "k"] ["script", "first", "count"] (defScope s__law_stream) := ⟨rfl, rfl, rfl, by decide +kernel, rfl, by decide +kernel, by decide +kernel⟩
abbrev s__law_next : Stmt := topS 83
theorem sc__law_next : FnScope ["stream", "many", "digits", "place", "value"] ["stream", "many"] (defScope s__law_next) := ⟨rfl, rfl, rfl, by decide +kernel, rfl, by decide +kernel, by decide +kernel⟩
section
variable {P : Program} {w : World} {K : PySem.W.Frag} {mg : Str → Option Value} {base : Heap}
/-- some int -/
def spCell (K : PySem.W.Frag) : Sp := fun vs H Q _ => ∃ (a : Addr) (ns : List Int) (k : Int), vs = [.ref a, .int k] ∧ SqL K H a (ns.map V.int) ∧ 0 ≤ k ∧ ∀ v : Int, Q (.int v) H
theorem d_cell (B : Bt mg) (A : At K mg "_law_cell" s__law_cell ["script", "k"]) : DefOk P w K mg base CX0 1 "_law_cell" ["script", "k"] (DP.spCell K) := by
  refine A.ok sc__law_cell (fun vs H Q E h => ?_) (fun f cdv A outer s H vs Q E hr h => ?_)
  · obtain ⟨a, ns, k, rfl, _⟩ := h
    rfl
  obtain ⟨a, ns, k, rfl, hS, h0, q⟩ := h
  refine ⟨_, pss_cons (ps_if (pt_cmpR op_lt (pv 1) (pe_callB (call_len_seq) (by rfl) B.len (by decide +kernel) (pa_cons (pv 0) pa_nil)) (nomark _))
      (pss_one (ps_ret (pe_callTy (call_int1) (by rfl) B.int (by decide +kernel) (pa_cons (pe_ix ix_list (pv 0) (pv 1) (fun _ _ => rfl)) pa_nil))))
      (pss_nil))
  (pss_one (ps_ret pe_int))
    , ?_⟩
  refine ⟨_, rfl, _, rfl, a, _, rfl, .inl hS, _, _, rfl, rfl, _, rfl, ?_⟩
  refine ite2 (fun c => ?_) (fun c => ?_)
  · have c' : k < (((ns.map V.int).length : Nat) : Int) := of_decide_eq_true c
    rw [List.length_map] at c'
    have hk : k.toNat < ns.length := by omega
    have ek : k = ((k.toNat : Nat) : Int) := by omega
    have g : (ns.map V.int)[k.toNat]? = some (.int ns[k.toNat]) := by rw [List.getElem?_map, List.getElem?_eq_getElem hk] <;> rfl
    have g2 : atI (ns.map V.int) k = some (.int ns[k.toNat]) := by
      have := atI_nat g
      rw [← ek] at this
      exact this
    exact ⟨_, rfl, _, rfl, a, _, _, _, rfl, rfl, hS, g2, .inl ⟨_, rfl, q _⟩⟩
  · exact q 0
/-- a new list of twelve ints -/
def spDraws : Sp := fun vs H Q _ => ∃ c : Int, vs = [.int c, .int 12] ∧ ∀ (p : Addr) (ds : List Int) (H' : Hp), Same H H' → H p = none → ds.length = 12 → H' p = some (.lst (ds.map V.int)) → Q (.ref p) H'
theorem d_draws (B : Bt mg) (A : At K mg "_law_draws" s__law_draws ["cell", "count"]) : DefOk P w K mg base CX0 1 "_law_draws" ["cell", "count"] spDraws := by
  refine A.ok sc__law_draws (fun vs H Q E h => ?_) (fun f cdv A outer s H vs Q E hr h => ?_)
  · obtain ⟨c, rfl, _⟩ := h
    rfl
  obtain ⟨c, rfl, q⟩ := h
  refine ⟨_, pss_cons (ps_set (i := 2) sc__law_draws.nd rfl (Or.inl rfl) (pe_callB (call_abs) (by rfl) B.abs (by decide +kernel) (pa_cons (pe_callTy (call_int1) (by rfl) B.int (by decide +kernel) (pa_cons (pv 0) pa_nil)) pa_nil)))
  (pss_cons (ps_set (i := 3) sc__law_draws.nd rfl (Or.inl rfl) (pe_cmpR op_ge (pv 2) (pe_op op_pow pe_int pe_int) (nomark _)))
  (pss_cons (ps_set (i := 4) sc__law_draws.nd rfl (Or.inl rfl) (pe_lst pa_nil))
  (pss_cons (ps_for PassesOwn.never rfl (pi_range1 (by rfl) B.range (pa_cons pe_int pa_nil)) (pg_name (i := 5) sc__law_draws.nd rfl (Or.inl rfl))
      (pss_one (ps_if (PW.pt (pw_and (pt_cmpR op_lt (pv 5) (pv 1) (nomark _)) (pw_and1 (pt_val (pv 3)))))
          (pss_cons (ps_expr (pe_bm PySem.F.plainAttrs_list PySem.F.slot_list_append PySem.F.type_list_append mt_append (pv 4) (pa_cons (pe_op op_mod (pv 2) pe_int) pa_nil)))
          (pss_one (ps_set (i := 2) sc__law_draws.nd rfl (Or.inl rfl) (pe_op op_fdiv (pv 2) pe_int))))
          (pss_one (ps_if (pt_cmpR op_lt (pv 5) (pv 1) (nomark _))
              (pss_cons (ps_set (i := 6) sc__law_draws.nd rfl (Or.inl rfl) (pe_op op_mod (pe_op op_add (pe_op op_add (pe_op op_mul (pe_callTy (call_int1) (by rfl) B.int (by decide +kernel) (pa_cons (pv 2) pa_nil)) pe_int) (pe_op op_mul (pv 5) pe_int)) pe_int) pe_int))
              (pss_cons (ps_set (i := 6) sc__law_draws.nd rfl (Or.inl rfl) (pe_op op_mod (pe_op op_add (pe_op op_add (pe_op op_mul (pe_callTy (call_int1) (by rfl) B.int (by decide +kernel) (pa_cons (pv 6) pa_nil)) (pe_callTy (call_int1) (by rfl) B.int (by decide +kernel) (pa_cons (pv 6) pa_nil))) (pe_op op_mul (pv 5) pe_int)) pe_int) pe_int))
              (pss_one (ps_expr (pe_bm PySem.F.plainAttrs_list PySem.F.slot_list_append PySem.F.type_list_append mt_append (pv 4) (pa_cons (pe_op op_mod (pe_callTy (call_int1) (by rfl) B.int (by decide +kernel) (pa_cons (pv 6) pa_nil)) pe_int) pa_nil))))))
              (pss_nil))))))
  (pss_one (ps_ret (pv 4))))))
    , ?_⟩
  refine ⟨_, rfl, .inl ⟨_, rfl, c, rfl, ?_⟩⟩
  generalize hn0 : (if c < 0 then -c else c) = n0
  have p0 : 0 ≤ n0 := by
    rw [← hn0]
    split <;> omega
  refine ⟨_, rfl, _, _, rfl, rfl, ⟨by decide, by decide, by decide⟩, _, _, rfl, rfl, Nat.zero_le _, fun p hp => ?_⟩
  obtain ⟨g, hg⟩ : ∃ g, decide ((10 : Int) ^ (18 : Int).toNat ≤ n0) = g := ⟨_, rfl⟩
  have hsmall : g = false → n0 < 10 ^ 18 := fun e => by
    rw [e] at hg
    have := of_decide_eq_false hg
    have e2 : (10 : Int) ^ (18 : Int).toNat = 10 ^ 18 := rfl
    rw [e2] at this
    omega
  refine ⟨60, rfl, by decide, by decide, for_range (n := 60) (fun i σ H' => ∃ (num : Int) (ds : List Int) (y5 y6 : Option V), σ = [some (.int c), some (.int 12), some (.int num), some (.bl g), some (.ref p), y5, y6] ∧ 0 ≤ num ∧ (g = false → num < 10 ^ 18) ∧
    ds.length = min i 12 ∧ H' p = some (.lst (ds.map V.int)) ∧ Same H H') ⟨n0, [], none, none, by rw [← hg]; rfl, p0, hsmall, rfl, upd_same, same_new hp _⟩ (fun i σ H1 hi hI => ?_) (fun σ H1 hI => ?_)⟩
  · obtain ⟨num, ds, y5, y6, rfl, pn, sn, hl, hpp, hs⟩ := hI
    have room : (ds.map V.int).length < sizeLine := by
      rw [List.length_map, hl]
      exact small1000 (by (clear B hr q hn0 p0 hp hg hsmall pn sn hl hpp hs; omega))
    have grow : ∀ v : Int, i < 12 → (ds ++ [v]).length = min (i + 1) 12 := fun v h => by
      rw [List.length_append, hl, List.length_singleton]
      omega
    have put : ∀ v : Int, (upd H1 p (.lst (ds.map V.int ++ [.int v]))) p = some (.lst ((ds ++ [v]).map V.int)) := fun v => by
      rw [upd_same, List.map_append] <;> rfl
    refine ⟨_, rfl, _, rfl, _, _, rfl, rfl, _, rfl, ?_⟩
    refine ite2 (fun c1 => ?_) (fun c1 => ?_)
    · have c1' : (0 : Int) + (i : Nat) < 12 := of_decide_eq_true c1
      refine ⟨_, rfl, g, rfl, ?_⟩
      cases g with
      | true =>
        refine iteT ?_
        refine ⟨_, rfl, .inl ⟨rfl, _, SqL.of hpp⟩, _, rfl, _, _, rfl, rfl, (by show (0 : Int) < 60; decide), _, _, _, rfl, rfl, hpp, room, ?_⟩
        refine ⟨_, rfl, _, _, rfl, rfl, ⟨by decide, by decide⟩, ?_⟩
        exact ⟨num / 60, ds ++ [num % 60], _, _, rfl, Int.ediv_nonneg pn (by decide), fun z => Bool.noConfusion z, grow _ (by (clear B hr q hn0 p0 hp pn hl hpp hs room grow put c1 hg hsmall sn; omega)), put _, same_at hp hs _⟩
      | false =>
        have sn' := sn rfl
        refine iteF ?_
        refine ⟨_, rfl, _, rfl, _, _, rfl, rfl, _, rfl, iteT' (decide_eq_true c1') ?_⟩
        refine ⟨_, rfl, .inl ⟨_, rfl, _, _, rfl, rfl, .inr ⟨by decide, by decide⟩, _, rfl, _, _, rfl, rfl, .inr ⟨by decide, by decide⟩, _, _, rfl, rfl, _, _, rfl, rfl, _, _, rfl, rfl, (by show (0 : Int) < 2147483647; decide), ?_⟩⟩
        generalize hm : ((num * 48271 + (0 + (i : Nat)) * 69621 + 11) % 2147483647 : Int) = m1
        have b1 : 0 ≤ m1 := by rw [← hm]; exact Int.emod_nonneg _ (by decide)
        have b2 : m1 < 2147483647 := by rw [← hm]; exact Int.emod_lt_of_pos _ (by decide)
        refine ⟨_, rfl, .inl ⟨_, rfl, _, rfl, .inl ⟨_, rfl, _, _, rfl, rfl, .inl ⟨by (clear B hr q hn0 p0 hp hi pn hl hpp hs room grow put c1 c1' hg hsmall sn sn' hm b1 b2; omega), by (clear B hr q hn0 p0 hp hi pn hl hpp hs room grow put c1 c1' hg hsmall sn sn' hm b1 b2; omega)⟩, _, rfl, _, _, rfl, rfl, .inr ⟨by decide, by decide⟩, _, _, rfl, rfl, _, _, rfl, rfl, _, _, rfl, rfl, (by show (0 : Int) < 998244353; decide), ?_⟩⟩⟩
        refine ⟨_, rfl, .inl ⟨rfl, _, SqL.of hpp⟩, _, rfl, .inl ⟨_, rfl, _, _, rfl, rfl, (by show (0 : Int) < 60; decide), _, _, _, rfl, rfl, hpp, room, ?_⟩⟩
        exact ⟨num, _, _, _, rfl, pn, sn, grow _ (by (clear B hr q hn0 p0 hp pn hl hpp hs room grow put c1 hg hsmall sn sn' hm b1 b2; omega)), put _, same_at hp hs _⟩
    · have c1' : ¬ (0 : Int) + (i : Nat) < 12 := fun z => c1 (decide_eq_true z)
      refine ⟨_, rfl, _, rfl, _, _, rfl, rfl, _, rfl, iteF' (decide_eq_false c1') ?_⟩
      exact ⟨num, ds, _, _, rfl, pn, sn, by rw [hl]; omega, hpp, hs⟩
  · obtain ⟨num, ds, y5, y6, rfl, pn, sn, hl, hpp, hs⟩ := hI
    exact ⟨_, rfl, q p ds H1 hs hp hl hpp⟩
theorem mod_place' {i : Int} {n : Nat} (h : 0 < n) : (i % (n : Int)).toNat < n ∧ (((i % (n : Int)).toNat : Nat) : Int) = i % (n : Int) := by
  have h1 : 0 ≤ i % (n : Int) := Int.emod_nonneg i (by omega)
  have h2 : i % (n : Int) < (n : Int) := Int.emod_lt_of_pos i (by omega)
  have h3 : (((i % (n : Int)).toNat : Nat) : Int) = i % (n : Int) := Int.toNat_of_nonneg h1
  refine ⟨?_, h3⟩
  omega
/-- a stream: its digits, its place -/
def Strm (H : Hp) (st : Addr) : Prop := ∃ (d p : Addr) (ds : List Int), H st = some (.lst [.ref d, .ref p]) ∧ H d = some (.lst (ds.map V.int)) ∧ 0 < ds.length ∧ H p = some (plO p)
theorem Strm.same {H H' : Hp} {st : Addr} (h : Strm H st) (s : Same H H') : Strm H' st := by
  obtain ⟨d, p, ds, h1, h2, h3, h4⟩ := h
  exact ⟨d, p, ds, s _ _ h1, s _ _ h2, h3, s _ _ h4⟩
def spStream0 (K : PySem.W.Frag) : Sp := fun vs H Q _ => ∃ (a : Addr) (ns : List Int) (first count : Int), vs = [.ref a, .int first, .int count] ∧ SqL K H a (ns.map V.int) ∧ 0 ≤ first ∧ 0 < count ∧ count ≤ 60 ∧
  ∀ (st d p : Addr) (ds : List Int) (H' : Hp), Same H H' → H st = none → H d = none → H p = none → st ≠ p → d ≠ p → H' st = some (.lst [.ref d, .ref p]) → H' d = some (.lst (ds.map V.int)) → 0 < ds.length → H' p = some (.lst [.int 0]) → Q (.ref st) H'
theorem d_stream0 (B : Bt mg) (D_law_cell : DefOk P w K mg base CX0 1 "_law_cell" ["script", "k"] (DP.spCell K)) (D_law_draws : DefOk P w K mg base CX0 1 "_law_draws" ["cell", "count"] spDraws)
    (A : At K mg "_law_stream" s__law_stream ["script", "first", "count"]) : DefOk P w K mg base CX0 2 "_law_stream" ["script", "first", "count"] (spStream0 K) := by
  refine A.ok sc__law_stream (fun vs H Q E h => ?_) (fun f cdv A outer s H vs Q E hr h => ?_)
  · obtain ⟨a, ns, first, count, rfl, _⟩ := h
    rfl
  obtain ⟨a, ns, first, count, rfl, hS, h0, h1, h2, q⟩ := h
  refine ⟨_, pss_cons (ps_set (i := 3) sc__law_stream.nd rfl (Or.inl rfl) (pe_lst pa_nil))
  (pss_cons (ps_for PassesOwn.never rfl (pi_range1 (by rfl) B.range (pa_cons (pv 2) pa_nil)) (pg_name (i := 4) sc__law_stream.nd rfl (Or.inl rfl))
      (pss_one (ps_expr (pe_bm PySem.F.plainAttrs_list PySem.F.slot_list_extend PySem.F.type_list_extend mt_extend (pv 3) (pa_cons (pe_f D_law_draws (hr.mono (by omega)) pass0 (pa_cons (pe_f D_law_cell (hr.mono (by omega)) pass0 (pa_cons (pv 0) (pa_cons (pe_op op_add (pv 1) (pv 4)) pa_nil))) (pa_cons pe_int pa_nil))) pa_nil)))))
  (pss_one (ps_ret (pe_lst (pa_cons (pv 3) (pa_cons (pe_lst (pa_cons pe_int pa_nil)) pa_nil))))))
    , ?_⟩
  refine ⟨Nat.zero_le _, fun p hp => ?_⟩
  refine ⟨_, rfl, count, rfl, by omega, by omega, for_range (n := count.toNat) (fun i σ H' => ∃ (ds : List Int) (y4 : Option V), σ = [some (.ref a), some (.int first), some (.int count), some (.ref p), y4] ∧ ds.length = 12 * i ∧ H' p = some (.lst (ds.map V.int)) ∧ Same H H')
    ⟨[], none, rfl, rfl, upd_same, same_new hp _⟩ (fun i σ H1 hi hI => ?_) (fun σ H1 hI => ?_)⟩
  · obtain ⟨ds, y4, rfl, hl, hpp, hs⟩ := hI
    refine ⟨_, rfl, .inl ⟨rfl, _, SqL.of hpp⟩, _, rfl, _, rfl, _, rfl, _, _, rfl, rfl, a, ns, first + (0 + (i : Int)), rfl, hs.seq hS, by omega, fun v => ?_⟩
    refine ⟨v, rfl, fun b es H2 s2 nb hl2 hb => ?_⟩
    refine ⟨p, b, _, _, rfl, rfl, s2 _ _ hpp, hb, ?_, ?_⟩
    · rw [List.length_map, List.length_map, hl, hl2]
      exact small (by omega)
    · refine ⟨ds ++ es, _, rfl, by rw [List.length_append, hl, hl2]; (clear B D_law_cell D_law_draws hr hS h0 h1 h2 q hp hi hl hpp hs s2 nb hl2 hb; omega), by rw [upd_same, List.map_append], same_at hp (hs.trans s2) _⟩
  · obtain ⟨ds, y4, rfl, hl, hpp, hs⟩ := hI
    refine ⟨_, rfl, Nat.le_trans (by decide : 1 ≤ 1000) (Nat.le_of_lt (small1000 (Nat.le_refl _))), fun pl npl => ?_⟩
    have e1 : p ≠ pl := ne_of_none hpp npl
    refine ⟨Nat.le_trans (by decide : 2 ≤ 1000) (Nat.le_of_lt (small1000 (Nat.le_refl _))), fun st nst => ?_⟩
    have nst0 := nst
    have e2 : pl ≠ st := fun z => by
      rw [← z, upd_same] at nst
      cases nst
    rw [upd_ne e2.symm] at nst
    have e3 : p ≠ st := ne_of_none hpp nst
    refine q st p pl ds _ (same_at (hs.free nst) (same_at (hs.free npl) hs _) _) (hs.free nst) hp (hs.free npl) e2.symm e1 upd_same ?_ (by rw [hl]; omega) ?_
    · rw [upd_ne e3, upd_ne e1]
      exact hpp
    · rw [upd_ne e2, upd_same]
def spStream (K : PySem.W.Frag) : Sp := fun vs H Q _ => ∃ (a : Addr) (ns : List Int) (first count : Int), vs = [.ref a, .int first, .int count] ∧ SqL K H a (ns.map V.int) ∧ 0 ≤ first ∧ 0 < count ∧ count ≤ 60 ∧
  ∀ (st : Addr) (H' : Hp), Same H H' → H st = none → Strm H' st → Q (.ref st) H'
theorem d_stream (D : DefOk P w K mg base CX0 2 "_law_stream" ["script", "first", "count"] (spStream0 K)) : DefOk P w K mg base CX0 2 "_law_stream" ["script", "first", "count"] (spStream K) := by
  refine D.hide_out (fun vs H Q E h => ?_) (fun vs H Q E h => ?_)
  · obtain ⟨a, ns, first, count, rfl, _⟩ := h
    rfl
  obtain ⟨a, ns, first, count, rfl, hS, h0, h1, h2, q⟩ := h
  refine ⟨a, ns, first, count, rfl, hS, h0, h1, h2, fun st d p ds H' s nst nd np e1 e2 g1 g2 g3 g4 => ⟨p, 0, np, g4, q st _ (same_at np s _) nst ⟨d, p, ds, ?_, ?_, g3, upd_same⟩⟩⟩
  · rw [upd_ne e1]; exact g1
  · rw [upd_ne e2]; exact g2
def spNext0 : Sp := fun vs H Q _ => ∃ (st d p : Addr) (ds : List Int) (n many : Int), vs = [.ref st, .int many] ∧ 0 < many ∧ H st = some (.lst [.ref d, .ref p]) ∧ H d = some (.lst (ds.map V.int)) ∧ 0 < ds.length ∧ H p = some (.lst [.int n]) ∧
  ∀ v m : Int, 0 ≤ v → v < many → Q (.int v) (upd H p (.lst [.int m]))
theorem d_next0 (B : Bt mg) (A : At K mg "_law_next" s__law_next ["stream", "many"]) : DefOk P w K mg base CX0 1 "_law_next" ["stream", "many"] spNext0 := by
  refine A.ok sc__law_next (fun vs H Q E h => ?_) (fun f cdv A outer s H vs Q E hr h => ?_)
  · obtain ⟨a, d, p, ds, n, many, rfl, _⟩ := h
    rfl
  obtain ⟨st, d, p, ds, n, many, rfl, hm, h1, h2, h3, h4, q⟩ := h
  refine ⟨_, pss_cons (ps_set (i := 2) sc__law_next.nd rfl (Or.inl rfl) (pe_ix ix_list (pv 0) pe_int (fun _ _ => rfl)))
  (pss_cons (ps_set (i := 3) sc__law_next.nd rfl (Or.inl rfl) (pe_ix ix_list (pv 0) pe_int (fun _ _ => rfl)))
  (pss_cons (ps_set (i := 4) sc__law_next.nd rfl (Or.inl rfl) (pe_op op_mod (pe_callTy (call_int1) (by rfl) B.int (by decide +kernel) (pa_cons (pe_ix ix_list (pv 2) (pe_op op_mod (pe_callTy (call_int1) (by rfl) B.int (by decide +kernel) (pa_cons (pe_ix ix_list (pv 3) pe_int (fun _ _ => rfl)) pa_nil)) (pe_callB (call_len_seq) (by rfl) B.len (by decide +kernel) (pa_cons (pv 2) pa_nil))) (fun _ _ => rfl)) pa_nil)) (pv 1)))
  (pss_cons (ps_asg (pe_op op_add (pe_ix ix_list (pv 3) pe_int (fun _ _ => rfl)) pe_int) (pg_sub (pv 3) pe_int set_list))
  (pss_one (ps_ret (pv 4))))))
    , ?_⟩
  refine ⟨_, rfl, st, _, 0, .ref d, rfl, rfl, SqL.of h1, rfl, ?_⟩
  refine ⟨_, rfl, st, _, 1, .ref p, rfl, rfl, SqL.of h1, rfl, ?_⟩
  have hp := (mod_place' (i := n) h3)
  have g2 : atI (ds.map V.int) (n % (((ds.map V.int).length : Nat) : Int)) = some (.int ds[(n % (ds.length : Int)).toNat]) := by
    have g : (ds.map V.int)[(n % (ds.length : Int)).toNat]? = some (.int ds[(n % (ds.length : Int)).toNat]) := by rw [List.getElem?_map, List.getElem?_eq_getElem hp.1] <;> rfl
    have g3 := atI_nat g
    rw [hp.2] at g3
    rw [List.length_map]
    exact g3
  refine ⟨_, rfl, _, rfl, p, _, 0, .int n, rfl, rfl, SqL.of h4, rfl, .inl ⟨_, rfl, _, rfl, d, _, rfl, .inl (SqL.of h2), _, _, rfl, rfl, (by rw [List.length_map]; omega), ?_⟩⟩
  refine ⟨d, _, _, _, rfl, rfl, SqL.of h2, g2, .inl ⟨_, rfl, _, rfl, _, _, rfl, rfl, hm, ?_⟩⟩
  refine ⟨_, rfl, p, _, 0, .int n, rfl, rfl, SqL.of h4, rfl, _, _, rfl, rfl, _, rfl, p, _, 0, 0, rfl, rfl, h4, rfl, ?_⟩
  exact ⟨_, rfl, q _ _ (Int.emod_nonneg _ (by omega)) (Int.emod_lt_of_pos _ hm)⟩
/-- some int below many; nothing is seen to change -/
def spNext : Sp := fun vs H Q _ => ∃ (st : Addr) (many : Int), vs = [.ref st, .int many] ∧ 0 < many ∧ Strm H st ∧ ∀ v : Int, 0 ≤ v → v < many → Q (.int v) H
theorem d_next (D : DefOk P w K mg base CX0 1 "_law_next" ["stream", "many"] spNext0) : DefOk P w K mg base CX0 1 "_law_next" ["stream", "many"] spNext := by
  refine D.hide_in (fun vs H Q E h => ?_) (fun vs H Q E h => ?_)
  · obtain ⟨st, many, rfl, _⟩ := h
    rfl
  obtain ⟨st, many, rfl, hm, ⟨d, p, ds, h1, h2, h3, h4⟩, q⟩ := h
  have e1 : st ≠ p := ne_of h1 h4 (fun z => nomatch z)
  have e2 : d ≠ p := ne_of h2 h4 (fun z => nomatch z)
  exact ⟨p, h4, fun n => ⟨st, d, p, ds, n, many, rfl, hm, by rw [upd_ne e1]; exact h1, by rw [upd_ne e2]; exact h2, h3, upd_same, fun v m v0 v1 => ⟨⟨m, upd_upd⟩, q v v0 v1⟩⟩⟩
end
end DP
namespace DP
open PySem PySem.Spec PyProof.Rows L2
abbrev s__law_word : Stmt := topS 84
theorem sc__law_word : FnScope ["stream", "index", "letters", "size", "text", "place", "word", "k"] ["stream", "index"] (defScope s__law_word) := ⟨rfl, rfl, rfl, by decide +kernel, rfl, by decide +kernel, by decide +kernel⟩
def lo36 : Str := "abcdefghijklmnopqrstuvwxyz0123456789"
def isLo (c : Nat) : Bool := (decide (97 ≤ c) && decide (c ≤ 122)) || isD c
def isUp (c : Nat) : Bool := decide (65 ≤ c) && decide (c ≤ 90)
theorem isLo_notUp {c : Nat} (h : isLo c = true) : isUp c = false := by
  unfold isLo isD at h
  unfold isUp
  simp only [Bool.or_eq_true, Bool.and_eq_true, decide_eq_true_eq] at h
  simp only [Bool.and_eq_false_iff, decide_eq_false_iff_not]
  omega
theorem isLo_sign {c : Nat} (h : isLo c = true) : (isL c || isD c) = true := by
  unfold isLo at h
  unfold isL
  simp only [Bool.or_eq_true, Bool.and_eq_true, decide_eq_true_eq] at h ⊢
  rcases h with h | h
  · exact .inl (.inr h)
  · exact .inr h
/-- the word of the i-th thing: its one capital tells i -/
structure WordAt (i : Nat) (u : Str) : Prop where
  ok : NameOk u
  cap : (tl u).filter isUp = [65 + i]
theorem WordAt.inj {i j : Nat} {u : Str} (h : WordAt i u) (k : WordAt j u) : i = j := by
  have e := h.cap.symm.trans k.cap
  have := (List.cons.inj e).1
  omega
theorem cutS_mem {z : Str} {a b : Option Int} {c : Nat} (h : c ∈ tl (cutS z a b)) : c ∈ tl z := List.mem_of_mem_drop (List.mem_of_mem_take h)
theorem filter_none {l : List Nat} (h : ∀ c ∈ l, isLo c = true) : l.filter isUp = [] := List.filter_eq_nil_iff.mpr fun c hc => by rw [isLo_notUp (h c hc)]; exact Bool.false_ne_true
theorem lo36_at {v : Int} (h0 : 0 ≤ v) (h1 : v < 36) : ∃ c, atI lo36.cps.toList v = some c ∧ isLo c = true := by
  have all : ∀ j, j < 36 → ∃ c, lo36.cps.toList[j]? = some c ∧ isLo c = true := by
    intro j hj
    have hl : lo36.cps.toList.length = 36 := by decide +kernel
    refine ⟨lo36.cps.toList[j]'(by omega), List.getElem?_eq_getElem _, ?_⟩
    have al : ∀ c ∈ lo36.cps.toList, isLo c = true := by decide +kernel
    exact al _ (List.getElem_mem _)
  obtain ⟨c, h2, h3⟩ := all v.toNat (by omega)
  refine ⟨c, ?_, h3⟩
  have := atI_nat h2
  rw [show ((v.toNat : Nat) : Int) = v by omega] at this
  exact this
theorem cap_at {i : Nat} (h : i < 10) : atI ("ABCDEFGHIJ" : Str).cps.toList (i : Int) = some (65 + i) := by
  have all : ∀ j, j < 10 → ("ABCDEFGHIJ" : Str).cps.toList[j]? = some (65 + j) := by decide +kernel
  exact atI_nat (all i h)
theorem tl_str1 {c : Nat} : tl (⟨#[c]⟩ : Str) = [c] := rfl
theorem tl_app (x y : Str) : tl (x ++ y) = tl x ++ tl y := TL.tl_append x y
theorem join_ones : ∀ cs : List Nat, tl (Txt.join (Str.ofString "") (cs.map fun c => (⟨#[c]⟩ : Str))) = cs := fun cs => by
  rw [TL.join_eq]
  show TL.tl (Str.join (Str.ofString "") (cs.map fun c => (⟨#[c]⟩ : Str))) = cs
  rw [TL.tl_join, List.map_map]
  have e : TL.tl (Str.ofString "") = [] := by decide +kernel
  rw [e]
  induction cs with
  | nil => rfl
  | cons a r ih =>
    cases r with
    | nil => rfl
    | cons b t =>
      show [a] ++ ([] ++ TL.joinL [] ((b :: t).map _)) = a :: b :: t
      rw [List.nil_append, ih]
      rfl
/-- the word's parts put together -/
theorem word_ok {i : Nat} {pre suf : Str} {z : Str} (hi : i < 10) (hp : ∀ c ∈ tl pre, isLo c = true) (hs : ∀ c ∈ tl suf, isLo c = true) (lp : (tl pre).length ≤ 4) (ls : (tl suf).length ≤ 4) (hz : tl z = tl pre ++ (65 + i) :: tl suf) :
    (∃ c r, tl z = c :: r ∧ (isD c = true ∨ isL c = true)) ∧ (∀ c r, tl z = c :: r → isD c = true → WordAt i ((Str.ofString "v" : Str) ++ z)) ∧ (∀ c r, tl z = c :: r → isD c = false → WordAt i z) := by
  have sg : ∀ c ∈ tl z, (isL c || isD c) = true := fun c hc => by
    rw [hz] at hc
    rcases List.mem_append.mp hc with hc | hc
    · exact isLo_sign (hp c hc)
    · rcases List.mem_cons.mp hc with rfl | hc
      · unfold isL
        simp only [Bool.or_eq_true, Bool.and_eq_true, decide_eq_true_eq]
        omega
      · exact isLo_sign (hs c hc)
  have cp : (tl z).filter isUp = [65 + i] := by
    rw [hz, List.filter_append, filter_none hp, List.nil_append, List.filter_cons, filter_none hs, if_pos]
    unfold isUp
    simp only [Bool.and_eq_true, decide_eq_true_eq]
    omega
  have ln : (tl z).length ≤ 9 := by
    rw [hz, List.length_append, List.length_cons]
    omega
  have ev : tl (Str.ofString "v") = [118] := by decide +kernel
  refine ⟨?_, fun c r e hd => ⟨⟨118, c :: r, by rw [tl_app, ev, e]; rfl, by decide, fun x hx => sg x (by rw [e]; exact hx), by rw [← e]; (clear hi hp hs lp ls hz sg cp ev e hd; omega)⟩, ?_⟩, fun c r e hd => ⟨⟨c, r, e, ?_, fun x hx => sg x (by rw [e]; exact List.mem_cons_of_mem _ hx), ?_⟩, cp⟩⟩
  · cases q : tl z with
    | nil =>
      rw [hz] at q
      exact absurd q (by simp)
    | cons c r =>
      refine ⟨c, r, rfl, ?_⟩
      have := sg c (by rw [q]; exact List.mem_cons_self)
      rcases Bool.or_eq_true _ _ ▸ this with h | h
      · exact .inr h
      · exact .inl h
  · rw [tl_app, ev, List.filter_append, cp]
    rfl
  · have := sg c (by rw [e]; exact List.mem_cons_self)
    rw [hd, Bool.or_false] at this
    exact this
  · have := congrArg List.length e
    rw [List.length_cons] at this
    (clear hi hp hs lp ls hz sg cp ev e hd; omega)
section
variable {P : Program} {w : World} {K : PySem.W.Frag} {mg : Str → Option Value} {base : Heap}
def spWord : Sp := fun vs H Q _ => ∃ (st : Addr) (i : Nat), vs = [.ref st, .int (i : Int)] ∧ i < 10 ∧ Strm H st ∧ ∀ u H', Same H H' → WordAt i u → Q (.str u) H'
theorem d_word (B : Bt mg) (D_law_next : DefOk P w K mg base CX0 1 "_law_next" ["stream", "many"] spNext) (A : At K mg "_law_word" s__law_word ["stream", "index"]) : DefOk P w K mg base CX0 2 "_law_word" ["stream", "index"] spWord := by
  refine A.ok sc__law_word (fun vs H Q E h => ?_) (fun f cdv A outer s H vs Q E hr h => ?_)
  · obtain ⟨st, i, rfl, _⟩ := h
    rfl
  obtain ⟨st, i, rfl, hi, hst, q⟩ := h
  refine ⟨_, pss_cons (ps_set (i := 2) sc__law_word.nd rfl (Or.inr rfl) pe_str)
  (pss_cons (ps_set (i := 3) sc__law_word.nd rfl (Or.inl rfl) (pe_f D_law_next (hr.mono (by omega)) pass0 (pa_cons (pv 0) (pa_cons pe_int pa_nil))))
  (pss_cons (ps_set (i := 4) sc__law_word.nd rfl (Or.inl rfl) (pe_join pe_str (pe_lc (own := [("k", 7)])  rfl sc__law_word.nd (pi_range1 (by rfl) B.range (pa_cons (pv 3) pa_nil)) (blkOk_by (own := [("k", 7)]) (N := ["stream", "index", "letters", "size", "text", "place", "word", "k"]) (sc := defScope s__law_word) (by decide +kernel)) (fun _ _ _ _ _ => pg_name (i := 7) sc__law_word.nd rfl (Or.inl rfl)) (fun _ _ _ _ _ => pts_nil) (fun _ _ _ _ _ => (pe_ix ix_str (pv 2) (pe_f D_law_next (hr.mono (by omega)) pass0 (pa_cons (pv 0) (pa_cons pe_int pa_nil))) (fun _ _ => rfl))))))
  (pss_cons (ps_set (i := 5) sc__law_word.nd rfl (Or.inl rfl) (pe_f D_law_next (hr.mono (by omega)) pass0 (pa_cons (pv 0) (pa_cons (pe_op op_add (pv 3) pe_int) pa_nil))))
  (pss_cons (ps_set (i := 6) sc__law_word.nd rfl (Or.inl rfl) (pe_op op_add_str (pe_op op_add_str (pe_slice sl_str (pv 4) po_none (po_some (pv 5))) (pe_ix ix_str pe_str (pv 1) (fun _ _ => rfl))) (pe_slice sl_str (pv 4) (po_some (pv 5)) po_none)))
  (pss_cons (ps_if (pt_cmpR op_in_sign (pe_ix ix_str (pv 6) pe_int (fun _ _ => rfl)) (pe_slice sl_str (pv 2) (po_some pe_int) po_none) (by rfl))
      (pss_one (ps_set (i := 6) sc__law_word.nd rfl (Or.inl rfl) (pe_op op_add_str pe_str (pv 6))))
      (pss_nil))
  (pss_one (ps_ret (pv 6))))))))
    , ?_⟩
  refine ⟨_, rfl, st, 5, rfl, by decide, hst, fun sz s0 s1 => ?_⟩
  refine ⟨⟨_, rfl⟩, _, rfl, sz, rfl, by omega, by omega, fun D hD => ?_⟩
  refine lc_range (lo := 0) (n := sz.toNat) (fun k H' => ∃ cs : List Nat, cs.length = k ∧ (∀ c ∈ cs, isLo c = true) ∧ H' D = some (.lst ((cs.map fun c => (⟨#[c]⟩ : Str)).map V.str)) ∧ Same H H') ⟨[], rfl, fun _ z => absurd z List.not_mem_nil, upd_same, same_new hD _⟩ (fun k H1 hk hI => ?_) (fun H1 hI => ?_)
  · obtain ⟨cs, hc, hlo, hDD, hs⟩ := hI
    refine ⟨rfl, _, rfl, _, rfl, st, 36, rfl, by decide, hst.same hs, fun v v0 v1 => ?_⟩
    obtain ⟨c, hc1, hc2⟩ := lo36_at v0 v1
    refine ⟨_, _, c, rfl, rfl, by decide +kernel, hc1, _, hDD, by rw [List.length_map, List.length_map, hc]; exact small1000 (by omega), cs ++ [c], by rw [List.length_append, hc, List.length_singleton], ?_, by rw [upd_same, List.map_append, List.map_append]; rfl, same_at hD hs _⟩
    intro x hx
    rcases List.mem_append.mp hx with hx | hx
    · exact hlo x hx
    · rw [List.mem_singleton.mp hx]; exact hc2
  · obtain ⟨cs, hc, hlo, hDD, hs⟩ := hI
    have hl4 : cs.length ≤ 4 := by omega
    refine ⟨Str.ofString "", D, cs.map fun c => (⟨#[c]⟩ : Str), rfl, rfl, .inl (SqL.of hDD), ?_, ?_⟩
    · have e : ((cs.map fun c => (⟨#[c]⟩ : Str)).map (·.length)).sum = cs.length := by
        rw [List.map_map]
        clear hDD hc hl4 hlo
        induction cs with
        | nil => rfl
        | cons a r ih =>
          rw [List.map_cons, List.sum_cons, ih, List.length_cons]
          show 1 + r.length = _
          (clear B D_law_next hr hi hst q s0 s1 hD hs ih; omega)
      have e2 : (Str.ofString "" : Str).length = 0 := by decide +kernel
      rw [e, e2, Nat.mul_zero]
      (clear B D_law_next hr hi hst q s0 s1 hD hlo hDD hs e2; omega)
    obtain ⟨tx, htx⟩ : ∃ tx, Txt.join (Str.ofString "") (cs.map fun c => (⟨#[c]⟩ : Str)) = tx := ⟨_, rfl⟩
    have etx : tl tx = cs := by rw [← htx]; exact join_ones cs
    rw [htx]
    have hst1 := hst.same hs
    have ltx : tx.length ≤ 4 := by
      rw [TL.len_tl, show TL.tl tx = tl tx from rfl, etx]
      exact hl4
    refine ⟨_, rfl, _, rfl, _, _, rfl, rfl, st, sz + 1, rfl, by omega, hst1, fun pl p0 p1 => ?_⟩
    have lpre := cutS_length tx none (some pl)
    have lsuf := cutS_length tx (some pl) none
    have lcap : (⟨#[65 + i]⟩ : Str).length = 1 := rfl
    have lapp : (cutS tx none (some pl) ++ (⟨#[65 + i]⟩ : Str)).length = (cutS tx none (some pl)).length + 1 := by
      rw [TL.len_tl, TL.tl_append, List.length_append, ← TL.len_tl, ← TL.len_tl, lcap]
    refine ⟨_, rfl, _, rfl, pl, rfl, tx, rfl, Nat.le_trans ltx (by decide), _, rfl, _, _, 65 + i, rfl, rfl, by decide +kernel, cap_at hi, _, _, rfl, rfl, ?_, ?_⟩
    · rw [lcap]; exact Nat.le_trans (Nat.add_le_add_right (Nat.le_trans lpre ltx) 1) (by decide)
    refine ⟨_, rfl, _, rfl, pl, rfl, tx, rfl, Nat.le_trans ltx (by decide), _, _, rfl, rfl, ?_, ?_⟩
    · rw [lapp]
      exact Nat.le_trans (Nat.add_le_add (Nat.add_le_add_right (Nat.le_trans lpre ltx) 1) (Nat.le_trans lsuf ltx)) (by decide)
    obtain ⟨z, hz⟩ : ∃ z, cutS tx none (some pl) ++ (⟨#[65 + i]⟩ : Str) ++ cutS tx (some pl) none = z := ⟨_, rfl⟩
    have ez : tl z = tl (cutS tx none (some pl)) ++ (65 + i) :: tl (cutS tx (some pl) none) := by
      rw [← hz, tl_app, tl_app, tl_str1, List.append_assoc]
      rfl
    have hpre : ∀ c ∈ tl (cutS tx none (some pl)), isLo c = true := fun c hc' => hlo c (by rw [← etx]; exact cutS_mem hc')
    have hsuf : ∀ c ∈ tl (cutS tx (some pl) none), isLo c = true := fun c hc' => hlo c (by rw [← etx]; exact cutS_mem hc')
    obtain ⟨⟨c, r, ec, hcd⟩, w1, w2⟩ := word_ok hi hpre hsuf (by rw [show (tl (cutS tx none (some pl))).length = (cutS tx none (some pl)).length from (TL.len_tl _).symm]; (clear B D_law_next hr hi hst q s0 s1 hD hc hlo hDD hs hl4 htx etx hst1 p0 p1 lsuf lcap hz ez hpre hsuf; omega)) (by rw [show (tl (cutS tx (some pl) none)).length = (cutS tx (some pl) none).length from (TL.len_tl _).symm]; (clear B D_law_next hr hi hst q s0 s1 hD hc hlo hDD hs hl4 htx etx hst1 p0 p1 lpre lcap lapp hz ez hpre hsuf; omega)) ez
    have lz : z.length ≤ 9 := by
      rw [← hz, TL.len_tl, TL.tl_append, List.length_append, ← TL.len_tl, ← TL.len_tl, lapp]
      (clear B D_law_next hr hi hst q s0 s1 hD hc hlo hDD hs hl4 htx etx hst1 p0 p1 lcap hz ez hpre hsuf ec hcd w1 w2; omega)
    have hat : atI z.cps.toList 0 = some c := by
      show atI (tl z) 0 = some c
      rw [ec]
      exact atI_nat (j := 0) rfl
    rw [hz]
    have e26 : cutS lo36 (some 26) none = ("0123456789" : Str) := by decide +kernel
    refine ⟨_, rfl, _, _, c, rfl, rfl, Nat.le_trans lz (by decide), hat, _, rfl, 26, rfl, lo36, rfl, by decide +kernel, c, _, rfl, rfl, _, rfl, ite2 (fun k => ?_) (fun k => ?_)⟩
    · have hk : c ∈ (cutS lo36 (some 26) none).cps.toList := of_decide_eq_true k
      rw [e26] at hk
      have hd : isD c = true := by
        have al : ∀ x ∈ ("0123456789" : Str).cps.toList, isD x = true := by decide +kernel
        exact al c hk
      have ev : (Str.ofString "v" : Str).length = 1 := by decide +kernel
      refine ⟨_, rfl, _, _, rfl, rfl, by rw [ev]; exact Nat.le_trans (Nat.add_le_add_left lz 1) (by decide), ?_⟩
      exact ⟨_, rfl, q _ H1 hs (w1 c r ec hd)⟩
    · have hk : ¬ c ∈ (cutS lo36 (some 26) none).cps.toList := fun z => k (decide_eq_true z)
      rw [e26] at hk
      have hd : isD c = false := by
        cases e : isD c with
        | false => rfl
        | true => exact absurd (dig_in (isD_lt e)) hk
      exact ⟨_, rfl, q _ H1 hs (w2 c r ec hd)⟩
end
end DP
namespace DP
open PySem PySem.Spec PyProof.Rows L2
abbrev s__law_satellite : Stmt := topS 85
theorem sc__law_satellite : FnScope ["stream", "index", "horizon", "store", "battery", "level", "reserve", "light", "least", "k", "first", "end", "numbers"] ["stream", "index", "horizon"] (defScope s__law_satellite) := ⟨rfl, rfl, rfl, by decide +kernel, rfl, by decide +kernel, by decide +kernel⟩
abbrev s__law_recording : Stmt := topS 86
theorem sc__law_recording : FnScope ["stream", "index", "satellites", "horizon", "earliest", "latest", "length", "deadline", "numbers", "urgency"] ["stream", "index", "satellites", "horizon"] (defScope s__law_recording) := ⟨rfl, rfl, rfl, by decide +kernel, rfl, by decide +kernel, by decide +kernel⟩
abbrev s__law_pass : Stmt := topS 87
theorem sc__law_pass : FnScope ["stream", "index", "satellites", "stations", "horizon", "first", "end", "numbers"] ["stream", "index", "satellites", "stations", "horizon"] (defScope s__law_pass) := ⟨rfl, rfl, rfl, by decide +kernel, rfl, by decide +kernel, by decide +kernel⟩
abbrev s__law_world : Stmt := topS 88
theorem sc__law_world : FnScope ["script", "stream", "horizon", "satellites", "stations", "recordings", "passes", "world", "k"] ["script"] (defScope s__law_world) := ⟨rfl, rfl, rfl, by decide +kernel, rfl, by decide +kernel, by decide +kernel⟩
def spanPy (q : Int × Int) : PyData := .tuple [.int q.1, .int q.2]
def satPy (s : SatD) : PyData := .tuple [.str s.name, .tuple [.int s.store, .int s.battery, .int s.level, .int s.reserve, .int s.charge, .int s.settle], .tuple (s.light.map spanPy)]
def staPy (s : StaD) : PyData := .tuple [.str s.name, .int s.antennas, .int s.turn]
def recPy (r : RecD) : PyData := .tuple [.str r.name, .int (r.sat : Int), .tuple [.int r.earliest, .int r.latest, .int r.length, .int r.size, .int r.energy], .tuple [.int r.worth, .int r.rank, .int r.deadline]]
def pasPy (p : PasD) : PyData := .tuple [.str p.name, .int (p.sat : Int), .int (p.sta : Int), .tuple [.int p.first, .int p.fin], .tuple [.int p.room, .int p.energy, .int p.fee]]
mutual
theorem dp_map {K : PySem.W.Frag} {H H' : Hp} (fT : ∀ b xs, SqT K H b xs → SqT K H' b xs) (fL : ∀ b xs, SqL K H b xs → SqL K H' b xs) : ∀ {v : V} {d : PyData}, Dp K H v d → Dp K H' v d
  | _, _, .non => .non
  | _, _, .bl b => .bl b
  | _, _, .int i => .int i
  | _, _, .str x => .str x
  | _, _, .lst h t => .lst (fL _ _ h) (dpAll_map fT fL t)
  | _, _, .tup h t => .tup (fT _ _ h) (dpAll_map fT fL t)
theorem dpAll_map {K : PySem.W.Frag} {H H' : Hp} (fT : ∀ b xs, SqT K H b xs → SqT K H' b xs) (fL : ∀ b xs, SqL K H b xs → SqL K H' b xs) : ∀ {xs : List V} {ds : List PyData}, DpAll K H xs ds → DpAll K H' xs ds
  | _, _, .nil => .nil
  | _, _, .cons a t => .cons (dp_map fT fL a) (dpAll_map fT fL t)
end
theorem dp_same {K : PySem.W.Frag} {H H' : Hp} (s : Same H H') {v : V} {d : PyData} (h : Dp K H v d) : Dp K H' v d := dp_map (fun _ _ => Same.tup s) (fun _ _ => s.seq) h
theorem dpAll_same {K : PySem.W.Frag} {H H' : Hp} (s : Same H H') {xs : List V} {ds : List PyData} (h : DpAll K H xs ds) : DpAll K H' xs ds := dpAll_map (fun _ _ => Same.tup s) (fun _ _ => s.seq) h
mutual
def noL : PyData → Prop
  | .list _ => False
  | .tuple ds => noLs ds
  | _ => True
def noLs : List PyData → Prop
  | [] => True
  | d :: ds => noL d ∧ noLs ds
end
mutual
theorem dpT_map {K : PySem.W.Frag} {H H' : Hp} (fT : ∀ b xs, SqT K H b xs → SqT K H' b xs) : ∀ {v : V} {d : PyData}, noL d → Dp K H v d → Dp K H' v d
  | _, _, _, .non => .non
  | _, _, _, .bl b => .bl b
  | _, _, _, .int i => .int i
  | _, _, _, .str x => .str x
  | _, _, n, .lst h t => False.elim (by unfold noL at n; exact n)
  | _, _, n, .tup h t => .tup (fT _ _ h) (dpTs_map fT (by unfold noL at n; exact n) t)
theorem dpTs_map {K : PySem.W.Frag} {H H' : Hp} (fT : ∀ b xs, SqT K H b xs → SqT K H' b xs) : ∀ {xs : List V} {ds : List PyData}, noLs ds → DpAll K H xs ds → DpAll K H' xs ds
  | _, _, _, .nil => .nil
  | _, _, n, .cons a t => .cons (dpT_map fT (by unfold noLs at n; exact n.1) a) (dpTs_map fT (by unfold noLs at n; exact n.2) t)
end
theorem noLs_map {α : Type} {f : α → PyData} (h : ∀ a, noL (f a)) : ∀ l : List α, noLs (l.map f)
  | [] => by show noLs []; unfold noLs; trivial
  | a :: r => by show noLs (f a :: r.map f); unfold noLs; exact ⟨h a, noLs_map h r⟩
theorem noL_span (q : Int × Int) : noL (spanPy q) := by unfold spanPy; simp [noL, noLs]
theorem noL_sat (s : SatD) : noL (satPy s) := by
  unfold satPy
  have := noLs_map noL_span s.light
  simp [noL, noLs, this]
theorem noL_sta (s : StaD) : noL (staPy s) := by unfold staPy; simp [noL, noLs]
theorem noL_rec (s : RecD) : noL (recPy s) := by unfold recPy; simp [noL, noLs]
theorem noL_pas (s : PasD) : noL (pasPy s) := by unfold pasPy; simp [noL, noLs]
theorem dpAll_snoc {K : PySem.W.Frag} {H : Hp} : ∀ {xs : List V} {ds : List PyData} {x : V} {d : PyData}, DpAll K H xs ds → Dp K H x d → DpAll K H (xs ++ [x]) (ds ++ [d])
  | _, _, _, _, .nil, h => .cons h .nil
  | _, _, _, _, .cons a t, h => .cons a (dpAll_snoc t h)
/-- tuples stay where a list is changed -/
theorem dpTs_up {K : PySem.W.Frag} {H : Hp} {L : Addr} {ys xs : List V} {ds : List PyData} {o : HO} (n : noLs ds) (e : H L = some (.lst ys)) (h : DpAll K H xs ds) : DpAll K (upd H L o) xs ds := dpTs_map (fun _ _ z => sqT_upd z e) n h
theorem dpT_up {K : PySem.W.Frag} {H : Hp} {L : Addr} {ys : List V} {v : V} {d : PyData} {o : HO} (n : noL d) (e : H L = some (.lst ys)) (h : Dp K H v d) : Dp K (upd H L o) v d := dpT_map (fun _ _ z => sqT_upd z e) n h
theorem spans_dp {K : PySem.W.Frag} {H : Hp} {xs : List V} {qs : List (Int × Int)} (h : Spans K H xs qs) : DpAll K H xs (qs.map spanPy) := by
  induction h with
  | nil => exact .nil
  | cons a _ ih =>
    obtain ⟨t, rfl, ht⟩ := a
    exact .cons (.tup ht (.cons (.int _) (.cons (.int _) .nil))) ih
/-- the end of the last span -/
def lastE : Int → List (Int × Int) → Int
  | a, [] => a
  | _, q :: r => lastE q.2 r
theorem LightOk.snoc {h : Int} {q : Int × Int} : ∀ {l : List (Int × Int)} {a : Int}, LightOk a h l → lastE a l ≤ q.1 → q.1 + 1 ≤ q.2 → q.2 ≤ h → LightOk a h (l ++ [q])
  | [], a, _, h1, h2, h3 => ⟨h1, h2, h3, trivial⟩
  | p :: r, a, ⟨g1, g2, g3, g4⟩, h1, h2, h3 => ⟨g1, g2, g3, g4.snoc h1 h2 h3⟩
theorem lastE_snoc {q : Int × Int} : ∀ (l : List (Int × Int)) (a : Int), lastE a (l ++ [q]) = q.2
  | [], _ => rfl
  | p :: r, _ => lastE_snoc r p.2
section
variable {P : Program} {w : World} {K : PySem.W.Frag} {mg : Str → Option Value} {base : Heap}
theorem sz2 : 2 ≤ sizeLine := by decide
theorem sz3 : 3 ≤ sizeLine := by decide
theorem sz4 : 4 ≤ sizeLine := by decide
theorem sz5 : 5 ≤ sizeLine := by decide
theorem sz6 : 6 ≤ sizeLine := by decide
def spGSat (K : PySem.W.Frag) : Sp := fun vs H Q _ => ∃ (st : Addr) (i : Nat) (h : Int), vs = [.ref st, .int (i : Int), .int h] ∧ i < 10 ∧ 1 ≤ h ∧ h ≤ 80 ∧ Strm H st ∧ ∀ x s H', Same H H' → SatOk h s → WordAt i s.name → Dp K H' x (satPy s) → s.level ≤ 1000 → Q x H'
theorem d_gsat (B : Bt mg) (D_law_next : DefOk P w K mg base CX0 1 "_law_next" ["stream", "many"] spNext) (D_law_word : DefOk P w K mg base CX0 2 "_law_word" ["stream", "index"] spWord)
    (A : At K mg "_law_satellite" s__law_satellite ["stream", "index", "horizon"]) : DefOk P w K mg base CX0 3 "_law_satellite" ["stream", "index", "horizon"] (spGSat K) := by
  refine A.ok sc__law_satellite (fun vs H Q E h => ?_) (fun f cdv A outer s H vs Q E hr h => ?_)
  · obtain ⟨st, i, h, rfl, _⟩ := h
    rfl
  obtain ⟨st, i, h, rfl, hi, h1, h80, hst, q⟩ := h
  refine ⟨_, pss_cons (ps_set (i := 3) sc__law_satellite.nd rfl (Or.inl rfl) (pe_f D_law_next (hr.mono (by omega)) pass0 (pa_cons (pv 0) (pa_cons pe_int pa_nil))))
  (pss_cons (ps_set (i := 4) sc__law_satellite.nd rfl (Or.inl rfl) (pe_op op_add pe_int (pe_f D_law_next (hr.mono (by omega)) pass0 (pa_cons (pv 0) (pa_cons pe_int pa_nil)))))
  (pss_cons (ps_set (i := 5) sc__law_satellite.nd rfl (Or.inl rfl) (pe_op op_mod (pe_f D_law_next (hr.mono (by omega)) pass0 (pa_cons (pv 0) (pa_cons pe_int pa_nil))) (pe_op op_add (pv 4) pe_int)))
  (pss_cons (ps_set (i := 6) sc__law_satellite.nd rfl (Or.inl rfl) (pe_op op_mod (pe_f D_law_next (hr.mono (by omega)) pass0 (pa_cons (pv 0) (pa_cons pe_int pa_nil))) (pe_op op_add (pe_op op_fdiv (pv 5) pe_int) pe_int)))
  (pss_cons (ps_set (i := 7) sc__law_satellite.nd rfl (Or.inl rfl) (pe_lst pa_nil))
  (pss_cons (ps_set (i := 8) sc__law_satellite.nd rfl (Or.inl rfl) pe_int)
  (pss_cons (ps_for PassesOwn.never rfl (pi_range1 (by rfl) B.range (pa_cons (pe_f D_law_next (hr.mono (by omega)) pass0 (pa_cons (pv 0) (pa_cons pe_int pa_nil))) pa_nil)) (pg_name (i := 9) sc__law_satellite.nd rfl (Or.inl rfl))
      (pss_cons (ps_set (i := 10) sc__law_satellite.nd rfl (Or.inl rfl) (pe_op op_add (pv 8) (pe_f D_law_next (hr.mono (by omega)) pass0 (pa_cons (pv 0) (pa_cons pe_int pa_nil)))))
      (pss_cons (ps_set (i := 11) sc__law_satellite.nd rfl (Or.inl rfl) (pe_op op_add (pe_op op_add (pv 10) pe_int) (pe_f D_law_next (hr.mono (by omega)) pass0 (pa_cons (pv 0) (pa_cons pe_int pa_nil)))))
      (pss_one (ps_if (pt_cmpR op_le (pv 11) (pv 2) (nomark _))
          (pss_cons (ps_expr (pe_bm PySem.F.plainAttrs_list PySem.F.slot_list_append PySem.F.type_list_append mt_append (pv 7) (pa_cons (pe_tup (pa_cons (pv 10) (pa_cons (pv 11) pa_nil))) pa_nil)))
          (pss_one (ps_set (i := 8) sc__law_satellite.nd rfl (Or.inl rfl) (pv 11))))
          (pss_nil))))))
  (pss_cons (ps_set (i := 12) sc__law_satellite.nd rfl (Or.inl rfl) (pe_tup (pa_cons (pv 3) (pa_cons (pv 4) (pa_cons (pv 5) (pa_cons (pv 6) (pa_cons (pe_f D_law_next (hr.mono (by omega)) pass0 (pa_cons (pv 0) (pa_cons pe_int pa_nil))) (pa_cons (pe_f D_law_next (hr.mono (by omega)) pass0 (pa_cons (pv 0) (pa_cons pe_int pa_nil))) pa_nil))))))))
  (pss_one (ps_ret (pe_tup (pa_cons (pe_f D_law_word (hr.mono (by omega)) pass0 (pa_cons (pv 0) (pa_cons (pv 1) pa_nil))) (pa_cons (pv 12) (pa_cons (pe_callTy (call_tuple_of) (by rfl) B.tuple (by decide +kernel) (pa_cons (pv 7) pa_nil)) pa_nil)))))))))))))
    , ?_⟩
  refine ⟨_, rfl, st, 30, rfl, by decide, hst, fun so so0 so1 => ?_⟩
  refine ⟨_, rfl, st, 60, rfl, by decide, hst, fun ba ba0 ba1 => ⟨_, _, rfl, rfl, ?_⟩⟩
  refine ⟨_, rfl, st, 60, rfl, by decide, hst, fun le le0 le1 => ⟨_, rfl, _, _, rfl, rfl, _, _, rfl, rfl, (by show 0 < 10 + ba + 1; (clear B D_law_next D_law_word hr hi h1 h80 hst q so0 so1 le0 le1; omega)), ?_⟩⟩
  have lv0 : 0 ≤ le % (10 + ba + 1) := Int.emod_nonneg _ (by (clear B D_law_next D_law_word hr hi h1 h80 hst q so0 so1 le0 le1; omega))
  have lv1 : le % (10 + ba + 1) < 10 + ba + 1 := Int.emod_lt_of_pos _ (by (clear B D_law_next D_law_word hr hi h1 h80 hst q so0 so1 le0 le1 lv0; omega))
  obtain ⟨lev, elev⟩ : ∃ z, le % (10 + ba + 1) = z := ⟨_, rfl⟩
  rw [elev] at lv0 lv1
  refine ⟨_, rfl, st, 60, rfl, by decide, hst, fun re re0 re1 => ⟨_, rfl, _, _, rfl, rfl, ⟨by decide, by decide⟩, _, _, rfl, rfl, _, _, rfl, rfl, (by show 0 < le % (10 + ba + 1) / 3 + 1; (clear B D_law_next D_law_word hr hi h1 h80 hst q so0 so1 le0 le1 re0 re1; omega)), ?_⟩⟩
  have rv0 : 0 ≤ re % (le % (10 + ba + 1) / 3 + 1) := Int.emod_nonneg _ (by (clear B D_law_next D_law_word hr hi h1 h80 hst q so0 so1 le0 le1 re0 re1; omega))
  have rv1 : re % (le % (10 + ba + 1) / 3 + 1) < le % (10 + ba + 1) / 3 + 1 := Int.emod_lt_of_pos _ (by (clear B D_law_next D_law_word hr hi h1 h80 hst q so0 so1 le0 le1 re0 re1 rv0; omega))
  refine ⟨Nat.zero_le _, fun L hL => ?_⟩
  have hst1 := hst.same (same_new hL (.lst []))
  refine ⟨_, rfl, st, 4, rfl, by decide, hst1, fun kn kn0 kn1 => ?_⟩
  refine ⟨kn, rfl, by (clear B D_law_next D_law_word hr hi h1 h80 hst q so0 so1 ba0 ba1 le0 le1 lv1 lv0 elev re0 re1 rv0 rv1 hL hst1; omega), by (clear B D_law_next D_law_word hr hi h1 h80 hst q so0 so1 ba0 ba1 le0 le1 lv1 lv0 elev re0 re1 rv0 rv1 hL hst1; omega), for_range (n := kn.toNat) (fun j σ H' => ∃ (ls : List V) (qs : List (Int × Int)) (le' : Int) (y9 y10 y11 : Option V), σ = [some (.ref st), some (.int (i : Int)), some (.int h), some (.int so), some (.int (10 + ba)), some (.int (le % (10 + ba + 1))), some (.int (re % (le % (10 + ba + 1) / 3 + 1))), some (.ref L), some (.int le'), y9, y10, y11, none] ∧
    0 ≤ le' ∧ le' = lastE 0 qs ∧ qs.length ≤ j ∧ LightOk 0 h qs ∧ H' L = some (.lst ls) ∧ Spans K H' ls qs ∧ Same H H') ⟨[], [], 0, none, none, none, rfl, Int.le_refl 0, rfl, Nat.le_refl _, trivial, upd_same, .nil, same_new hL _⟩ (fun j σ H1 hj hI => ?_) (fun σ H1 hI => ?_)⟩
  · obtain ⟨ls, qs, le', y9, y10, y11, rfl, hl0, hll, hql, hok, hLL, hsp, hs⟩ := hI
    have hstj := hst.same hs
    refine ⟨_, rfl, _, rfl, st, 12, rfl, by decide, hstj, fun u u0 u1 => ⟨_, _, rfl, rfl, ?_⟩⟩
    refine ⟨_, rfl, _, _, rfl, rfl, _, rfl, st, 15, rfl, by decide, hstj, fun v v0 v1 => ⟨_, _, rfl, rfl, ?_⟩⟩
    refine ⟨_, rfl, _, rfl, _, _, rfl, rfl, _, rfl, ite2 (fun c => ?_) (fun c => ?_)⟩
    · have c' : le' + u + 1 + v ≤ h := of_decide_eq_true c
      refine ⟨_, rfl, .inl ⟨rfl, _, SqL.of hLL⟩, _, rfl, _, rfl, sz2, fun t ht => ?_⟩
      have eLt : L ≠ t := ne_of_none hLL ht
      have hLt : (upd H1 t (.tup [.int (le' + u), .int (le' + u + 1 + v)])) L = some (.lst ls) := by rw [upd_ne eLt]; exact hLL
      refine ⟨L, ls, .ref t, rfl, rfl, hLt, by rw [paired_len hsp]; exact small1000 (by (clear B D_law_next D_law_word hr hi h1 h80 hst q so0 so1 ba0 ba1 le0 le1 lv1 lv0 elev re0 re1 rv0 rv1 hL hst1 hl0 hll hok hLL hsp hs hstj u0 u1 v0 v1 c c' ht eLt hLt; omega)), ?_⟩
      refine ⟨_, rfl, ls ++ [.ref t], qs ++ [(le' + u, le' + u + 1 + v)], _, _, _, _, rfl, by (clear B D_law_next D_law_word hr hi h1 h80 hst q so0 so1 ba0 ba1 le0 le1 lv1 lv0 elev re0 re1 rv0 rv1 hL hst1 kn0 kn1 hj hql hok hLL hsp hs hstj c c' ht eLt hLt; omega), by rw [lastE_snoc], by rw [List.length_append, List.length_singleton]; (clear B D_law_next D_law_word hr hi h1 h80 hst q so0 so1 ba0 ba1 le0 le1 lv1 lv0 elev re0 re1 rv0 rv1 hL hst1 kn0 kn1 hj hl0 hll hok hLL hsp hs hstj u0 u1 v0 v1 c c' ht eLt hLt; omega), ?_, upd_same, ?_, same_at hL (hs.trans (same_new ht _)) _⟩
      · exact hok.snoc (by rw [← hll]; show le' ≤ le' + u; (clear B D_law_next D_law_word hr hi h1 h80 hst q so0 so1 ba0 ba1 le0 le1 lv1 lv0 elev re0 re1 rv0 rv1 hL hst1 kn0 kn1 hj hl0 hll hql hok hLL hsp hs hstj v0 v1 c c' ht eLt hLt; omega)) (by show le' + u + 1 ≤ le' + u + 1 + v; (clear B D_law_next D_law_word hr hi h1 h80 hst q so0 so1 ba0 ba1 le0 le1 lv1 lv0 elev re0 re1 rv0 rv1 hL hst1 kn0 kn1 hj hl0 hll hql hok hLL hsp hs hstj u0 u1 c c' ht eLt hLt; omega)) c'
      · exact Spans.upd (paired_snoc (hsp.same (same_new ht _)) ⟨t, rfl, SqT.of upd_same⟩) hLt
    · exact ⟨ls, qs, le', _, _, _, rfl, hl0, hll, by (clear B D_law_next D_law_word hr hi h1 h80 hst q so0 so1 ba0 ba1 le0 le1 lv1 lv0 elev re0 re1 rv0 rv1 hL hst1 kn0 kn1 hj hl0 hll hok hLL hsp hs hstj u0 u1 v0 v1 c; omega), hok, hLL, hsp, hs⟩
  · obtain ⟨ls, qs, le', y9, y10, y11, rfl, hl0, hll, hql, hok, hLL, hsp, hs⟩ := hI
    have hstj := hst.same hs
    refine ⟨_, rfl, _, rfl, _, rfl, _, rfl, _, rfl, st, 5, rfl, by decide, hstj, fun ch ch0 ch1 => ⟨_, rfl, st, 4, rfl, by decide, hstj, fun se se0 se1 => ⟨sz6, fun t ht => ?_⟩⟩⟩
    have sA := same_new ht (.tup [.int so, .int (10 + ba), .int (le % (10 + ba + 1)), .int (re % (le % (10 + ba + 1) / 3 + 1)), .int ch, .int se])
    refine ⟨_, rfl, _, rfl, st, i, rfl, hi, hstj.same sA, fun u H2 s2 hu => ?_⟩
    have hL2 := s2 _ _ (sA _ _ hLL)
    refine ⟨_, rfl, _, rfl, L, ls, rfl, .inl ⟨SqL.of hL2, fun t2 ht2 => ⟨sz3, fun r hr' => ?_⟩⟩⟩
    have sB := same_new ht2 (.tup ls)
    have sC := same_new hr' (.tup [.str u, .ref t, .ref t2])
    have sAll := s2.trans (sB.trans sC)
    refine q (.ref r) ⟨u, so, 10 + ba, le % (10 + ba + 1), re % (le % (10 + ba + 1) / 3 + 1), ch, se, qs⟩ _ (hs.trans (sA.trans sAll)) ⟨hu.ok, by show 0 ≤ so ∧ so ≤ 1000000; (clear B D_law_next D_law_word hr hi h1 h80 hst q ba0 ba1 le0 le1 lv1 lv0 elev re0 re1 rv0 rv1 hL hst1 kn0 kn1 hl0 hll hql hok hLL hsp hs hstj ch0 ch1 se0 se1 ht sA s2 hu hL2 ht2 hr' sB sC sAll; omega), by show 0 ≤ 10 + ba ∧ 10 + ba ≤ 1000000; (clear B D_law_next D_law_word hr hi h1 h80 hst q so0 so1 le0 le1 lv1 lv0 elev re0 re1 rv0 rv1 hL hst1 kn0 kn1 hl0 hll hql hok hLL hsp hs hstj ch0 ch1 se0 se1 ht sA s2 hu hL2 ht2 hr' sB sC sAll; omega), by show 0 ≤ le % (10 + ba + 1) ∧ le % (10 + ba + 1) ≤ 10 + ba; (clear B D_law_next D_law_word hr hi h1 h80 hst q so0 so1 ba0 ba1 le0 le1 re0 re1 rv0 rv1 hL hst1 kn0 kn1 hl0 hll hql hok hLL hsp hs hstj ch0 ch1 se0 se1 ht sA s2 hu hL2 ht2 hr' sB sC sAll; omega), by show 0 ≤ re % (le % (10 + ba + 1) / 3 + 1) ∧ re % (le % (10 + ba + 1) / 3 + 1) ≤ le % (10 + ba + 1); (clear B D_law_next D_law_word hr hi h1 h80 hst q so0 so1 le0 le1 re0 re1 hL hst1 kn0 kn1 hl0 hll hql hok hLL hsp hs hstj ch0 ch1 se0 se1 ht sA s2 hu hL2 ht2 hr' sB sC sAll; omega), by show 0 ≤ ch ∧ ch ≤ 1000; (clear B D_law_next D_law_word hr hi h1 h80 hst q so0 so1 ba0 ba1 le0 le1 lv1 lv0 elev re0 re1 rv0 rv1 hL hst1 kn0 kn1 hl0 hll hql hok hLL hsp hs hstj se0 se1 ht sA s2 hu hL2 ht2 hr' sB sC sAll; omega), by show 0 ≤ se ∧ se ≤ 60; (clear B D_law_next D_law_word hr hi h1 h80 hst q so0 so1 ba0 ba1 le0 le1 lv1 lv0 elev re0 re1 rv0 rv1 hL hst1 kn0 kn1 hl0 hll hql hok hLL hsp hs hstj ch0 ch1 ht sA s2 hu hL2 ht2 hr' sB sC sAll; omega), hok⟩ hu ?_ (by show le % (10 + ba + 1) ≤ 1000; rw [elev]; (clear B D_law_next D_law_word hr hi h1 h80 hst q so0 so1 le0 le1 lv0 re0 re1 rv0 rv1 hL hst1 kn0 kn1 hl0 hll hql hok hLL hsp hs hstj ch0 ch1 se0 se1 ht sA s2 hu hL2 ht2 hr' sB sC sAll; omega))
    refine .tup (SqT.of upd_same) (.cons (.str _) (.cons (.tup (SqT.of (sAll _ _ upd_same)) (.cons (.int _) (.cons (.int _) (.cons (.int _) (.cons (.int _) (.cons (.int _) (.cons (.int _) .nil))))))) (.cons (.tup (SqT.of (sC _ _ upd_same)) ?_) .nil)))
    exact spans_dp ((hsp.same sA).same sAll)
def spGRec (K : PySem.W.Frag) : Sp := fun vs H Q _ => ∃ (st : Addr) (i n : Nat) (h : Int), vs = [.ref st, .int (i : Int), .int (n : Int), .int h] ∧ i < 10 ∧ 0 < n ∧ 1 ≤ h ∧ h ≤ 80 ∧ Strm H st ∧
  ∀ x r H', Same H H' → (∀ W : WorldD, W.sats.length = n → W.horizon = h → RecOk W r) → WordAt i r.name → Dp K H' x (recPy r) → Q x H'
theorem at5 {v : Int} (h0 : 0 ≤ v) (h1 : v < 5) : ∃ m : Int, atI ([V.int 0, V.int 0, V.int 1, V.int 2, V.int 5] : List V) v = some (.int m) ∧ 0 ≤ m ∧ m ≤ 5 := by
  have all : ∀ j, j < 5 → ∃ m : Int, ([0, 0, 1, 2, 5] : List Int)[j]? = some m ∧ 0 ≤ m ∧ m ≤ 5 := fun j hj => by
    refine ⟨([0, 0, 1, 2, 5] : List Int)[j], List.getElem?_eq_getElem _, ?_⟩
    have al : ∀ c ∈ ([0, 0, 1, 2, 5] : List Int), 0 ≤ c ∧ c ≤ 5 := by decide
    exact al _ (List.getElem_mem _)
  obtain ⟨m, e, b⟩ := all v.toNat (by omega)
  have := atI_nat (xs := ([0, 0, 1, 2, 5] : List Int).map V.int) (j := v.toNat) (v := .int m) (by rw [List.getElem?_map, e]; rfl)
  rw [show ((v.toNat : Nat) : Int) = v by omega] at this
  exact ⟨m, this, b⟩
theorem at3 {v : Int} (h0 : 0 ≤ v) (h1 : v < 3) : ∃ m : Int, atI ([V.int 60, V.int 40, V.int 30] : List V) v = some (.int m) ∧ 0 ≤ m ∧ m ≤ 60 := by
  have all : ∀ j, j < 3 → ∃ m : Int, ([60, 40, 30] : List Int)[j]? = some m ∧ 0 ≤ m ∧ m ≤ 60 := fun j hj => by
    refine ⟨([60, 40, 30] : List Int)[j], List.getElem?_eq_getElem _, ?_⟩
    have al : ∀ c ∈ ([60, 40, 30] : List Int), 0 ≤ c ∧ c ≤ 60 := by decide
    exact al _ (List.getElem_mem _)
  obtain ⟨m, e, b⟩ := all v.toNat (by omega)
  have := atI_nat (xs := ([60, 40, 30] : List Int).map V.int) (j := v.toNat) (v := .int m) (by rw [List.getElem?_map, e]; rfl)
  rw [show ((v.toNat : Nat) : Int) = v by omega] at this
  exact ⟨m, this, b⟩
theorem min_at {i j n : Int} : ∃ m, (if j < i then j else i) = m ∧ m ≤ i ∧ m ≤ j ∧ (m = i ∨ m = j) := by
  refine ⟨_, rfl, ?_⟩
  split <;> omega
theorem d_grec (B : Bt mg) (D_law_next : DefOk P w K mg base CX0 1 "_law_next" ["stream", "many"] spNext) (D_law_word : DefOk P w K mg base CX0 2 "_law_word" ["stream", "index"] spWord)
    (A : At K mg "_law_recording" s__law_recording ["stream", "index", "satellites", "horizon"]) : DefOk P w K mg base CX0 3 "_law_recording" ["stream", "index", "satellites", "horizon"] (spGRec K) := by
  refine A.ok sc__law_recording (fun vs H Q E h => ?_) (fun f cdv A outer s H vs Q E hr h => ?_)
  · obtain ⟨st, i, n, h, rfl, _⟩ := h
    rfl
  obtain ⟨st, i, n, h, rfl, hi, hn, h1, h80, hst, q⟩ := h
  refine ⟨_, pss_cons (ps_set (i := 4) sc__law_recording.nd rfl (Or.inl rfl) (pe_op op_mod (pe_f D_law_next (hr.mono (by omega)) pass0 (pa_cons (pv 0) (pa_cons pe_int pa_nil))) (pv 3)))
  (pss_cons (ps_set (i := 5) sc__law_recording.nd rfl (Or.inl rfl) (pe_callB (call_min2 rfl) (by rfl) B.min (by decide +kernel) (pa_cons (pe_op op_add (pv 4) (pe_ix ix_list (pe_lst (pa_cons pe_int (pa_cons pe_int (pa_cons pe_int (pa_cons pe_int (pa_cons pe_int pa_nil)))))) (pe_f D_law_next (hr.mono (by omega)) pass0 (pa_cons (pv 0) (pa_cons pe_int pa_nil))) (fun _ _ => rfl))) (pa_cons (pe_op op_sub (pv 3) pe_int) pa_nil))))
  (pss_cons (ps_set (i := 6) sc__law_recording.nd rfl (Or.inl rfl) (pe_op op_add pe_int (pe_op op_mod (pe_f D_law_next (hr.mono (by omega)) pass0 (pa_cons (pv 0) (pa_cons pe_int pa_nil))) (pe_op op_sub (pv 3) (pv 5)))))
  (pss_cons (ps_set (i := 7) sc__law_recording.nd rfl (Or.inl rfl) (pe_callB (call_min2 rfl) (by rfl) B.min (by decide +kernel) (pa_cons (pv 3) (pa_cons (pe_op op_add (pe_ix ix_list (pe_lst (pa_cons pe_int (pa_cons pe_int (pa_cons pe_int pa_nil)))) (pe_f D_law_next (hr.mono (by omega)) pass0 (pa_cons (pv 0) (pa_cons pe_int pa_nil))) (fun _ _ => rfl)) (pe_f D_law_next (hr.mono (by omega)) pass0 (pa_cons (pv 0) (pa_cons pe_int pa_nil)))) pa_nil))))
  (pss_cons (ps_set (i := 8) sc__law_recording.nd rfl (Or.inl rfl) (pe_tup (pa_cons (pv 4) (pa_cons (pv 5) (pa_cons (pv 6) (pa_cons (pe_f D_law_next (hr.mono (by omega)) pass0 (pa_cons (pv 0) (pa_cons pe_int pa_nil))) (pa_cons (pe_f D_law_next (hr.mono (by omega)) pass0 (pa_cons (pv 0) (pa_cons pe_int pa_nil))) pa_nil)))))))
  (pss_cons (ps_set (i := 9) sc__law_recording.nd rfl (Or.inl rfl) (pe_tup (pa_cons (pe_op op_add pe_int (pe_f D_law_next (hr.mono (by omega)) pass0 (pa_cons (pv 0) (pa_cons pe_int pa_nil)))) (pa_cons (pe_op op_add pe_int (pe_f D_law_next (hr.mono (by omega)) pass0 (pa_cons (pv 0) (pa_cons pe_int pa_nil)))) (pa_cons (pv 7) pa_nil)))))
  (pss_one (ps_ret (pe_tup (pa_cons (pe_f D_law_word (hr.mono (by omega)) pass0 (pa_cons (pv 0) (pa_cons (pv 1) pa_nil))) (pa_cons (pe_f D_law_next (hr.mono (by omega)) pass0 (pa_cons (pv 0) (pa_cons (pv 2) pa_nil))) (pa_cons (pv 8) (pa_cons (pv 9) pa_nil))))))))))))
    , ?_⟩
  refine ⟨_, rfl, st, 30, rfl, by decide, hst, fun ea ea0 ea1 => ⟨_, rfl, _, _, rfl, rfl, (by show 0 < h; (clear B D_law_next D_law_word hr hi hn hst q ea0 ea1; omega)), ?_⟩⟩
  have e0 : 0 ≤ ea % h := Int.emod_nonneg _ (by (clear B D_law_next D_law_word hr hi hn hst q ea0 ea1; omega))
  have e1 : ea % h < h := Int.emod_lt_of_pos _ (by (clear B D_law_next D_law_word hr hi hn hst q ea0 ea1 e0; omega))
  refine ⟨_, rfl, sz5, fun pm hpm => ?_⟩
  have s1 := same_new hpm (.lst [.int 0, .int 0, .int 1, .int 2, .int 5])
  have hst1 := hst.same s1
  refine ⟨_, rfl, st, 5, rfl, by decide, hst1, fun v v0 v1 => ?_⟩
  obtain ⟨m, hm, m0, m5⟩ := at5 v0 v1
  refine ⟨pm, _, _, _, rfl, rfl, SqL.of upd_same, hm, _, _, rfl, rfl, _, rfl, _, _, rfl, rfl, _, _, rfl, ?_⟩
  obtain ⟨la, ela, la1, la2, la3⟩ := min_at (i := ea % h + m) (j := h - 1) (n := 0)
  have ela' : (if h - 1 < ea % h + m then h - 1 else ea % h + m) = la := ela
  refine ⟨_, rfl, st, 8, rfl, by decide, hst1, fun le le0 le1 => ⟨_, rfl, _, rfl, _, _, rfl, rfl, _, _, rfl, rfl, ?_, _, _, rfl, rfl, ?_⟩⟩
  · show 0 < h - (if h - 1 < ea % h + m then h - 1 else ea % h + m)
    rw [ela']
    (clear B D_law_next D_law_word hr hi hn h1 h80 hst q ea0 ea1 e0 e1 hpm s1 hst1 v0 v1 hm m0 m5 ela la1 la3 ela' le0 le1; omega)
  have l0 : 0 ≤ le % (h - la) := Int.emod_nonneg _ (by (clear B D_law_next D_law_word hr hi hn h1 h80 hst q ea0 ea1 e0 e1 hpm s1 hst1 v0 v1 hm m0 m5 ela la1 la3 ela' le0 le1; omega))
  have l1 : le % (h - la) < h - la := Int.emod_lt_of_pos _ (by (clear B D_law_next D_law_word hr hi hn h1 h80 hst q ea0 ea1 e0 e1 hpm s1 hst1 v0 v1 hm m0 m5 ela la1 la3 ela' le0 le1 l0; omega))
  refine ⟨_, rfl, sz3, fun pd hpd => ?_⟩
  have s2 := same_new hpd (.lst [.int 60, .int 40, .int 30])
  have hst2 := hst1.same s2
  refine ⟨_, rfl, st, 3, rfl, by decide, hst2, fun d d0 d1 => ?_⟩
  obtain ⟨dm, hdm, dm0, dm1⟩ := at3 d0 d1
  refine ⟨pd, _, _, _, rfl, rfl, SqL.of upd_same, hdm, _, rfl, st, 20, rfl, by decide, hst2, fun dd dd0 dd1 => ⟨_, _, rfl, rfl, _, _, rfl, ?_⟩⟩
  obtain ⟨de, ede, de1, de2, de3⟩ := min_at (i := h) (j := dm + dd) (n := 0)
  have ede' : (if dm + dd < h then dm + dd else h) = de := ede
  refine ⟨_, rfl, _, rfl, _, rfl, _, rfl, st, 16, rfl, by decide, hst2, fun si si0 si1 => ⟨_, rfl, st, 16, rfl, by decide, hst2, fun en en0 en1 => ⟨sz5, fun t1 ht1 => ?_⟩⟩⟩
  have hst3 := hst2.same (same_new ht1 (.tup [.int (ea % h), .int (if h - 1 < ea % h + m then h - 1 else ea % h + m), .int (1 + le % (h - if h - 1 < ea % h + m then h - 1 else ea % h + m)), .int si, .int en]))
  refine ⟨_, rfl, st, 30, rfl, by decide, hst3, fun wo wo0 wo1 => ⟨_, _, rfl, rfl, _, rfl, st, 3, rfl, by decide, hst3, fun ra ra0 ra1 => ⟨_, _, rfl, rfl, _, rfl, sz3, fun t2 ht2 => ?_⟩⟩⟩
  have s4 := same_new ht2 (.tup [.int (1 + wo), .int (1 + ra), .int (if dm + dd < h then dm + dd else h)])
  have hst4 := hst3.same s4
  refine ⟨_, rfl, _, rfl, st, i, rfl, hi, hst4, fun u H5 s5 hu => ⟨_, rfl, _, rfl, st, n, rfl, by (clear B D_law_next D_law_word hr hi h1 h80 hst q ea0 ea1 e0 e1 hpm s1 hst1 v0 v1 hm m0 m5 ela la1 la2 la3 ela' le0 le1 l0 l1 hpd s2 hst2 d0 d1 hdm dm0 dm1 dd0 dd1 ede de1 de2 de3 ede' si0 si1 en0 en1 ht1 hst3 wo0 wo1 ra0 ra1 ht2 s4 hst4 s5 hu; omega), hst4.same s5, fun sa sa0 sa1 => ⟨_, rfl, _, rfl, sz4, fun r hr' => ?_⟩⟩⟩
  have s6 := same_new hr' (.tup [.str u, .int sa, .ref t1, .ref t2])
  have s3 := same_new ht1 (.tup [.int (ea % h), .int (if h - 1 < ea % h + m then h - 1 else ea % h + m), .int (1 + le % (h - if h - 1 < ea % h + m then h - 1 else ea % h + m)), .int si, .int en])
  refine q (.ref r) ⟨u, sa.toNat, ea % h, la, 1 + le % (h - la), si, en, 1 + wo, 1 + ra, de⟩ _ (s1.trans (s2.trans (s3.trans (s4.trans (s5.trans s6))))) (fun W wn wh => ?_) hu ?_
  · subst wh
    exact ⟨hu.ok, by show sa.toNat < W.sats.length; (clear B D_law_next D_law_word hr hi hst ea0 ea1 hpm s1 hst1 v0 v1 hm m0 m5 le0 le1 hpd s2 hst2 d0 d1 hdm dm0 dm1 dd0 dd1 de2 si0 si1 en0 en1 ht1 wo0 wo1 ra0 ra1 hu sa0 hr' s6 h1 h80 q e0 e1 ela la1 la2 la3 ela' l0 l1 ede de1 de3 ede' hst3 ht2 s4 hst4 s5 s3; omega), by show 0 ≤ ea % W.horizon ∧ ea % W.horizon ≤ W.horizon - 1; (clear B D_law_next D_law_word hr hi hn hst ea0 ea1 hpm s1 hst1 v0 v1 hm m0 m5 le0 le1 hpd s2 hst2 d0 d1 hdm dm0 dm1 dd0 dd1 de2 si0 si1 en0 en1 ht1 wo0 wo1 ra0 ra1 hu sa0 sa1 hr' s6 wn h1 h80 q ela la1 la2 la3 ela' l0 l1 ede de1 de3 ede' hst3 ht2 s4 hst4 s5 s3; omega), by show ea % W.horizon ≤ la ∧ la ≤ ea % W.horizon + 20 ∧ la ≤ W.horizon - 1; (clear B D_law_next D_law_word hr hi hn hst ea0 ea1 hpm s1 hst1 v0 v1 hm le0 le1 hpd s2 hst2 d0 d1 hdm dm0 dm1 dd0 dd1 si0 si1 en0 en1 ht1 wo0 wo1 ra0 ra1 hu sa0 sa1 hr' s6 wn h1 h80 q e0 ela ela' l0 l1 ede' hst3 ht2 s4 hst4 s5 s3; omega), by show 1 ≤ 1 + le % (W.horizon - la) ∧ 1 + le % (W.horizon - la) ≤ W.horizon - la; (clear B D_law_next D_law_word hr hi hn hst ea0 ea1 hpm s1 hst1 v0 v1 hm m0 m5 le0 le1 hpd s2 hst2 d0 d1 hdm dm0 dm1 dd0 dd1 de2 si0 si1 en0 en1 ht1 wo0 wo1 ra0 ra1 hu sa0 sa1 hr' s6 wn h1 h80 q e0 e1 ela la1 la2 la3 ela' ede de1 de3 ede' hst3 ht2 s4 hst4 s5 s3; omega),
      by show 0 ≤ si ∧ si ≤ 1000000; (clear B D_law_next D_law_word hr hi hn hst ea0 ea1 hpm s1 hst1 v0 v1 hm m0 m5 le0 le1 hpd s2 hst2 d0 d1 hdm dm0 dm1 dd0 dd1 de2 en0 en1 ht1 wo0 wo1 ra0 ra1 hu sa0 sa1 hr' s6 wn h1 h80 q e0 e1 ela la1 la2 la3 ela' l0 l1 ede de1 de3 ede' hst3 ht2 s4 hst4 s5 s3; omega), by show 0 ≤ en ∧ en ≤ 1000000; (clear B D_law_next D_law_word hr hi hn hst ea0 ea1 hpm s1 hst1 v0 v1 hm m0 m5 le0 le1 hpd s2 hst2 d0 d1 hdm dm0 dm1 dd0 dd1 de2 si0 si1 ht1 wo0 wo1 ra0 ra1 hu sa0 sa1 hr' s6 wn h1 h80 q e0 e1 ela la1 la2 la3 ela' l0 l1 ede de1 de3 ede' hst3 ht2 s4 hst4 s5 s3; omega), by show 1 ≤ 1 + wo ∧ 1 + wo ≤ 1000; (clear B D_law_next D_law_word hr hi hn hst ea0 ea1 hpm s1 hst1 v0 v1 hm m0 m5 le0 le1 hpd s2 hst2 d0 d1 hdm dm0 dm1 dd0 dd1 de2 si0 si1 en0 en1 ht1 ra0 ra1 hu sa0 sa1 hr' s6 wn h1 h80 q e0 e1 ela la1 la2 la3 ela' l0 l1 ede de1 de3 ede' hst3 ht2 s4 hst4 s5 s3; omega), by show 1 ≤ 1 + ra ∧ 1 + ra ≤ 3; (clear B D_law_next D_law_word hr hi hn hst ea0 ea1 hpm s1 hst1 v0 v1 hm m0 m5 le0 le1 hpd s2 hst2 d0 d1 hdm dm0 dm1 dd0 dd1 de2 si0 si1 en0 en1 ht1 wo0 wo1 hu sa0 sa1 hr' s6 wn h1 h80 q e0 e1 ela la1 la2 la3 ela' l0 l1 ede de1 de3 ede' hst3 ht2 s4 hst4 s5 s3; omega), by show 0 ≤ de ∧ de ≤ W.horizon; (clear B D_law_next D_law_word hr hi hn hst ea0 ea1 hpm s1 hst1 v0 v1 hm m0 m5 le0 le1 hpd s2 hst2 d0 d1 hdm de2 si0 si1 en0 en1 ht1 wo0 wo1 ra0 ra1 hu sa0 sa1 hr' s6 wn q e0 e1 ela la1 la2 la3 ela' l0 l1 ede' hst3 ht2 s4 hst4 s5 s3; omega)⟩
  · have g1 := s6 _ _ (s5 _ _ (s4 _ _ (upd_same (H := upd (upd H pm (.lst [.int 0, .int 0, .int 1, .int 2, .int 5])) pd (.lst [.int 60, .int 40, .int 30])) (a := t1) (o := .tup [.int (ea % h), .int (if h - 1 < ea % h + m then h - 1 else ea % h + m), .int (1 + le % (h - if h - 1 < ea % h + m then h - 1 else ea % h + m)), .int si, .int en]))))
    have g2 := s6 _ _ (s5 _ _ (upd_same (H := upd (upd (upd H pm (.lst [.int 0, .int 0, .int 1, .int 2, .int 5])) pd (.lst [.int 60, .int 40, .int 30])) t1 (.tup [.int (ea % h), .int (if h - 1 < ea % h + m then h - 1 else ea % h + m), .int (1 + le % (h - if h - 1 < ea % h + m then h - 1 else ea % h + m)), .int si, .int en])) (a := t2) (o := .tup [.int (1 + wo), .int (1 + ra), .int (if dm + dd < h then dm + dd else h)])))
    rw [ela'] at g1
    rw [ede'] at g2
    have es : ((sa.toNat : Nat) : Int) = sa := by (clear B D_law_next D_law_word hr hi hn h1 h80 hst q ea0 ea1 e0 e1 hpm s1 hst1 v0 v1 hm m0 m5 ela la1 la2 la3 ela' le0 le1 l0 l1 hpd s2 hst2 d0 d1 hdm dm0 dm1 dd0 dd1 ede de1 de2 de3 ede' si0 si1 en0 en1 ht1 hst3 wo0 wo1 ra0 ra1 ht2 s4 hst4 s5 hu sa1 hr' s6 s3 g1 g2; omega)
    refine .tup (SqT.of upd_same) (.cons (.str _) (.cons ?_ (.cons (.tup (SqT.of g1) (.cons (.int _) (.cons (.int _) (.cons (.int _) (.cons (.int _) (.cons (.int _) .nil)))))) (.cons (.tup (SqT.of g2) (.cons (.int _) (.cons (.int _) (.cons (.int _) .nil)))) .nil))))
    rw [es]
    exact .int _
end
end DP
namespace DP
open PySem PySem.Spec PyProof.Rows L2
section
variable {P : Program} {w : World} {K : PySem.W.Frag} {mg : Str → Option Value} {base : Heap}
def spGPas (K : PySem.W.Frag) : Sp := fun vs H Q _ => ∃ (st : Addr) (i n m : Nat) (h : Int), vs = [.ref st, .int (i : Int), .int (n : Int), .int (m : Int), .int h] ∧ i < 10 ∧ 0 < n ∧ 0 < m ∧ 1 ≤ h ∧ h ≤ 80 ∧ Strm H st ∧
  ∀ x r H', Same H H' → (∀ W : WorldD, W.sats.length = n → W.stas.length = m → W.horizon = h → PasOk W r) → WordAt i r.name → Dp K H' x (pasPy r) → Q x H'
theorem d_gpas (B : Bt mg) (D_law_next : DefOk P w K mg base CX0 1 "_law_next" ["stream", "many"] spNext) (D_law_word : DefOk P w K mg base CX0 2 "_law_word" ["stream", "index"] spWord)
    (A : At K mg "_law_pass" s__law_pass ["stream", "index", "satellites", "stations", "horizon"]) : DefOk P w K mg base CX0 3 "_law_pass" ["stream", "index", "satellites", "stations", "horizon"] (spGPas K) := by
  refine A.ok sc__law_pass (fun vs H Q E h => ?_) (fun f cdv A outer s H vs Q E hr h => ?_)
  · obtain ⟨st, i, n, m, h, rfl, _⟩ := h
    rfl
  obtain ⟨st, i, n, m, h, rfl, hi, hn, hm, h1, h80, hst, q⟩ := h
  refine ⟨_, pss_cons (ps_set (i := 5) sc__law_pass.nd rfl (Or.inl rfl) (pe_op op_mod (pe_op op_add pe_int (pe_f D_law_next (hr.mono (by omega)) pass0 (pa_cons (pv 0) (pa_cons pe_int pa_nil)))) (pv 4)))
  (pss_cons (ps_set (i := 6) sc__law_pass.nd rfl (Or.inl rfl) (pe_callB (call_min2 rfl) (by rfl) B.min (by decide +kernel) (pa_cons (pv 4) (pa_cons (pe_op op_add (pe_op op_add (pv 5) pe_int) (pe_f D_law_next (hr.mono (by omega)) pass0 (pa_cons (pv 0) (pa_cons pe_int pa_nil)))) pa_nil))))
  (pss_cons (ps_set (i := 7) sc__law_pass.nd rfl (Or.inl rfl) (pe_tup (pa_cons (pe_f D_law_next (hr.mono (by omega)) pass0 (pa_cons (pv 0) (pa_cons pe_int pa_nil))) (pa_cons (pe_f D_law_next (hr.mono (by omega)) pass0 (pa_cons (pv 0) (pa_cons pe_int pa_nil))) (pa_cons (pe_f D_law_next (hr.mono (by omega)) pass0 (pa_cons (pv 0) (pa_cons pe_int pa_nil))) pa_nil)))))
  (pss_one (ps_ret (pe_tup (pa_cons (pe_f D_law_word (hr.mono (by omega)) pass0 (pa_cons (pv 0) (pa_cons (pv 1) pa_nil))) (pa_cons (pe_f D_law_next (hr.mono (by omega)) pass0 (pa_cons (pv 0) (pa_cons (pv 2) pa_nil))) (pa_cons (pe_f D_law_next (hr.mono (by omega)) pass0 (pa_cons (pv 0) (pa_cons (pv 3) pa_nil))) (pa_cons (pe_tup (pa_cons (pv 5) (pa_cons (pv 6) pa_nil))) (pa_cons (pv 7) pa_nil))))))))))
    , ?_⟩
  refine ⟨_, rfl, st, 45, rfl, by decide, hst, fun fi fi0 fi1 => ⟨_, _, rfl, rfl, _, rfl, _, _, rfl, rfl, (by show 0 < h; (clear B D_law_next D_law_word hr hi hn hm hst q fi0 fi1; omega)), ?_⟩⟩
  have e0 : 0 ≤ (10 + fi) % h := Int.emod_nonneg _ (by (clear B D_law_next D_law_word hr hi hn hm hst q fi0 fi1; omega))
  have e1 : (10 + fi) % h < h := Int.emod_lt_of_pos _ (by (clear B D_law_next D_law_word hr hi hn hm hst q fi0 fi1 e0; omega))
  refine ⟨_, rfl, _, rfl, _, _, rfl, rfl, _, rfl, st, 12, rfl, by decide, hst, fun u u0 u1 => ⟨_, _, rfl, rfl, _, _, rfl, ?_⟩⟩
  obtain ⟨en, een, en1, en2, en3⟩ := min_at (i := h) (j := (10 + fi) % h + 1 + u) (n := 0)
  have een' : (if (10 + fi) % h + 1 + u < h then (10 + fi) % h + 1 + u else h) = en := een
  refine ⟨_, rfl, st, 30, rfl, by decide, hst, fun ro ro0 ro1 => ⟨_, rfl, st, 12, rfl, by decide, hst, fun eg eg0 eg1 => ⟨_, rfl, st, 6, rfl, by decide, hst, fun fe fe0 fe1 => ⟨sz3, fun t1 ht1 => ?_⟩⟩⟩⟩
  have s1 := same_new ht1 (.tup [.int ro, .int eg, .int fe])
  have hst1 := hst.same s1
  refine ⟨_, rfl, _, rfl, st, i, rfl, hi, hst1, fun nm H2 s2 hu => ⟨_, rfl, _, rfl, st, n, rfl, by (clear B D_law_next D_law_word hr hi hm h1 h80 hst q fi0 fi1 e0 e1 u0 u1 een en1 en2 en3 een' ro0 ro1 eg0 eg1 fe0 fe1 ht1 s1 hst1 s2 hu; omega), hst1.same s2, fun sa sa0 sa1 => ⟨_, rfl, _, rfl, st, m, rfl, by (clear B D_law_next D_law_word hr hi hn h1 h80 hst q fi0 fi1 e0 e1 u0 u1 een en1 en2 en3 een' ro0 ro1 eg0 eg1 fe0 fe1 ht1 s1 hst1 s2 hu sa0 sa1; omega), hst1.same s2, fun ta ta0 ta1 => ?_⟩⟩⟩
  refine ⟨_, rfl, _, rfl, sz2, fun t2 ht2 => ⟨_, rfl, sz5, fun r hr' => ?_⟩⟩
  have s3 := same_new ht2 (.tup [.int ((10 + fi) % h), .int (if (10 + fi) % h + 1 + u < h then (10 + fi) % h + 1 + u else h)])
  have s4 := same_new hr' (.tup [.str nm, .int sa, .int ta, .ref t2, .ref t1])
  refine q (.ref r) ⟨nm, sa.toNat, ta.toNat, (10 + fi) % h, en, ro, eg, fe⟩ _ (s1.trans (s2.trans (s3.trans s4))) (fun W wn wm wh => ?_) hu ?_
  · subst wh
    exact ⟨hu.ok, by show sa.toNat < W.sats.length; (clear B D_law_next D_law_word hr hi hm hst fi0 fi1 u0 u1 ro0 ro1 eg0 eg1 fe0 fe1 ht1 s1 hst1 s2 hu sa0 ta0 ta1 ht2 wm h1 h80 q e0 e1 een en1 en2 en3 een' hr' s3 s4; omega), by show ta.toNat < W.stas.length; (clear B D_law_next D_law_word hr hi hn hst fi0 fi1 u0 u1 ro0 ro1 eg0 eg1 fe0 fe1 ht1 s1 hst1 s2 hu sa0 sa1 ta0 ht2 wn h1 h80 q e0 e1 een en1 en2 en3 een' hr' s3 s4; omega), by show 0 ≤ (10 + fi) % W.horizon ∧ (10 + fi) % W.horizon ≤ W.horizon - 1; (clear B D_law_next D_law_word hr hi hn hm hst fi0 fi1 u0 u1 ro0 ro1 eg0 eg1 fe0 fe1 ht1 s1 hst1 s2 hu sa0 sa1 ta0 ta1 ht2 wn wm h1 h80 q een en1 en2 en3 een' hr' s3 s4; omega), by show (10 + fi) % W.horizon + 1 ≤ en ∧ en ≤ W.horizon; (clear B D_law_next D_law_word hr hi hn hm hst fi0 fi1 ro0 ro1 eg0 eg1 fe0 fe1 ht1 s1 hst1 s2 hu sa0 sa1 ta0 ta1 ht2 wn wm h1 h80 q e0 een en2 een' hr' s3 s4; omega),
      by show 0 ≤ ro ∧ ro ≤ 1000000; (clear B D_law_next D_law_word hr hi hn hm hst fi0 fi1 u0 u1 eg0 eg1 fe0 fe1 ht1 s1 hst1 s2 hu sa0 sa1 ta0 ta1 ht2 wn wm h1 h80 q e0 e1 een en1 en2 en3 een' hr' s3 s4; omega), by show 0 ≤ eg ∧ eg ≤ 1000000; (clear B D_law_next D_law_word hr hi hn hm hst fi0 fi1 u0 u1 ro0 ro1 fe0 fe1 ht1 s1 hst1 s2 hu sa0 sa1 ta0 ta1 ht2 wn wm h1 h80 q e0 e1 een en1 en2 en3 een' hr' s3 s4; omega), by show 0 ≤ fe ∧ fe ≤ 1000; (clear B D_law_next D_law_word hr hi hn hm hst fi0 fi1 u0 u1 ro0 ro1 eg0 eg1 ht1 s1 hst1 s2 hu sa0 sa1 ta0 ta1 ht2 wn wm h1 h80 q e0 e1 een en1 en2 en3 een' hr' s3 s4; omega)⟩
  · have g1 := s4 _ _ (s3 _ _ (s2 _ _ (upd_same (H := H) (a := t1) (o := .tup [.int ro, .int eg, .int fe]))))
    have g2 := s4 _ _ (upd_same (H := H2) (a := t2) (o := .tup [.int ((10 + fi) % h), .int (if (10 + fi) % h + 1 + u < h then (10 + fi) % h + 1 + u else h)]))
    have es : ((sa.toNat : Nat) : Int) = sa := by (clear B D_law_next D_law_word hr hi hn hm h1 h80 hst q fi0 fi1 e0 e1 u0 u1 een en1 en2 en3 een' ro0 ro1 eg0 eg1 fe0 fe1 ht1 s1 hst1 s2 hu sa1 ta0 ta1 ht2 hr' s3 s4 g1 g2; omega)
    have et : ((ta.toNat : Nat) : Int) = ta := by (clear B D_law_next D_law_word hr hi hn hm h1 h80 hst q fi0 fi1 e0 e1 u0 u1 een en1 en2 en3 een' ro0 ro1 eg0 eg1 fe0 fe1 ht1 s1 hst1 s2 hu sa0 sa1 ta1 ht2 hr' s3 s4 g1 g2 es; omega)
    refine .tup (SqT.of upd_same) (.cons (.str _) (.cons ?_ (.cons ?_ (.cons (.tup (SqT.of (g2.trans (by rw [een']))) (.cons (.int _) (.cons (.int _) .nil))) (.cons (.tup (SqT.of g1) (.cons (.int _) (.cons (.int _) (.cons (.int _) .nil)))) .nil)))))
    · rw [es]; exact .int _
    · rw [et]; exact .int _
def wdK (h : Int) (a b c d : Addr) : List (Key × V) := [(.inr "horizon", .int h), (.inr "satellites", .ref a), (.inr "stations", .ref b), (.inr "recordings", .ref c), (.inr "passes", .ref d)]
theorem kd_ne {a b : Str} (h : (a == b) = false) : decide ((Sum.inr a : Key) = Sum.inr b) = false := decide_eq_false fun z => by
  have := Sum.inr.inj z
  rw [this, beq_self_eq_true] at h
  cases h
theorem put_any_no {kvs : List (Key × V)} {k : Key} {v : V} (h : kvs.any (fun kv => decide (kv.1 = k)) = false) : putK kvs k v = kvs ++ [(k, v)] := by
  unfold putK
  rw [if_neg (by rw [h]; exact Bool.false_ne_true)]
theorem any_miss {g k : Str} {x : V} {r : List (Key × V)} (h : (g == k) = false) (t : r.any (fun kv => decide (kv.1 = (Sum.inr k : Key))) = false) : ((Sum.inr g, x) :: r : List (Key × V)).any (fun kv => decide (kv.1 = (Sum.inr k : Key))) = false := by
  rw [List.any_cons, kd_ne h, t]
  rfl
theorem wd_merge (h : Int) (a b c d : Addr) : mergeK [] (wdK h a b c d) = wdK h a b c d := by
  have e1 : putK ([] : List (Key × V)) (.inr "horizon") (.int h) = [(.inr "horizon", .int h)] := put_any_no rfl
  have e2 : putK ([(.inr "horizon", .int h)] : List (Key × V)) (.inr "satellites") (.ref a) = [(.inr "horizon", .int h), (.inr "satellites", .ref a)] := put_any_no (any_miss (by decide +kernel) rfl)
  have e3 : putK ([(.inr "horizon", .int h), (.inr "satellites", .ref a)] : List (Key × V)) (.inr "stations") (.ref b) = [(.inr "horizon", .int h), (.inr "satellites", .ref a), (.inr "stations", .ref b)] :=
    put_any_no (any_miss (by decide +kernel) (any_miss (by decide +kernel) rfl))
  have e4 : putK ([(.inr "horizon", .int h), (.inr "satellites", .ref a), (.inr "stations", .ref b)] : List (Key × V)) (.inr "recordings") (.ref c) = [(.inr "horizon", .int h), (.inr "satellites", .ref a), (.inr "stations", .ref b), (.inr "recordings", .ref c)] :=
    put_any_no (any_miss (by decide +kernel) (any_miss (by decide +kernel) (any_miss (by decide +kernel) rfl)))
  have e5 : putK ([(.inr "horizon", .int h), (.inr "satellites", .ref a), (.inr "stations", .ref b), (.inr "recordings", .ref c)] : List (Key × V)) (.inr "passes") (.ref d) = wdK h a b c d :=
    put_any_no (any_miss (by decide +kernel) (any_miss (by decide +kernel) (any_miss (by decide +kernel) (any_miss (by decide +kernel) rfl))))
  unfold mergeK
  show putK (κ := Key) (putK (κ := Key) (putK (κ := Key) (putK (κ := Key) (putK (κ := Key) [] (.inr "horizon") (.int h)) (.inr "satellites") (.ref a)) (.inr "stations") (.ref b)) (.inr "recordings") (.ref c)) (.inr "passes") (.ref d) = _
  rw [e1, e2, e3, e4, e5]
theorem putK_hit {k : Str} {x v : V} {r : List (Key × V)} (hr : ∀ p ∈ r, p.1 ≠ (Sum.inr k : Key)) : putK ((Sum.inr k, x) :: r) (Sum.inr k) v = (Sum.inr k, v) :: r := by
  unfold putK
  rw [if_pos (by rw [List.any_cons, decide_eq_true rfl]; rfl), List.map_cons, if_pos rfl]
  congr 1
  exact (List.map_congr_left fun p hp => if_neg (hr p hp)).trans (List.map_id _)
theorem putK_miss {g k : Str} {x v : V} {r : List (Key × V)} (h : (g == k) = false) (hit : r.any (fun kv => decide (kv.1 = (Sum.inr k : Key))) = true) : putK ((Sum.inr g, x) :: r) (Sum.inr k) v = (Sum.inr g, x) :: putK r (Sum.inr k) v := by
  have hn : ¬ ((Sum.inr g : Key) = Sum.inr k) := fun z => by
    have := Sum.inr.inj z
    rw [this, beq_self_eq_true] at h
    cases h
  unfold putK
  rw [if_pos (by rw [List.any_cons, hit, Bool.or_true]), if_pos hit, List.map_cons, if_neg hn]
theorem any_hit {k : Str} {x : V} {r : List (Key × V)} : ((Sum.inr k, x) :: r : List (Key × V)).any (fun kv => decide (kv.1 = (Sum.inr k : Key))) = true := by
  rw [List.any_cons, decide_eq_true rfl]
  rfl
theorem any_later {g k : Str} {x : V} {r : List (Key × V)} (t : r.any (fun kv => decide (kv.1 = (Sum.inr k : Key))) = true) : ((Sum.inr g, x) :: r : List (Key × V)).any (fun kv => decide (kv.1 = (Sum.inr k : Key))) = true := by
  rw [List.any_cons, t, Bool.or_true]
theorem key_ne {a b : Str} (h : (a == b) = false) : (Sum.inr a : Key) ≠ Sum.inr b := fun z => by
  have := Sum.inr.inj z
  rw [this, beq_self_eq_true] at h
  cases h
theorem nin_nil {k : Str} : ∀ p ∈ ([] : List (Key × V)), p.1 ≠ (Sum.inr k : Key) := fun _ h => absurd h List.not_mem_nil
theorem nin_cons {g k : Str} {x : V} {r : List (Key × V)} (h : (g == k) = false) (t : ∀ p ∈ r, p.1 ≠ (Sum.inr k : Key)) : ∀ p ∈ ((Sum.inr g, x) :: r : List (Key × V)), p.1 ≠ (Sum.inr k : Key) := fun p hp => by
  rcases List.mem_cons.mp hp with rfl | hp
  · exact key_ne h
  · exact t p hp
theorem wd_putS (h : Int) (a b c d z : Addr) : putK (wdK h a b c d) (.inr "satellites") (.ref z) = wdK h z b c d := by
  unfold wdK
  rw [putK_miss (by decide +kernel) any_hit, putK_hit (nin_cons (by decide +kernel) (nin_cons (by decide +kernel) (nin_cons (by decide +kernel) nin_nil)))]
theorem wd_putT (h : Int) (a b c d z : Addr) : putK (wdK h a b c d) (.inr "stations") (.ref z) = wdK h a z c d := by
  unfold wdK
  rw [putK_miss (by decide +kernel) (any_later any_hit), putK_miss (by decide +kernel) any_hit, putK_hit (nin_cons (by decide +kernel) (nin_cons (by decide +kernel) nin_nil))]
theorem wd_putR (h : Int) (a b c d z : Addr) : putK (wdK h a b c d) (.inr "recordings") (.ref z) = wdK h a b z d := by
  unfold wdK
  rw [putK_miss (by decide +kernel) (any_later (any_later any_hit)), putK_miss (by decide +kernel) (any_later any_hit), putK_miss (by decide +kernel) any_hit, putK_hit (nin_cons (by decide +kernel) nin_nil)]
theorem wd_putP (h : Int) (a b c d z : Addr) : putK (wdK h a b c d) (.inr "passes") (.ref z) = wdK h a b c z := by
  unfold wdK
  rw [putK_miss (by decide +kernel) (any_later (any_later (any_later any_hit))), putK_miss (by decide +kernel) (any_later (any_later any_hit)), putK_miss (by decide +kernel) (any_later any_hit), putK_miss (by decide +kernel) any_hit, putK_hit nin_nil]
theorem valV_hit {k : Str} {x : V} {r : List (Key × V)} : valV ((Sum.inr k, x) :: r) (Sum.inr k : Key) = some x := valV_pos rfl
theorem valV_miss {g k : Str} {x : V} {r : List (Key × V)} (h : (g == k) = false) : valV ((Sum.inr g, x) :: r) (Sum.inr k : Key) = valV r (Sum.inr k : Key) := by
  unfold valV
  rw [List.find?_cons, kd_ne h]
theorem wd_h (h : Int) (a b c d : Addr) : valV (wdK h a b c d) (.inr "horizon") = some (.int h) := by unfold wdK; exact valV_hit
theorem wd_s (h : Int) (a b c d : Addr) : valV (wdK h a b c d) (.inr "satellites") = some (.ref a) := by unfold wdK; exact (valV_miss (by decide +kernel)).trans valV_hit
theorem wd_t (h : Int) (a b c d : Addr) : valV (wdK h a b c d) (.inr "stations") = some (.ref b) := by unfold wdK; exact (valV_miss (by decide +kernel)).trans ((valV_miss (by decide +kernel)).trans valV_hit)
theorem wd_r (h : Int) (a b c d : Addr) : valV (wdK h a b c d) (.inr "recordings") = some (.ref c) := by unfold wdK; exact (valV_miss (by decide +kernel)).trans ((valV_miss (by decide +kernel)).trans ((valV_miss (by decide +kernel)).trans valV_hit))
theorem wd_p (h : Int) (a b c d : Addr) : valV (wdK h a b c d) (.inr "passes") = some (.ref d) := by
  unfold wdK; exact (valV_miss (by decide +kernel)).trans ((valV_miss (by decide +kernel)).trans ((valV_miss (by decide +kernel)).trans ((valV_miss (by decide +kernel)).trans valV_hit)))
/-- the law's dict of a world -/
structure WdAt (K : PySem.W.Frag) (H : Hp) (wd : Addr) (W : WorldD) : Prop where
  ex : ∃ a b c d xa xb xc xd, H wd = some (.dK (wdK W.horizon a b c d)) ∧ H a = some (.lst xa) ∧ DpAll K H xa (W.sats.map satPy) ∧ H b = some (.lst xb) ∧ DpAll K H xb (W.stas.map staPy) ∧ H c = some (.lst xc) ∧ DpAll K H xc (W.recs.map recPy) ∧ H d = some (.lst xd) ∧ DpAll K H xd (W.pass.map pasPy)
theorem WdAt.same {H H' : Hp} {wd : Addr} {W : WorldD} (h : WdAt K H wd W) (s : Same H H') : WdAt K H' wd W := by
  obtain ⟨a, b, c, d, xa, xb, xc, xd, g, a1, a2, b1, b2, c1, c2, d1, d2⟩ := h.ex
  exact ⟨a, b, c, d, xa, xb, xc, xd, s _ _ g, s _ _ a1, dpAll_same s a2, s _ _ b1, dpAll_same s b2, s _ _ c1, dpAll_same s c2, s _ _ d1, dpAll_same s d2⟩
theorem sqT_updK {H : Hp} {t L : Addr} {xs : List V} {kvs : List (Key × V)} {o : HO} (h : SqT K H t xs) (e : H L = some (.dK kvs)) : SqT K (upd H L o) t xs := by
  rcases h with (h | ⟨u, h⟩) | h
  · exact .inl (.inl (by rw [upd_ne (ne_of h e (fun z => nomatch z))]; exact h))
  · exact .inl (.inr ⟨u, by rw [upd_ne (ne_of h e (fun z => nomatch z))]; exact h⟩)
  · exact .inr h
theorem dpTs_upK {H : Hp} {L : Addr} {xs : List V} {ds : List PyData} {kvs : List (Key × V)} {o : HO} (n : noLs ds) (e : H L = some (.dK kvs)) (h : DpAll K H xs ds) : DpAll K (upd H L o) xs ds := dpTs_map (fun _ _ z => sqT_updK z e) n h
/-- names by their places -/
def NamedBy {α : Type} (f : α → Str) (l : List α) : Prop := ∀ i s, l[i]? = some s → WordAt i (f s)
theorem NamedBy.nodup {α : Type} {f : α → Str} {l : List α} (h : NamedBy f l) : (l.map f).Nodup := by
  rw [List.nodup_iff_pairwise_ne, List.pairwise_iff_getElem]
  intro i j hi hj hij z
  rw [List.getElem_map, List.getElem_map] at z
  rw [List.length_map] at hi hj
  have h1 := h i _ (List.getElem?_eq_getElem hi)
  have h2 := h j _ (List.getElem?_eq_getElem hj)
  rw [z] at h1
  have := h1.inj h2
  omega
theorem NamedBy.snoc {α : Type} {f : α → Str} {l : List α} {s : α} (h : NamedBy f l) (k : WordAt l.length (f s)) : NamedBy f (l ++ [s]) := fun i t ht => by
  by_cases c : i < l.length
  · rw [List.getElem?_append_left c] at ht
    exact h i t ht
  · rw [List.getElem?_append_right (by omega)] at ht
    have e : i - l.length = 0 := by
      cases q : i - l.length with
      | zero => rfl
      | succ n => rw [q] at ht; cases ht
    rw [e] at ht
    have e2 : s = t := Option.some.inj ht
    have e3 : i = l.length := by omega
    rw [e3, ← e2]
    exact k
end
end DP
namespace DP
open PySem PySem.Spec PyProof.Rows L2
/-- what is known of a drawn world besides -/
structure WG (W : WorldD) : Prop where
  ok : WorldOk W
  h80 : W.horizon ≤ 80
  nR : W.recs.length ≤ 5
  nP : W.pass.length ≤ 5
  nT : 1 ≤ W.stas.length
  bS : NamedBy (·.name) W.sats
  bT : NamedBy (·.name) W.stas
  bR : NamedBy (·.name) W.recs
  bP : NamedBy (·.name) W.pass
  bL : ∀ s ∈ W.sats, s.level ≤ 1000
theorem noLs_sat (l : List SatD) : noLs (l.map satPy) := noLs_map noL_sat l
theorem noLs_sta (l : List StaD) : noLs (l.map staPy) := noLs_map noL_sta l
theorem noLs_rec (l : List RecD) : noLs (l.map recPy) := noLs_map noL_rec l
theorem noLs_pas (l : List PasD) : noLs (l.map pasPy) := noLs_map noL_pas l
theorem all_snoc {α : Type} {P : α → Prop} {l : List α} {a : α} (h : ∀ x ∈ l, P x) (k : P a) : ∀ x ∈ l ++ [a], P x := fun x hx => by
  rcases List.mem_append.mp hx with hx | hx
  · exact h x hx
  · rw [List.mem_singleton.mp hx]; exact k
section
variable {P : Program} {w : World} {K : PySem.W.Frag} {mg : Str → Option Value} {base : Heap}
def spWorld (K : PySem.W.Frag) : Sp := fun vs H Q _ => ∃ (a : Addr) (ns : List Int), vs = [.ref a] ∧ SqL K H a (ns.map V.int) ∧ ∀ wd H' W, H wd = none → Same H H' → WG W → WdAt K H' wd W → Q (.ref wd) H'
set_option maxHeartbeats 8000000 in
theorem d_world (B : Bt mg) (D_law_stream : DefOk P w K mg base CX0 2 "_law_stream" ["script", "first", "count"] (spStream K)) (D_law_next : DefOk P w K mg base CX0 1 "_law_next" ["stream", "many"] spNext) (D_law_word : DefOk P w K mg base CX0 2 "_law_word" ["stream", "index"] spWord)
    (D_law_satellite : DefOk P w K mg base CX0 3 "_law_satellite" ["stream", "index", "horizon"] (spGSat K)) (D_law_recording : DefOk P w K mg base CX0 3 "_law_recording" ["stream", "index", "satellites", "horizon"] (spGRec K)) (D_law_pass : DefOk P w K mg base CX0 3 "_law_pass" ["stream", "index", "satellites", "stations", "horizon"] (spGPas K))
    (A : At K mg "_law_world" s__law_world ["script"]) : DefOk P w K mg base CX0 4 "_law_world" ["script"] (spWorld K) := by
  refine A.ok sc__law_world (fun vs H Q E h => ?_) (fun f cdv A outer s H vs Q E hr h => ?_)
  · obtain ⟨a, ns, rfl, _⟩ := h
    rfl
  obtain ⟨a, ns, rfl, hS, q⟩ := h
  refine ⟨_, pss_cons (ps_set (i := 1) sc__law_world.nd rfl (Or.inr rfl) (pe_f D_law_stream (hr.mono (by omega)) pass0 (pa_cons (pv 0) (pa_cons pe_int (pa_cons pe_int pa_nil)))))
  (pss_cons (ps_set (i := 2) sc__law_world.nd rfl (Or.inr rfl) (pe_op op_add pe_int (pe_f D_law_next (hr.mono (by omega)) pass0 (pa_cons (pv 1) (pa_cons pe_int pa_nil)))))
  (C8.pss_cut (ps_if (pt_cmpR op_eq (pe_f D_law_next (hr.mono (by omega)) pass0 (pa_cons (pv 1) (pa_cons pe_int pa_nil))) pe_int (nomark _))
      (pss_one (ps_set (i := 2) sc__law_world.nd rfl (Or.inr rfl) (pe_op op_add pe_int (pe_f D_law_next (hr.mono (by omega)) pass0 (pa_cons (pv 1) (pa_cons pe_int pa_nil))))))
      (pss_nil))
  (pss_cons (ps_set (i := 3) sc__law_world.nd rfl (Or.inr rfl) (pe_op op_add (pe_op op_mod (pe_op op_fdiv (pe_f D_law_next (hr.mono (by omega)) pass0 (pa_cons (pv 1) (pa_cons pe_int pa_nil))) pe_int) pe_int) (pe_callTy (call_int1) (by rfl) B.int (by decide +kernel) (pa_cons (pe_cmpR op_gt (pe_f D_law_next (hr.mono (by omega)) pass0 (pa_cons (pv 1) (pa_cons pe_int pa_nil))) pe_int (nomark _)) pa_nil))))
  (pss_cons (ps_set (i := 4) sc__law_world.nd rfl (Or.inr rfl) (pe_op op_add pe_int (pe_op op_fdiv (pe_f D_law_next (hr.mono (by omega)) pass0 (pa_cons (pv 1) (pa_cons pe_int pa_nil))) pe_int)))
  (pss_cons (ps_set (i := 5) sc__law_world.nd rfl (Or.inl rfl) (pe_f D_law_next (hr.mono (by omega)) pass0 (pa_cons (pv 1) (pa_cons pe_int pa_nil))))
  (pss_cons (ps_set (i := 6) sc__law_world.nd rfl (Or.inl rfl) (pe_f D_law_next (hr.mono (by omega)) pass0 (pa_cons (pv 1) (pa_cons pe_int pa_nil))))
  (pss_cons (ps_set (i := 3) sc__law_world.nd rfl (Or.inr rfl) (pe_callB (call_min2 rfl) (by rfl) B.min (by decide +kernel) (pa_cons pe_int (pa_cons (pv 3) pa_nil))))
  (C8.pss_cut (ps_if (pt_cmpR op_eq (pv 3) pe_int (nomark _))
      (pss_cons (ps_set (i := 5) sc__law_world.nd rfl (Or.inl rfl) pe_int)
      (pss_one (ps_set (i := 6) sc__law_world.nd rfl (Or.inl rfl) pe_int)))
      (pss_nil))
  (pss_cons (ps_set (i := 7) sc__law_world.nd rfl (Or.inl rfl) (pe_disp (pps_cons pe_str (pv 2) (pps_cons pe_str (pe_lst pa_nil) (pps_cons pe_str (pe_lst pa_nil) (pps_cons pe_str (pe_lst pa_nil) (pps_cons pe_str (pe_lst pa_nil) pps_nil))))) (by rfl) (by rfl) (fun z => by cases z) (by decide)))
  (pss_cons (ps_dput (hu_of hr) (pv 7) pe_str (pe_lc (own := [("k", 8)])  rfl sc__law_world.nd (pi_range1 (by rfl) B.range (pa_cons (pv 3) pa_nil)) (blkOk_by (own := [("k", 8)]) (N := ["script", "stream", "horizon", "satellites", "stations", "recordings", "passes", "world", "k"]) (sc := defScope s__law_world) (by decide +kernel)) (fun _ _ _ _ _ => pg_name (i := 8) sc__law_world.nd rfl (Or.inl rfl)) (fun _ _ _ _ _ => pts_nil) (fun _ _ _ _ _ => (pe_f D_law_satellite (hr.mono (by omega)) pass0 (pa_cons (pv 1) (pa_cons (pv 8) (pa_cons (pv 2) pa_nil)))))) rfl)
  (pss_cons (ps_dput (hu_of hr) (pv 7) pe_str (pe_lc (own := [("k", 8)])  rfl sc__law_world.nd (pi_range1 (by rfl) B.range (pa_cons (pv 4) pa_nil)) (blkOk_by (own := [("k", 8)]) (N := ["script", "stream", "horizon", "satellites", "stations", "recordings", "passes", "world", "k"]) (sc := defScope s__law_world) (by decide +kernel)) (fun _ _ _ _ _ => pg_name (i := 8) sc__law_world.nd rfl (Or.inl rfl)) (fun _ _ _ _ _ => pts_nil) (fun _ _ _ _ _ => (pe_tup (pa_cons (pe_f D_law_word (hr.mono (by omega)) pass0 (pa_cons (pv 1) (pa_cons (pv 8) pa_nil))) (pa_cons (pe_op op_add pe_int (pe_op op_fdiv (pe_f D_law_next (hr.mono (by omega)) pass0 (pa_cons (pv 1) (pa_cons pe_int pa_nil))) pe_int)) (pa_cons (pe_f D_law_next (hr.mono (by omega)) pass0 (pa_cons (pv 1) (pa_cons pe_int pa_nil))) pa_nil)))))) rfl)
  (pss_cons (ps_dput (hu_of hr) (pv 7) pe_str (pe_lc (own := [("k", 8)])  rfl sc__law_world.nd (pi_range1 (by rfl) B.range (pa_cons (pv 5) pa_nil)) (blkOk_by (own := [("k", 8)]) (N := ["script", "stream", "horizon", "satellites", "stations", "recordings", "passes", "world", "k"]) (sc := defScope s__law_world) (by decide +kernel)) (fun _ _ _ _ _ => pg_name (i := 8) sc__law_world.nd rfl (Or.inl rfl)) (fun _ _ _ _ _ => pts_nil) (fun _ _ _ _ _ => (pe_f D_law_recording (hr.mono (by omega)) pass0 (pa_cons (pv 1) (pa_cons (pv 8) (pa_cons (pv 3) (pa_cons (pv 2) pa_nil))))))) rfl)
  (pss_cons (ps_dput (hu_of hr) (pv 7) pe_str (pe_lc (own := [("k", 8)])  rfl sc__law_world.nd (pi_range1 (by rfl) B.range (pa_cons (pv 6) pa_nil)) (blkOk_by (own := [("k", 8)]) (N := ["script", "stream", "horizon", "satellites", "stations", "recordings", "passes", "world", "k"]) (sc := defScope s__law_world) (by decide +kernel)) (fun _ _ _ _ _ => pg_name (i := 8) sc__law_world.nd rfl (Or.inl rfl)) (fun _ _ _ _ _ => pts_nil) (fun _ _ _ _ _ => (pe_f D_law_pass (hr.mono (by omega)) pass0 (pa_cons (pv 1) (pa_cons (pv 8) (pa_cons (pv 3) (pa_cons (pv 4) (pa_cons (pv 2) pa_nil)))))))) rfl)
  (pss_one (ps_ret (pv 7))))))))))))))))
    , ?_⟩
  refine ⟨_, rfl, a, ns, 0, 24, rfl, hS, by decide, by decide, by decide, fun st H1 hs1 _ hst => ?_⟩
  refine ⟨_, rfl, st, 41, rfl, by decide, hst, fun h0 h00 h01 => ⟨_, _, rfl, rfl, ?_⟩⟩
  refine ⟨fun σ' H' => H' = H1 ∧ ∃ h : Int, 1 ≤ h ∧ h ≤ 80 ∧ σ' = [some (.ref a), some (.ref st), some (.int h), none, none, none, none, none, none], ?_, fun σ' H' hm => ?_⟩
  · refine ⟨_, rfl, st, 8, rfl, by decide, hst, fun v v0 v1 => ⟨rfl, _, rfl, ite2 (fun c => ?_) (fun c => ?_)⟩⟩
    · exact ⟨_, rfl, st, 30, rfl, by decide, hst, fun u u0 u1 => ⟨_, _, rfl, rfl, rfl, 1 + u, by (clear B D_law_stream D_law_next D_law_word D_law_satellite D_law_recording D_law_pass hr hS q hs1 hst h00 h01 v0 v1 c; omega), by (clear B D_law_stream D_law_next D_law_word D_law_satellite D_law_recording D_law_pass hr hS q hs1 hst h00 h01 v0 v1 c; omega), rfl⟩⟩
    · exact ⟨rfl, 40 + h0, by omega, by omega, rfl⟩
  obtain ⟨rfl, h, h1, h80, rfl⟩ := hm
  refine ⟨_, rfl, st, 9, rfl, by decide, hst, fun v v0 v1 => ⟨_, _, rfl, rfl, ⟨by decide, by decide⟩, _, _, rfl, rfl, (by show (0 : Int) < 3; decide), _, rfl, st, 6, rfl, by decide, hst, fun u u0 u1 => ⟨_, _, rfl, rfl, .inr ⟨_, rfl, _, _, rfl, rfl, ?_⟩⟩⟩⟩
  obtain ⟨n0, en0⟩ : ∃ z : Int, v / 3 % 3 + (if decide (0 < u) = true then 1 else 0) = z := ⟨_, rfl⟩
  have bn0 : 0 ≤ n0 ∧ n0 ≤ 3 := by
    rw [← en0]
    split <;> omega
  refine ⟨_, rfl, st, 3, rfl, by decide, hst, fun t t0 t1 => ⟨_, _, rfl, rfl, ⟨by decide, by decide⟩, _, _, rfl, rfl, ?_⟩⟩
  refine ⟨_, rfl, st, 6, rfl, by decide, hst, fun r r0 r1 => ?_⟩
  refine ⟨_, rfl, st, 6, rfl, by decide, hst, fun p p0 p1 => ?_⟩
  refine ⟨_, rfl, _, _, rfl, ?_⟩
  obtain ⟨n, en⟩ : ∃ z : Int, (if v / 3 % 3 + (if decide (0 < u) = true then 1 else 0) < 3 then v / 3 % 3 + (if decide (0 < u) = true then 1 else 0) else 3) = z := ⟨_, rfl⟩
  have bn : 0 ≤ n ∧ n ≤ 3 := by
    rw [← en, en0]
    split <;> omega
  refine ⟨fun σ' H2 => H2 = H' ∧ ∃ r p : Int, 0 ≤ r ∧ r < 6 ∧ 0 ≤ p ∧ p < 6 ∧ (n = 0 → r = 0 ∧ p = 0) ∧ σ' = [some (.ref a), some (.ref st), some (.int h), some (.int n), some (.int (1 + t / 2)), some (.int r), some (.int p), none, none], ?_, fun σ' H2 hm => ?_⟩
  · refine ⟨_, rfl, rfl, _, rfl, ite2 (fun c => ?_) (fun c => ?_)⟩
    · refine ⟨rfl, 0, 0, by (clear B D_law_stream D_law_next D_law_word D_law_satellite D_law_recording D_law_pass hr hS q h00 h01 hs1 hst h1 h80 v0 v1 u0 u1 en0 bn0 t0 t1 r0 r1 p0 p1 en bn c; omega), by (clear B D_law_stream D_law_next D_law_word D_law_satellite D_law_recording D_law_pass hr hS q h00 h01 hs1 hst h1 h80 v0 v1 u0 u1 en0 bn0 t0 t1 r0 r1 p0 p1 en bn c; omega), by (clear B D_law_stream D_law_next D_law_word D_law_satellite D_law_recording D_law_pass hr hS q h00 h01 hs1 hst h1 h80 v0 v1 u0 u1 en0 bn0 t0 t1 r0 r1 p0 p1 en bn c; omega), by (clear B D_law_stream D_law_next D_law_word D_law_satellite D_law_recording D_law_pass hr hS q h00 h01 hs1 hst h1 h80 v0 v1 u0 u1 en0 bn0 t0 t1 r0 r1 p0 p1 en bn c; omega), fun _ => ⟨rfl, rfl⟩, ?_⟩
      rw [← en]
      rfl
    · refine ⟨rfl, r, p, by omega, by omega, by omega, by omega, fun z => absurd ?_ c, ?_⟩
      · refine decide_eq_true ?_
        show V.int (if v / 3 % 3 + (if decide (0 < u) = true then 1 else 0) < 3 then v / 3 % 3 + (if decide (0 < u) = true then 1 else 0) else 3) = V.int 0
        rw [en, z]
      · rw [← en]
        rfl
  clear en en0 bn0
  obtain ⟨rfl, r, p, r0, r1, p0, p1, hzero, rfl⟩ := hm
  -- the dict
  refine fun wd hwd => ⟨_, rfl, Nat.zero_le _, fun l1 hl1 => ⟨Nat.zero_le _, fun l2 hl2 => ⟨Nat.zero_le _, fun l3 hl3 => ⟨Nat.zero_le _, fun l4 hl4 => ?_⟩⟩⟩⟩
  have g1 := same_new hl1 (.lst [])
  have g2 := same_new hl2 (.lst [])
  have g3 := same_new hl3 (.lst [])
  have g4 := same_new hl4 (.lst [])
  have gA := g1.trans (g2.trans (g3.trans g4))
  refine ⟨gA _ _ upd_same, wdK h l1 l2 l3 l4, rfl, by show 5 ≤ 15; decide, ?_⟩
  rw [wd_merge]
  have s3 : Same H2 (upd (upd (upd (upd (upd (upd H2 wd (.dK [])) l1 (.lst [])) l2 (.lst [])) l3 (.lst [])) l4 (.lst [])) wd (.dK (wdK h l1 l2 l3 l4))) := same_at hwd ((same_new hwd _).trans gA) _
  have w3 : (upd (upd (upd (upd (upd (upd H2 wd (.dK [])) l1 (.lst [])) l2 (.lst [])) l3 (.lst [])) l4 (.lst [])) wd (.dK (wdK h l1 l2 l3 l4))) wd = some (.dK (wdK h l1 l2 l3 l4)) := upd_same
  generalize (upd (upd (upd (upd (upd (upd H2 wd (.dK [])) l1 (.lst [])) l2 (.lst [])) l3 (.lst [])) l4 (.lst [])) wd (.dK (wdK h l1 l2 l3 l4))) = H3 at s3 w3
  have hwd0 : H wd = none := hs1.free hwd
  -- satellites
  refine ⟨_, rfl, n, rfl, by (clear B D_law_stream D_law_next D_law_word D_law_satellite D_law_recording D_law_pass hr hS q h00 h01 h1 h80 v0 v1 u0 u1 t0 t1 hs1 hst r0 r1 p0 p1 hzero hwd hl1 hl2 hl3 hl4 g1 g2 g3 g4 gA s3 w3 hwd0; omega), by (clear B D_law_stream D_law_next D_law_word D_law_satellite D_law_recording D_law_pass hr hS q h00 h01 h1 h80 v0 v1 u0 u1 t0 t1 hs1 hst r0 r1 p0 p1 hzero hwd hl1 hl2 hl3 hl4 g1 g2 g3 g4 gA s3 w3 hwd0; omega), fun D1 hD1 => ?_⟩
  refine lc_range (lo := 0) (n := n.toNat) (fun i H' => ∃ (S : List SatD) (xs : List V), S.length = i ∧ H' D1 = some (.lst xs) ∧ xs.length = i ∧ DpAll K H' xs (S.map satPy) ∧ (∀ s ∈ S, SatOk h s ∧ s.level ≤ 1000) ∧ NamedBy (·.name) S ∧ Same H3 H')
    ⟨[], [], rfl, upd_same, rfl, .nil, fun _ z => absurd z List.not_mem_nil, fun i s z => by simp at z, same_new hD1 _⟩ (fun i H' hi hI => ?_) (fun H4 hI => ?_)
  · obtain ⟨S, xs, hl, hDD, hxl, hdp, hok, hnm, hs⟩ := hI
    refine ⟨rfl, _, rfl, _, rfl, _, rfl, st, i, h, by rw [Int.zero_add]; rfl, by (clear B D_law_stream D_law_next D_law_word D_law_satellite D_law_recording D_law_pass hr hS q h00 h01 h1 h80 v0 v1 u0 u1 t0 t1 hs1 hst r0 r1 p0 p1 hzero hwd hl1 hl2 hl3 hl4 g1 g2 g3 g4 gA s3 w3 hwd0 hD1 hDD hdp hok hnm hs; omega), h1, h80, hst.same (s3.trans hs), fun x s H5 s5 ok5 nm5 dp5 lv5 => ?_⟩
    have d5 := s5 _ _ hDD
    refine ⟨xs, d5, by rw [hxl]; exact small1000 (by (clear B D_law_stream D_law_next D_law_word D_law_satellite D_law_recording D_law_pass hr hS q h00 h01 h1 h80 v0 v1 u0 u1 t0 t1 hs1 hst r0 r1 p0 p1 hzero hwd hl1 hl2 hl3 hl4 g1 g2 g3 g4 gA s3 w3 hwd0 hD1 hDD hdp hok hnm hs s5 ok5 nm5 dp5 lv5 d5; omega)), S ++ [s], xs ++ [x], by rw [List.length_append, hl, List.length_singleton], upd_same, by rw [List.length_append, hxl, List.length_singleton], ?_, all_snoc hok ⟨ok5, lv5⟩, hnm.snoc (by rw [hl]; exact nm5), same_at hD1 (hs.trans s5) _⟩
    rw [List.map_append]
    exact dpAll_snoc (dpTs_up (noLs_sat S) d5 (dpAll_same s5 hdp)) (dpT_up (noL_sat s) d5 dp5)
  obtain ⟨S, xa, lS, dS, _, pS, okS, nmS, sS⟩ := hI
  have w4 := sS _ _ w3
  have n1 : D1 ≠ wd := ne_of dS w4 (fun z => nomatch z)
  refine ⟨_, rfl, wd, _, rfl, DPut.k (k := Sum.inr "satellites") w4 (by show 5 < sizeLine; decide), ?_⟩
  rw [wd_putS]
  have s5 : Same H2 (upd H4 wd (.dK (wdK h D1 l2 l3 l4))) := same_at hwd (s3.trans sS) _
  have w5 : (upd H4 wd (.dK (wdK h D1 l2 l3 l4))) wd = some (.dK (wdK h D1 l2 l3 l4)) := upd_same
  have a5 : (upd H4 wd (.dK (wdK h D1 l2 l3 l4))) D1 = some (.lst xa) := by rw [upd_ne n1]; exact dS
  have p5 : DpAll K (upd H4 wd (.dK (wdK h D1 l2 l3 l4))) xa (S.map satPy) := dpTs_upK (noLs_sat S) w4 pS
  generalize (upd H4 wd (.dK (wdK h D1 l2 l3 l4))) = H5 at s5 w5 a5 p5
  -- stations
  refine ⟨_, rfl, 1 + t / 2, rfl, by (clear B D_law_stream D_law_next D_law_word D_law_satellite D_law_recording D_law_pass hr hS q h00 h01 h1 h80 v0 v1 u0 u1 bn hs1 hst r0 r1 p0 p1 hzero hwd hl1 hl2 hl3 hl4 g1 g2 g3 g4 gA s3 w3 hwd0 hD1 lS dS pS okS nmS sS w4 n1 s5 w5 a5 p5; omega), by (clear B D_law_stream D_law_next D_law_word D_law_satellite D_law_recording D_law_pass hr hS q h00 h01 h1 h80 v0 v1 u0 u1 bn hs1 hst r0 r1 p0 p1 hzero hwd hl1 hl2 hl3 hl4 g1 g2 g3 g4 gA s3 w3 hwd0 hD1 lS dS pS okS nmS sS w4 n1 s5 w5 a5 p5; omega), fun D2 hD2 => ?_⟩
  refine lc_range (lo := 0) (n := (1 + t / 2).toNat) (fun i H' => ∃ (T : List StaD) (xs : List V), T.length = i ∧ H' D2 = some (.lst xs) ∧ xs.length = i ∧ DpAll K H' xs (T.map staPy) ∧ (∀ s ∈ T, StaOk s) ∧ NamedBy (·.name) T ∧ Same H5 H')
    ⟨[], [], rfl, upd_same, rfl, .nil, fun _ z => absurd z List.not_mem_nil, fun i s z => by simp at z, same_new hD2 _⟩ (fun i H' hi hI => ?_) (fun H6 hI => ?_)
  · obtain ⟨T, xs, hl, hDD, hxl, hdp, hok, hnm, hs⟩ := hI
    refine ⟨rfl, _, rfl, _, rfl, st, i, by rw [Int.zero_add]; rfl, by (clear B D_law_stream D_law_next D_law_word D_law_satellite D_law_recording D_law_pass hr hS q h00 h01 h1 h80 v0 v1 u0 u1 bn hs1 hst r0 r1 p0 p1 hzero hwd hl1 hl2 hl3 hl4 g1 g2 g3 g4 gA s3 w3 hwd0 hD1 lS dS pS okS nmS sS w4 n1 s5 w5 a5 p5 hD2 hDD hdp hok hnm hs; omega), hst.same (s5.trans hs), fun u H7 s7 nm7 => ?_⟩
    have hst7 := hst.same (s5.trans (hs.trans s7))
    refine ⟨_, rfl, st, 4, rfl, by decide, hst7, fun an an0 an1 => ⟨_, _, rfl, rfl, ⟨by decide, by decide⟩, _, _, rfl, rfl, _, rfl, st, 7, rfl, by decide, hst7, fun tu tu0 tu1 => ⟨sz3, fun x hx => ?_⟩⟩⟩
    have s8 := same_new hx (.tup [.str u, .int (1 + an / 3), .int tu])
    have d7 := s8 _ _ (s7 _ _ hDD)
    refine ⟨xs, d7, by rw [hxl]; exact small1000 (by (clear B D_law_stream D_law_next D_law_word D_law_satellite D_law_recording D_law_pass hr hS q h00 h01 h1 h80 v0 v1 u0 u1 bn hs1 hst r0 r1 p0 p1 hzero hwd hl1 hl2 hl3 hl4 g1 g2 g3 g4 gA s3 w3 hwd0 hD1 lS dS pS okS nmS sS w4 n1 s5 w5 a5 p5 hD2 hDD hdp hok hnm hs s7 nm7 hst7 an0 an1 tu0 tu1 hx s8 d7; omega)), T ++ [⟨u, 1 + an / 3, tu⟩], xs ++ [.ref x], by rw [List.length_append, hl, List.length_singleton], upd_same, by rw [List.length_append, hxl, List.length_singleton], ?_, all_snoc hok ⟨nm7.ok, by show 1 ≤ 1 + an / 3 ∧ 1 + an / 3 ≤ 3; (clear B D_law_stream D_law_next D_law_word D_law_satellite D_law_recording D_law_pass hr hS q h00 h01 h1 h80 v0 v1 u0 u1 t0 t1 bn hs1 hst r0 r1 p0 p1 hzero hwd hl1 hl2 hl3 hl4 g1 g2 g3 g4 gA s3 w3 hwd0 hD1 lS dS pS okS nmS sS w4 n1 s5 w5 a5 p5 hD2 hi hl hDD hxl hdp hok hnm hs s7 nm7 hst7 tu0 tu1 hx s8 d7; omega), by show 0 ≤ tu ∧ tu ≤ 60; (clear B D_law_stream D_law_next D_law_word D_law_satellite D_law_recording D_law_pass hr hS q h00 h01 h1 h80 v0 v1 u0 u1 t0 t1 bn hs1 hst r0 r1 p0 p1 hzero hwd hl1 hl2 hl3 hl4 g1 g2 g3 g4 gA s3 w3 hwd0 hD1 lS dS pS okS nmS sS w4 n1 s5 w5 a5 p5 hD2 hi hl hDD hxl hdp hok hnm hs s7 nm7 hst7 an0 an1 hx s8 d7; omega)⟩, hnm.snoc (by rw [hl]; exact nm7), same_at hD2 (hs.trans (s7.trans s8)) _⟩
    rw [List.map_append]
    exact dpAll_snoc (dpTs_up (noLs_sta T) d7 (dpAll_same s8 (dpAll_same s7 hdp))) (dpT_up (noL_sta _) d7 (.tup (SqT.of upd_same) (.cons (.str _) (.cons (.int _) (.cons (.int _) .nil)))))
  obtain ⟨T, xb, lT, dT, _, pT, okT, nmT, sT⟩ := hI
  have w6 := sT _ _ w5
  have n2 : D2 ≠ wd := ne_of dT w6 (fun z => nomatch z)
  refine ⟨_, rfl, wd, _, rfl, DPut.k (k := Sum.inr "stations") w6 (by show 5 < sizeLine; decide), ?_⟩
  rw [wd_putT]
  have s7 : Same H2 (upd H6 wd (.dK (wdK h D1 D2 l3 l4))) := same_at hwd (s5.trans sT) _
  have w7 : (upd H6 wd (.dK (wdK h D1 D2 l3 l4))) wd = some (.dK (wdK h D1 D2 l3 l4)) := upd_same
  have a7 : (upd H6 wd (.dK (wdK h D1 D2 l3 l4))) D1 = some (.lst xa) := by rw [upd_ne n1]; exact sT _ _ a5
  have p7 : DpAll K (upd H6 wd (.dK (wdK h D1 D2 l3 l4))) xa (S.map satPy) := dpTs_upK (noLs_sat S) w6 (dpAll_same sT p5)
  have b7 : (upd H6 wd (.dK (wdK h D1 D2 l3 l4))) D2 = some (.lst xb) := by rw [upd_ne n2]; exact dT
  have q7 : DpAll K (upd H6 wd (.dK (wdK h D1 D2 l3 l4))) xb (T.map staPy) := dpTs_upK (noLs_sta T) w6 pT
  generalize (upd H6 wd (.dK (wdK h D1 D2 l3 l4))) = H7 at s7 w7 a7 p7 b7 q7
  -- recordings
  refine ⟨_, rfl, r, rfl, by (clear B D_law_stream D_law_next D_law_word D_law_satellite D_law_recording D_law_pass hr hS q h00 h01 h1 h80 v0 v1 u0 u1 t0 t1 bn hs1 hst p0 p1 hzero hwd hl1 hl2 hl3 hl4 g1 g2 g3 g4 gA s3 w3 hwd0 hD1 lS dS pS okS nmS sS w4 n1 s5 w5 a5 p5 hD2 lT dT pT okT nmT sT w6 n2 s7 w7 a7 p7 b7 q7; omega), by (clear B D_law_stream D_law_next D_law_word D_law_satellite D_law_recording D_law_pass hr hS q h00 h01 h1 h80 v0 v1 u0 u1 t0 t1 bn hs1 hst p0 p1 hzero hwd hl1 hl2 hl3 hl4 g1 g2 g3 g4 gA s3 w3 hwd0 hD1 lS dS pS okS nmS sS w4 n1 s5 w5 a5 p5 hD2 lT dT pT okT nmT sT w6 n2 s7 w7 a7 p7 b7 q7; omega), fun D3 hD3 => ?_⟩
  refine lc_range (lo := 0) (n := r.toNat) (fun i H' => ∃ (R : List RecD) (xs : List V), R.length = i ∧ H' D3 = some (.lst xs) ∧ xs.length = i ∧ DpAll K H' xs (R.map recPy) ∧ (∀ s ∈ R, ∀ W : WorldD, W.sats.length = n.toNat → W.horizon = h → RecOk W s) ∧ NamedBy (·.name) R ∧ Same H7 H')
    ⟨[], [], rfl, upd_same, rfl, .nil, fun _ z => absurd z List.not_mem_nil, fun i s z => by simp at z, same_new hD3 _⟩ (fun i H' hi hI => ?_) (fun H8 hI => ?_)
  · obtain ⟨R, xs, hl, hDD, hxl, hdp, hok, hnm, hs⟩ := hI
    have npos : 0 < n.toNat := by
      by_cases c : n = 0
      · have := (hzero c).1
        (clear B D_law_stream D_law_next D_law_word D_law_satellite D_law_recording D_law_pass hr hS q h00 h01 h1 h80 v0 v1 u0 u1 t0 t1 bn hs1 hst r0 r1 p0 p1 hzero hwd hl1 hl2 hl3 hl4 g1 g2 g3 g4 gA s3 w3 hwd0 hD1 lS dS pS okS nmS sS w4 n1 s5 w5 a5 p5 hD2 lT dT pT okT nmT sT w6 n2 s7 w7 a7 p7 b7 q7 hD3 hDD hdp hok hnm hs c; omega)
      · (clear B D_law_stream D_law_next D_law_word D_law_satellite D_law_recording D_law_pass hr hS q h00 h01 h1 h80 v0 v1 u0 u1 hs1 hst r0 r1 p0 p1 hzero hwd hl1 hl2 hl3 hl4 g1 g2 g3 g4 gA s3 w3 hwd0 hD1 dS pS okS nmS sS w4 n1 s5 w5 a5 p5 hD2 lT dT pT okT nmT sT w6 n2 s7 w7 a7 p7 b7 q7 hD3 hDD hdp hok hnm hs; omega)
    refine ⟨rfl, _, rfl, _, rfl, _, rfl, _, rfl, st, i, n.toNat, h, by rw [Int.zero_add, show ((n.toNat : Nat) : Int) = n by (clear B D_law_stream D_law_next D_law_word D_law_satellite D_law_recording D_law_pass hr hS q h00 h01 h1 h80 v0 v1 u0 u1 hs1 hst r0 r1 p0 p1 hzero hwd hl1 hl2 hl3 hl4 g1 g2 g3 g4 gA s3 w3 hwd0 hD1 lS dS pS okS nmS sS w4 n1 s5 w5 a5 p5 hD2 lT dT pT okT nmT sT w6 n2 s7 w7 a7 p7 b7 q7 hD3 hDD hdp hok hnm hs; omega)]; rfl, by (clear B D_law_stream D_law_next D_law_word D_law_satellite D_law_recording D_law_pass hr hS q h00 h01 h1 h80 v0 v1 u0 u1 t0 t1 bn hs1 hst p0 p1 hzero hwd hl1 hl2 hl3 hl4 g1 g2 g3 g4 gA s3 w3 hwd0 hD1 lS dS pS okS nmS sS w4 n1 s5 w5 a5 p5 hD2 lT dT pT okT nmT sT w6 n2 s7 w7 a7 p7 b7 q7 hD3 hDD hdp hok hnm hs npos; omega), npos, h1, h80, hst.same (s7.trans hs), fun x s H9 s9 ok9 nm9 dp9 => ?_⟩
    have d9 := s9 _ _ hDD
    refine ⟨xs, d9, by rw [hxl]; exact small1000 (by (clear B D_law_stream D_law_next D_law_word D_law_satellite D_law_recording D_law_pass hr hS q h00 h01 h1 h80 v0 v1 u0 u1 t0 t1 bn hs1 hst p0 p1 hzero hwd hl1 hl2 hl3 hl4 g1 g2 g3 g4 gA s3 w3 hwd0 hD1 lS dS pS okS nmS sS w4 n1 s5 w5 a5 p5 hD2 lT dT pT okT nmT sT w6 n2 s7 w7 a7 p7 b7 q7 hD3 hDD hdp hok hnm hs npos s9 ok9 nm9 dp9 d9; omega)), R ++ [s], xs ++ [x], by rw [List.length_append, hl, List.length_singleton], upd_same, by rw [List.length_append, hxl, List.length_singleton], ?_, all_snoc hok ok9, hnm.snoc (by rw [hl]; exact nm9), same_at hD3 (hs.trans s9) _⟩
    rw [List.map_append]
    exact dpAll_snoc (dpTs_up (noLs_rec R) d9 (dpAll_same s9 hdp)) (dpT_up (noL_rec s) d9 dp9)
  obtain ⟨R, xc, lR, dR, _, pR, okR, nmR, sR⟩ := hI
  have w8 := sR _ _ w7
  have n3 : D3 ≠ wd := ne_of dR w8 (fun z => nomatch z)
  refine ⟨_, rfl, wd, _, rfl, DPut.k (k := Sum.inr "recordings") w8 (by show 5 < sizeLine; decide), ?_⟩
  rw [wd_putR]
  have s9 : Same H2 (upd H8 wd (.dK (wdK h D1 D2 D3 l4))) := same_at hwd (s7.trans sR) _
  have w9 : (upd H8 wd (.dK (wdK h D1 D2 D3 l4))) wd = some (.dK (wdK h D1 D2 D3 l4)) := upd_same
  have a9 : (upd H8 wd (.dK (wdK h D1 D2 D3 l4))) D1 = some (.lst xa) := by rw [upd_ne n1]; exact sR _ _ a7
  have p9 : DpAll K (upd H8 wd (.dK (wdK h D1 D2 D3 l4))) xa (S.map satPy) := dpTs_upK (noLs_sat S) w8 (dpAll_same sR p7)
  have b9 : (upd H8 wd (.dK (wdK h D1 D2 D3 l4))) D2 = some (.lst xb) := by rw [upd_ne n2]; exact sR _ _ b7
  have q9 : DpAll K (upd H8 wd (.dK (wdK h D1 D2 D3 l4))) xb (T.map staPy) := dpTs_upK (noLs_sta T) w8 (dpAll_same sR q7)
  have c9 : (upd H8 wd (.dK (wdK h D1 D2 D3 l4))) D3 = some (.lst xc) := by rw [upd_ne n3]; exact dR
  have r9 : DpAll K (upd H8 wd (.dK (wdK h D1 D2 D3 l4))) xc (R.map recPy) := dpTs_upK (noLs_rec R) w8 pR
  generalize (upd H8 wd (.dK (wdK h D1 D2 D3 l4))) = H9 at s9 w9 a9 p9 b9 q9 c9 r9
  -- passes
  refine ⟨_, rfl, p, rfl, by (clear B D_law_stream D_law_next D_law_word D_law_satellite D_law_recording D_law_pass hr hS q h00 h01 h1 h80 v0 v1 u0 u1 t0 t1 bn hs1 hst r0 r1 hzero hwd hl1 hl2 hl3 hl4 g1 g2 g3 g4 gA s3 w3 hwd0 hD1 lS dS pS okS nmS sS w4 n1 s5 w5 a5 p5 hD2 lT dT pT okT nmT sT w6 n2 s7 w7 a7 p7 b7 q7 hD3 lR dR pR okR nmR sR w8 n3 s9 w9 a9 p9 b9 q9 c9 r9; omega), by (clear B D_law_stream D_law_next D_law_word D_law_satellite D_law_recording D_law_pass hr hS q h00 h01 h1 h80 v0 v1 u0 u1 t0 t1 bn hs1 hst r0 r1 hzero hwd hl1 hl2 hl3 hl4 g1 g2 g3 g4 gA s3 w3 hwd0 hD1 lS dS pS okS nmS sS w4 n1 s5 w5 a5 p5 hD2 lT dT pT okT nmT sT w6 n2 s7 w7 a7 p7 b7 q7 hD3 lR dR pR okR nmR sR w8 n3 s9 w9 a9 p9 b9 q9 c9 r9; omega), fun D4 hD4 => ?_⟩
  refine lc_range (lo := 0) (n := p.toNat) (fun i H' => ∃ (R : List PasD) (xs : List V), R.length = i ∧ H' D4 = some (.lst xs) ∧ xs.length = i ∧ DpAll K H' xs (R.map pasPy) ∧ (∀ s ∈ R, ∀ W : WorldD, W.sats.length = n.toNat → W.stas.length = (1 + t / 2).toNat → W.horizon = h → PasOk W s) ∧ NamedBy (·.name) R ∧ Same H9 H')
    ⟨[], [], rfl, upd_same, rfl, .nil, fun _ z => absurd z List.not_mem_nil, fun i s z => by simp at z, same_new hD4 _⟩ (fun i H' hi hI => ?_) (fun HA hI => ?_)
  · obtain ⟨R, xs, hl, hDD, hxl, hdp, hok, hnm, hs⟩ := hI
    have npos : 0 < n.toNat := by
      by_cases c : n = 0
      · have := (hzero c).2
        (clear B D_law_stream D_law_next D_law_word D_law_satellite D_law_recording D_law_pass hr hS q h00 h01 h1 h80 v0 v1 u0 u1 t0 t1 bn hs1 hst r0 r1 p0 p1 hzero hwd hl1 hl2 hl3 hl4 g1 g2 g3 g4 gA s3 w3 hwd0 hD1 lS dS pS okS nmS sS w4 n1 s5 w5 a5 p5 hD2 lT dT pT okT nmT sT w6 n2 s7 w7 a7 p7 b7 q7 hD3 lR dR pR okR nmR sR w8 n3 s9 w9 a9 p9 b9 q9 c9 r9 hD4 hDD hdp hok hnm hs c; omega)
      · (clear B D_law_stream D_law_next D_law_word D_law_satellite D_law_recording D_law_pass hr hS q h00 h01 h1 h80 v0 v1 u0 u1 hs1 hst r0 r1 p0 p1 hzero hwd hl1 hl2 hl3 hl4 g1 g2 g3 g4 gA s3 w3 hwd0 hD1 dS pS okS nmS sS w4 n1 s5 w5 a5 p5 hD2 lT dT pT okT nmT sT w6 n2 s7 w7 a7 p7 b7 q7 hD3 lR dR pR okR nmR sR w8 n3 s9 w9 a9 p9 b9 q9 c9 r9 hD4 hDD hdp hok hnm hs; omega)
    refine ⟨rfl, _, rfl, _, rfl, _, rfl, _, rfl, _, rfl, st, i, n.toNat, (1 + t / 2).toNat, h, by rw [Int.zero_add, show ((n.toNat : Nat) : Int) = n by (clear B D_law_stream D_law_next D_law_word D_law_satellite D_law_recording D_law_pass hr hS q h00 h01 h1 h80 v0 v1 u0 u1 hs1 hst r0 r1 p0 p1 hzero hwd hl1 hl2 hl3 hl4 g1 g2 g3 g4 gA s3 w3 hwd0 hD1 lS dS pS okS nmS sS w4 n1 s5 w5 a5 p5 hD2 lT dT pT okT nmT sT w6 n2 s7 w7 a7 p7 b7 q7 hD3 lR dR pR okR nmR sR w8 n3 s9 w9 a9 p9 b9 q9 c9 r9 hD4 hDD hdp hok hnm hs; omega), show (((1 + t / 2).toNat : Nat) : Int) = 1 + t / 2 by (clear B D_law_stream D_law_next D_law_word D_law_satellite D_law_recording D_law_pass hr hS q h00 h01 h1 h80 v0 v1 u0 u1 bn hs1 hst r0 r1 p0 p1 hzero hwd hl1 hl2 hl3 hl4 g1 g2 g3 g4 gA s3 w3 hwd0 hD1 lS dS pS okS nmS sS w4 n1 s5 w5 a5 p5 hD2 lT dT pT okT nmT sT w6 n2 s7 w7 a7 p7 b7 q7 hD3 lR dR pR okR nmR sR w8 n3 s9 w9 a9 p9 b9 q9 c9 r9 hD4 hDD hdp hok hnm hs npos; omega)]; rfl, by (clear B D_law_stream D_law_next D_law_word D_law_satellite D_law_recording D_law_pass hr hS q h00 h01 h1 h80 v0 v1 u0 u1 t0 t1 bn hs1 hst r0 r1 hzero hwd hl1 hl2 hl3 hl4 g1 g2 g3 g4 gA s3 w3 hwd0 hD1 lS dS pS okS nmS sS w4 n1 s5 w5 a5 p5 hD2 lT dT pT okT nmT sT w6 n2 s7 w7 a7 p7 b7 q7 hD3 lR dR pR okR nmR sR w8 n3 s9 w9 a9 p9 b9 q9 c9 r9 hD4 hDD hdp hok hnm hs npos; omega), npos, by (clear B D_law_stream D_law_next D_law_word D_law_satellite D_law_recording D_law_pass hr hS q h00 h01 h1 h80 v0 v1 u0 u1 bn hs1 hst r0 r1 p0 p1 hzero hwd hl1 hl2 hl3 hl4 g1 g2 g3 g4 gA s3 w3 hwd0 hD1 lS dS pS okS nmS sS w4 n1 s5 w5 a5 p5 hD2 dT pT okT nmT sT w6 n2 s7 w7 a7 p7 b7 q7 hD3 lR dR pR okR nmR sR w8 n3 s9 w9 a9 p9 b9 q9 c9 r9 hD4 hDD hdp hok hnm hs npos; omega), h1, h80, hst.same (s9.trans hs), fun x s HB sB okB nmB dpB => ?_⟩
    have dB := sB _ _ hDD
    refine ⟨xs, dB, by rw [hxl]; exact small1000 (by (clear B D_law_stream D_law_next D_law_word D_law_satellite D_law_recording D_law_pass hr hS q h00 h01 h1 h80 v0 v1 u0 u1 t0 t1 bn hs1 hst r0 r1 hzero hwd hl1 hl2 hl3 hl4 g1 g2 g3 g4 gA s3 w3 hwd0 hD1 lS dS pS okS nmS sS w4 n1 s5 w5 a5 p5 hD2 lT dT pT okT nmT sT w6 n2 s7 w7 a7 p7 b7 q7 hD3 lR dR pR okR nmR sR w8 n3 s9 w9 a9 p9 b9 q9 c9 r9 hD4 hDD hdp hok hnm hs npos sB okB nmB dpB dB; omega)), R ++ [s], xs ++ [x], by rw [List.length_append, hl, List.length_singleton], upd_same, by rw [List.length_append, hxl, List.length_singleton], ?_, all_snoc hok okB, hnm.snoc (by rw [hl]; exact nmB), same_at hD4 (hs.trans sB) _⟩
    rw [List.map_append]
    exact dpAll_snoc (dpTs_up (noLs_pas R) dB (dpAll_same sB hdp)) (dpT_up (noL_pas s) dB dpB)
  obtain ⟨Q4, xd, lP, dP, _, pP, okP, nmP, sP⟩ := hI
  have wA := sP _ _ w9
  have n4 : D4 ≠ wd := ne_of dP wA (fun z => nomatch z)
  refine ⟨_, rfl, wd, _, rfl, DPut.k (k := Sum.inr "passes") wA (by show 5 < sizeLine; decide), ?_⟩
  rw [wd_putP]
  have sB : Same H2 (upd HA wd (.dK (wdK h D1 D2 D3 D4))) := same_at hwd (s9.trans sP) _
  refine ⟨_, rfl, q wd _ ⟨h, S, T, R, Q4⟩ hwd0 (hs1.trans sB) ⟨⟨⟨h1, by show h ≤ 500; (clear B D_law_stream D_law_next D_law_word D_law_satellite D_law_recording D_law_pass hr hS q h00 h01 v0 v1 u0 u1 t0 t1 bn hs1 hst r0 r1 p0 p1 hzero hwd hl1 hl2 hl3 hl4 g1 g2 g3 g4 gA s3 w3 hwd0 hD1 lS dS pS okS nmS sS w4 n1 s5 w5 a5 p5 hD2 lT dT pT okT nmT sT w6 n2 s7 w7 a7 p7 b7 q7 hD3 lR dR pR okR nmR sR w8 n3 s9 w9 a9 p9 b9 q9 c9 r9 hD4 lP dP pP okP nmP sP wA n4 sB; omega)⟩, by show S.length ≤ 3; (clear B D_law_stream D_law_next D_law_word D_law_satellite D_law_recording D_law_pass hr hS q h00 h01 h1 h80 v0 v1 u0 u1 hs1 hst r0 r1 p0 p1 hzero hwd hl1 hl2 hl3 hl4 g1 g2 g3 g4 gA s3 w3 hwd0 hD1 dS pS okS nmS sS w4 n1 s5 w5 a5 p5 hD2 lT dT pT okT nmT sT w6 n2 s7 w7 a7 p7 b7 q7 hD3 lR dR pR okR nmR sR w8 n3 s9 w9 a9 p9 b9 q9 c9 r9 hD4 lP dP pP okP nmP sP wA n4 sB; omega), by show T.length ≤ 3; (clear B D_law_stream D_law_next D_law_word D_law_satellite D_law_recording D_law_pass hr hS q h00 h01 h1 h80 v0 v1 u0 u1 bn hs1 hst r0 r1 p0 p1 hzero hwd hl1 hl2 hl3 hl4 g1 g2 g3 g4 gA s3 w3 hwd0 hD1 lS dS pS okS nmS sS w4 n1 s5 w5 a5 p5 hD2 dT pT okT nmT sT w6 n2 s7 w7 a7 p7 b7 q7 hD3 lR dR pR okR nmR sR w8 n3 s9 w9 a9 p9 b9 q9 c9 r9 hD4 lP dP pP okP nmP sP wA n4 sB; omega), by show R.length ≤ 10; (clear B D_law_stream D_law_next D_law_word D_law_satellite D_law_recording D_law_pass hr hS q h00 h01 h1 h80 v0 v1 u0 u1 t0 t1 bn hs1 hst p0 p1 hzero hwd hl1 hl2 hl3 hl4 g1 g2 g3 g4 gA s3 w3 hwd0 hD1 lS dS pS okS nmS sS w4 n1 s5 w5 a5 p5 hD2 lT dT pT okT nmT sT w6 n2 s7 w7 a7 p7 b7 q7 hD3 dR pR okR nmR sR w8 n3 s9 w9 a9 p9 b9 q9 c9 r9 hD4 lP dP pP okP nmP sP wA n4 sB; omega), by show Q4.length ≤ 10; (clear B D_law_stream D_law_next D_law_word D_law_satellite D_law_recording D_law_pass hr hS q h00 h01 h1 h80 v0 v1 u0 u1 t0 t1 bn hs1 hst r0 r1 hzero hwd hl1 hl2 hl3 hl4 g1 g2 g3 g4 gA s3 w3 hwd0 hD1 lS dS pS okS nmS sS w4 n1 s5 w5 a5 p5 hD2 lT dT pT okT nmT sT w6 n2 s7 w7 a7 p7 b7 q7 hD3 lR dR pR okR nmR sR w8 n3 s9 w9 a9 p9 b9 q9 c9 r9 hD4 dP pP okP nmP sP wA n4 sB; omega), nmS.nodup, nmT.nodup, nmR.nodup, nmP.nodup, fun s hs => (okS s hs).1, okT,
    fun s hs => okR s hs _ lS rfl, fun s hs => okP s hs _ lS lT rfl⟩, h80, by show R.length ≤ 5; (clear B D_law_stream D_law_next D_law_word D_law_satellite D_law_recording D_law_pass hr hS q h00 h01 h1 h80 v0 v1 u0 u1 t0 t1 bn hs1 hst p0 p1 hzero hwd hl1 hl2 hl3 hl4 g1 g2 g3 g4 gA s3 w3 hwd0 hD1 lS dS pS okS nmS sS w4 n1 s5 w5 a5 p5 hD2 lT dT pT okT nmT sT w6 n2 s7 w7 a7 p7 b7 q7 hD3 dR pR okR nmR sR w8 n3 s9 w9 a9 p9 b9 q9 c9 r9 hD4 lP dP pP okP nmP sP wA n4 sB; omega), by show Q4.length ≤ 5; (clear B D_law_stream D_law_next D_law_word D_law_satellite D_law_recording D_law_pass hr hS q h00 h01 h1 h80 v0 v1 u0 u1 t0 t1 bn hs1 hst r0 r1 hzero hwd hl1 hl2 hl3 hl4 g1 g2 g3 g4 gA s3 w3 hwd0 hD1 lS dS pS okS nmS sS w4 n1 s5 w5 a5 p5 hD2 lT dT pT okT nmT sT w6 n2 s7 w7 a7 p7 b7 q7 hD3 lR dR pR okR nmR sR w8 n3 s9 w9 a9 p9 b9 q9 c9 r9 hD4 dP pP okP nmP sP wA n4 sB; omega), by show 1 ≤ T.length; (clear B D_law_stream D_law_next D_law_word D_law_satellite D_law_recording D_law_pass hr hS q h00 h01 h1 h80 v0 v1 u0 u1 bn hs1 hst r0 r1 p0 p1 hzero hwd hl1 hl2 hl3 hl4 g1 g2 g3 g4 gA s3 w3 hwd0 hD1 lS dS pS okS nmS sS w4 n1 s5 w5 a5 p5 hD2 dT pT okT nmT sT w6 n2 s7 w7 a7 p7 b7 q7 hD3 lR dR pR okR nmR sR w8 n3 s9 w9 a9 p9 b9 q9 c9 r9 hD4 lP dP pP okP nmP sP wA n4 sB; omega), nmS, nmT, nmR, nmP, fun s hs => (okS s hs).2⟩ ⟨D1, D2, D3, D4, xa, xb, xc, xd, upd_same, ?_, ?_, ?_, ?_, ?_, ?_, ?_, ?_⟩⟩
  · rw [upd_ne n1]; exact sP _ _ a9
  · exact dpTs_upK (noLs_sat S) wA (dpAll_same sP p9)
  · rw [upd_ne n2]; exact sP _ _ b9
  · exact dpTs_upK (noLs_sta T) wA (dpAll_same sP q9)
  · rw [upd_ne n3]; exact sP _ _ c9
  · exact dpTs_upK (noLs_rec R) wA (dpAll_same sP r9)
  · rw [upd_ne n4]; exact dP
  · exact dpTs_upK (noLs_pas Q4) wA pP
end
end DP
namespace DP
open PySem PySem.Spec PyProof.Rows L2
abbrev s__law_is_integer : Stmt := topS 104
theorem sc__law_is_integer : FnScope ["actual"] ["actual"] (defScope s__law_is_integer) := ⟨rfl, rfl, rfl, by decide +kernel, rfl, by decide +kernel, by decide +kernel⟩
abbrev s__law_same : Stmt := topS 105
theorem sc__law_same : FnScope ["actual", "expected", "k"] ["actual", "expected"] (defScope s__law_same) := ⟨rfl, rfl, rfl, by decide +kernel, rfl, by decide +kernel, by decide +kernel⟩
/-- data of at most n layers, each of at most a thousand items -/
def Fit : Nat → PyData → Prop
  | 0, _ => False
  | _ + 1, .none => True
  | _ + 1, .bool _ => True
  | _ + 1, .int _ => True
  | _ + 1, .str _ => True
  | n + 1, .list ds => ds.length ≤ 1000 ∧ ∀ d ∈ ds, Fit n d
  | n + 1, .tuple ds => ds.length ≤ 1000 ∧ ∀ d ∈ ds, Fit n d
  | _ + 1, .dict _ => False
theorem dpAll_len {K : PySem.W.Frag} {H : Hp} : ∀ {xs : List V} {ds : List PyData}, DpAll K H xs ds → xs.length = ds.length
  | _, _, .nil => rfl
  | _, _, .cons _ t => by rw [List.length_cons, List.length_cons, dpAll_len t]
theorem dpAll_at {K : PySem.W.Frag} {H : Hp} : ∀ {xs : List V} {ds : List PyData} (i : Nat), DpAll K H xs ds → i < ds.length → ∃ x d, xs[i]? = some x ∧ ds[i]? = some d ∧ Dp K H x d
  | _, _, _, .nil, h => absurd h (Nat.not_lt_zero _)
  | _, _, 0, .cons (v := v) (d := d) a _, _ => ⟨v, d, rfl, rfl, a⟩
  | _, _, i + 1, .cons _ t, h => by
    obtain ⟨x, d, h1, h2, h3⟩ := dpAll_at i t (by rw [List.length_cons] at h; omega)
    exact ⟨x, d, by rw [List.getElem?_cons_succ]; exact h1, by rw [List.getElem?_cons_succ]; exact h2, h3⟩
theorem tyx_list {K : PySem.W.Frag} {H : Hp} {a : Addr} {xs : List V} (h : SqL K H a xs) : TyX K H (.ref a) (.type "list") := by
  rcases h with (h | ⟨o, h⟩) | ⟨o, _, _, h, c, _⟩
  · exact .base (.lst h)
  · exact .base (.frz h)
  · exact .kList h c
theorem tyx_tup {K : PySem.W.Frag} {H : Hp} {a : Addr} {xs : List V} (h : SqT K H a xs) : TyX K H (.ref a) (.type "tuple") := by
  rcases h with (h | ⟨o, h⟩) | ⟨o, _, _, h, c, _⟩
  · exact .base (.tup h)
  · exact .fTuple h
  · exact .kTuple h c
/-- the built-in class of data -/
def tyD : PyData → String
  | .none => "NoneType"
  | .bool _ => "bool"
  | .int _ => "int"
  | .str _ => "str"
  | .list _ => "list"
  | .tuple _ => "tuple"
  | .dict _ => "dict"
theorem tyx_d {K : PySem.W.Frag} {H : Hp} {x : V} {d : PyData} (h : Dp K H x d) : TyX K H x (.type (tyD d)) := by
  cases h with
  | non => exact .base .non
  | bl b => exact .base (.bl b)
  | int i => exact .base (.int i)
  | str x => exact .base (.str x)
  | lst h _ => exact tyx_list h
  | tup h _ => exact tyx_tup h
section
variable {P : Program} {w : World} {K : PySem.W.Frag} {mg : Str → Option Value} {base : Heap}
def spIsInt : Sp := fun vs H Q _ => ∃ i : Int, vs = [.int i] ∧ Q (.bl true) H
theorem d_is_integer (B : Bt mg) (A : At K mg "_law_is_integer" s__law_is_integer ["actual"]) : DefOk P w K mg base CX0 1 "_law_is_integer" ["actual"] spIsInt := by
  refine A.ok sc__law_is_integer (fun vs H Q E h => ?_) (fun f cdv A outer s H vs Q E hr h => ?_)
  · obtain ⟨i, rfl, _⟩ := h
    rfl
  obtain ⟨i, rfl, q⟩ := h
  refine ⟨_, pss_one (ps_ret (pe_and (pe_callB (call_isi) (by rfl) B.isinstance (by decide +kernel) (pa_cons (pv 0) (pa_cons (pe_bltn (v := .ty "int") (u := .type "int") (by rfl) B.int (by decide +kernel) rfl) pa_nil))) (pe_one (pe_not (pe_callB (call_isi) (by rfl) B.isinstance (by decide +kernel) (pa_cons (pv 0) (pa_cons (pe_bltn (v := .ty "bool") (u := .type "bool") (by rfl) B.bool (by decide +kernel) rfl) pa_nil)))))))
    , ?_⟩
  refine ⟨_, rfl, _, .ty "int", _, _, true, rfl, .ty "int", .base (.int i), kit_ty (by decide +kernel), true, rfl, iteT ?_⟩
  exact ⟨_, rfl, _, .ty "bool", _, _, false, rfl, .ty "bool", .base (.int i), kit_ty (by decide +kernel), false, rfl, q⟩
/-- two values that read as the same data of at most n layers -/
def spSame (K : PySem.W.Frag) (n : Nat) : Sp := fun vs H Q _ => ∃ (x y : V) (d : PyData), vs = [x, y] ∧ Fit n d ∧ Dp K H x d ∧ Dp K H y d ∧ Q (.bl true) H
theorem d_same1 {n : Nat} (B : Bt mg) (D_law_is_integer : DefOk P w K mg base CX0 1 "_law_is_integer" ["actual"] spIsInt) (D_law_same : DefOk P w K mg base CX0 (n + 1) "_law_same" ["actual", "expected"] (spSame K n))
    (A : At K mg "_law_same" s__law_same ["actual", "expected"]) : DefOk P w K mg base CX0 (n + 2) "_law_same" ["actual", "expected"] (spSame K (n + 1)) := by
  refine A.ok sc__law_same (fun vs H Q E h => ?_) (fun f cdv A outer s H vs Q E hr h => ?_)
  · obtain ⟨x, y, d, rfl, _⟩ := h
    rfl
  obtain ⟨x, y, d, rfl, fit, dx, dy, q⟩ := h
  refine ⟨_, pss_cons (ps_if (pt_cmpR op_isN (pv 1) pe_non (nomark _))
      (pss_one (ps_ret (pe_cmpR op_isN (pv 0) pe_non (nomark _))))
      (pss_nil))
  (pss_cons (ps_if (pt_val (pe_callB (call_isi) (by rfl) B.isinstance (by decide +kernel) (pa_cons (pv 1) (pa_cons (pe_bltn (v := .ty "bool") (u := .type "bool") (by rfl) B.bool (by decide +kernel) rfl) pa_nil))))
      (pss_one (ps_ret (pe_and (pe_callB (call_isi) (by rfl) B.isinstance (by decide +kernel) (pa_cons (pv 0) (pa_cons (pe_bltn (v := .ty "bool") (u := .type "bool") (by rfl) B.bool (by decide +kernel) rfl) pa_nil))) (pe_one (pe_cmpR op_eq (pv 0) (pv 1) (nomark _))))))
      (pss_nil))
  (pss_cons (ps_if (pt_val (pe_callB (call_isi) (by rfl) B.isinstance (by decide +kernel) (pa_cons (pv 1) (pa_cons (pe_bltn (v := .ty "int") (u := .type "int") (by rfl) B.int (by decide +kernel) rfl) pa_nil))))
      (pss_one (ps_ret (pe_and (pe_f D_law_is_integer (hr.mono (by omega)) pass0 (pa_cons (pv 0) pa_nil)) (pe_one (pe_cmpR op_eq (pv 0) (pv 1) (nomark _))))))
      (pss_nil))
  (pss_cons (ps_if (pt_val (pe_callB (call_isi) (by rfl) B.isinstance (by decide +kernel) (pa_cons (pv 1) (pa_cons (pe_bltn (v := .ty "str") (u := .type "str") (by rfl) B.str (by decide +kernel) rfl) pa_nil))))
      (pss_one (ps_ret (pe_and (pe_callB (call_isi) (by rfl) B.isinstance (by decide +kernel) (pa_cons (pv 0) (pa_cons (pe_bltn (v := .ty "str") (u := .type "str") (by rfl) B.str (by decide +kernel) rfl) pa_nil))) (pe_one (pe_cmpR op_eq (pv 0) (pv 1) (nomark _))))))
      (pss_nil))
  (pss_cons (ps_if (PW.pt (pw_and (pt_val (pe_callB (call_isi) (by rfl) B.isinstance (by decide +kernel) (pa_cons (pv 1) (pa_cons (pe_bltn (v := .ty "tuple") (u := .type "tuple") (by rfl) B.tuple (by decide +kernel) rfl) pa_nil)))) (pw_and1 (pt_not (pt_val (pe_callB (call_isi) (by rfl) B.isinstance (by decide +kernel) (pa_cons (pv 0) (pa_cons (pe_bltn (v := .ty "tuple") (u := .type "tuple") (by rfl) B.tuple (by decide +kernel) rfl) pa_nil))))))))
      (pss_one (ps_ret pe_bl))
      (pss_nil))
  (pss_cons (ps_if (PW.pt (pw_and (pt_val (pe_callB (call_isi) (by rfl) B.isinstance (by decide +kernel) (pa_cons (pv 1) (pa_cons (pe_bltn (v := .ty "list") (u := .type "list") (by rfl) B.list (by decide +kernel) rfl) pa_nil)))) (pw_and1 (pt_not (pt_val (pe_callB (call_isi) (by rfl) B.isinstance (by decide +kernel) (pa_cons (pv 0) (pa_cons (pe_bltn (v := .ty "list") (u := .type "list") (by rfl) B.list (by decide +kernel) rfl) pa_nil))))))))
      (pss_one (ps_ret pe_bl))
      (pss_nil))
  (pss_cons (ps_if (pt_cmpR op_ne (pe_callB (call_len_seq) (by rfl) B.len (by decide +kernel) (pa_cons (pv 0) pa_nil)) (pe_callB (call_len_seq) (by rfl) B.len (by decide +kernel) (pa_cons (pv 1) pa_nil)) (nomark _))
      (pss_one (ps_ret pe_bl))
      (pss_nil))
  (pss_cons (ps_for PassesOwn.never rfl (pi_range1 (by rfl) B.range (pa_cons (pe_callB (call_len_seq) (by rfl) B.len (by decide +kernel) (pa_cons (pv 1) pa_nil)) pa_nil)) (pg_name (i := 2) sc__law_same.nd rfl (Or.inl rfl))
      (pss_one (ps_if (pt_not (pt_val (pe_f D_law_same (hr.mono (by omega)) pass0 (pa_cons (pe_ix ix_seq (pv 0) (pv 2) (fun _ _ => rfl)) (pa_cons (pe_ix ix_seq (pv 1) (pv 2) (fun _ _ => rfl)) pa_nil)))))
          (pss_one (ps_ret pe_bl))
          (pss_nil))))
  (pss_one (ps_ret pe_bl)))))))))
    , ?_⟩
  cases d with
  | none =>
    cases dx
    cases dy
    exact ⟨_, rfl, rfl, _, rfl, iteT' (by decide) ⟨_, rfl, rfl, q⟩⟩
  | bool b =>
    cases dx
    cases dy
    refine ⟨_, rfl, rfl, _, rfl, iteF' (decide_eq_false (fun z => nomatch z)) ⟨_, rfl, ⟨_, _, _, _, true, rfl, .ty _, tyx_d (.bl b), kit_ty (by simp only [tyD]; decide +kernel), ⟨_, rfl, iteT ?_⟩⟩⟩⟩
    refine ⟨_, rfl, ⟨_, _, _, _, true, rfl, .ty _, tyx_d (.bl b), kit_ty (by simp only [tyD]; decide +kernel), ⟨_, rfl, iteT ⟨_, rfl, _, rfl, rfl, ?_⟩⟩⟩⟩
    rw [decide_eq_true (rfl : V.bl b = V.bl b)]
    exact q
  | int i =>
    cases dx
    cases dy
    refine ⟨_, rfl, rfl, _, rfl, iteF' (decide_eq_false (fun z => nomatch z)) ⟨_, rfl, ⟨_, _, _, _, false, rfl, .ty _, tyx_d (.int i), kit_ty (by simp only [tyD]; decide +kernel), ⟨_, rfl, iteF ?_⟩⟩⟩⟩
    refine ⟨_, rfl, ⟨_, _, _, _, true, rfl, .ty _, tyx_d (.int i), kit_ty (by simp only [tyD]; decide +kernel), ⟨_, rfl, iteT ?_⟩⟩⟩
    refine ⟨_, rfl, i, rfl, _, rfl, iteT ⟨_, rfl, _, rfl, rfl, ?_⟩⟩
    rw [decide_eq_true (rfl : V.int i = V.int i)]
    exact q
  | str z =>
    cases dx
    cases dy
    refine ⟨_, rfl, rfl, _, rfl, iteF' (decide_eq_false (fun z => nomatch z)) ⟨_, rfl, ⟨_, _, _, _, false, rfl, .ty _, tyx_d (.str z), kit_ty (by simp only [tyD]; decide +kernel), ⟨_, rfl, iteF ?_⟩⟩⟩⟩
    refine ⟨_, rfl, ⟨_, _, _, _, false, rfl, .ty _, tyx_d (.str z), kit_ty (by simp only [tyD]; decide +kernel), ⟨_, rfl, iteF ?_⟩⟩⟩
    refine ⟨_, rfl, ⟨_, _, _, _, true, rfl, .ty _, tyx_d (.str z), kit_ty (by simp only [tyD]; decide +kernel), ⟨_, rfl, iteT ?_⟩⟩⟩
    refine ⟨_, rfl, ⟨_, _, _, _, true, rfl, .ty _, tyx_d (.str z), kit_ty (by simp only [tyD]; decide +kernel), ⟨_, rfl, iteT ⟨_, rfl, _, rfl, rfl, ?_⟩⟩⟩⟩
    rw [decide_eq_true (rfl : V.str z = V.str z)]
    exact q
  | dict kvs => cases fit
  | list ds =>
    have dx' := dx
    have dy' := dy
    cases dx with
    | @lst a xs _ hx ax =>
    cases dy with
    | @lst b ys _ hy ay =>
    refine ⟨_, rfl, rfl, _, rfl, iteF' (decide_eq_false (fun z => nomatch z)) ⟨_, rfl, ⟨_, _, _, _, false, rfl, .ty _, tyx_d dy', kit_ty (by simp only [tyD]; decide +kernel), ⟨_, rfl, iteF ?_⟩⟩⟩⟩
    refine ⟨_, rfl, ⟨_, _, _, _, false, rfl, .ty _, tyx_d dy', kit_ty (by simp only [tyD]; decide +kernel), ⟨_, rfl, iteF ?_⟩⟩⟩
    refine ⟨_, rfl, ⟨_, _, _, _, false, rfl, .ty _, tyx_d dy', kit_ty (by simp only [tyD]; decide +kernel), ⟨_, rfl, iteF ?_⟩⟩⟩
    refine ⟨_, rfl, ⟨_, _, _, _, false, rfl, .ty _, tyx_d dy', kit_ty (by simp only [tyD]; decide +kernel), ⟨_, rfl, iteF ?_⟩⟩⟩
    refine iteF ?_
    refine ⟨_, rfl, ⟨_, _, _, _, true, rfl, .ty _, tyx_d dy', kit_ty (by simp only [tyD]; decide +kernel), ⟨_, rfl, iteT ?_⟩⟩⟩
    refine ⟨_, rfl, ⟨_, _, _, _, true, rfl, .ty _, tyx_d dx', kit_ty (by simp only [tyD]; decide +kernel), ⟨_, rfl, iteF ?_⟩⟩⟩
    have lx := dpAll_len ax
    have ly := dpAll_len ay
    refine ⟨_, rfl, a, _, rfl, .inl hx, _, rfl, b, _, rfl, .inl hy, rfl, _, rfl, iteF' (by rw [lx, ly, decide_eq_true rfl]; rfl) ?_⟩
    have fl := fit.1
    refine ⟨_, rfl, b, _, rfl, .inl hy, _, rfl, by omega, by omega, for_range (lo := 0) (n := ys.length) (fun i σ H' => H' = H ∧ ∃ y2, σ = [some (.ref a), some (.ref b), y2]) ⟨rfl, none, rfl⟩ (fun i σ H1 hi hI => ?_) (fun σ H1 hI => ?_)⟩
    · obtain ⟨rfl, y2, rfl⟩ := hI
      obtain ⟨u, d1, u1, u2, u3⟩ := dpAll_at i ax (by omega)
      obtain ⟨v, d2, v1, v2, v3⟩ := dpAll_at i ay (by omega)
      have e : d1 = d2 := Option.some.inj (u2.symm.trans v2)
      subst e
      have fd := fit.2 d1 (List.mem_of_getElem? u2)
      have u4 : atI xs (0 + (i : Int)) = some u := by rw [Int.zero_add]; exact atI_nat u1
      have v4 : atI ys (0 + (i : Int)) = some v := by rw [Int.zero_add]; exact atI_nat v1
      refine ⟨_, rfl, _, rfl, .inl ⟨a, _, _, u, rfl, rfl, hx, u4, _, rfl, _, rfl, .inl ⟨b, _, _, v, rfl, rfl, hy, v4, u, v, d1, rfl, fd, u3, v3, ?_⟩⟩⟩
      exact ⟨_, rfl, iteF ⟨rfl, _, rfl⟩⟩
    · obtain ⟨rfl, y2, rfl⟩ := hI
      exact q
  | tuple ds =>
    have dx' := dx
    have dy' := dy
    cases dx with
    | @tup a xs _ hx ax =>
    cases dy with
    | @tup b ys _ hy ay =>
    refine ⟨_, rfl, rfl, _, rfl, iteF' (decide_eq_false (fun z => nomatch z)) ⟨_, rfl, ⟨_, _, _, _, false, rfl, .ty _, tyx_d dy', kit_ty (by simp only [tyD]; decide +kernel), ⟨_, rfl, iteF ?_⟩⟩⟩⟩
    refine ⟨_, rfl, ⟨_, _, _, _, false, rfl, .ty _, tyx_d dy', kit_ty (by simp only [tyD]; decide +kernel), ⟨_, rfl, iteF ?_⟩⟩⟩
    refine ⟨_, rfl, ⟨_, _, _, _, false, rfl, .ty _, tyx_d dy', kit_ty (by simp only [tyD]; decide +kernel), ⟨_, rfl, iteF ?_⟩⟩⟩
    refine ⟨_, rfl, ⟨_, _, _, _, true, rfl, .ty _, tyx_d dy', kit_ty (by simp only [tyD]; decide +kernel), ⟨_, rfl, iteT ?_⟩⟩⟩
    refine ⟨_, rfl, ⟨_, _, _, _, true, rfl, .ty _, tyx_d dx', kit_ty (by simp only [tyD]; decide +kernel), ⟨_, rfl, iteF ?_⟩⟩⟩
    refine ⟨_, rfl, ⟨_, _, _, _, false, rfl, .ty _, tyx_d dy', kit_ty (by simp only [tyD]; decide +kernel), ⟨_, rfl, iteF ?_⟩⟩⟩
    refine iteF ?_
    have lx := dpAll_len ax
    have ly := dpAll_len ay
    refine ⟨_, rfl, a, _, rfl, .inr hx, _, rfl, b, _, rfl, .inr hy, rfl, _, rfl, iteF' (by rw [lx, ly, decide_eq_true rfl]; rfl) ?_⟩
    have fl := fit.1
    refine ⟨_, rfl, b, _, rfl, .inr hy, _, rfl, by omega, by omega, for_range (lo := 0) (n := ys.length) (fun i σ H' => H' = H ∧ ∃ y2, σ = [some (.ref a), some (.ref b), y2]) ⟨rfl, none, rfl⟩ (fun i σ H1 hi hI => ?_) (fun σ H1 hI => ?_)⟩
    · obtain ⟨rfl, y2, rfl⟩ := hI
      obtain ⟨u, d1, u1, u2, u3⟩ := dpAll_at i ax (by omega)
      obtain ⟨v, d2, v1, v2, v3⟩ := dpAll_at i ay (by omega)
      have e : d1 = d2 := Option.some.inj (u2.symm.trans v2)
      subst e
      have fd := fit.2 d1 (List.mem_of_getElem? u2)
      have u4 : atI xs (0 + (i : Int)) = some u := by rw [Int.zero_add]; exact atI_nat u1
      have v4 : atI ys (0 + (i : Int)) = some v := by rw [Int.zero_add]; exact atI_nat v1
      refine ⟨_, rfl, _, rfl, .inr (.inl ⟨a, _, _, u, rfl, rfl, hx, u4, _, rfl, _, rfl, .inr (.inl ⟨b, _, _, v, rfl, rfl, hy, v4, u, v, d1, rfl, fd, u3, v3, ?_⟩)⟩)⟩
      exact ⟨_, rfl, iteF ⟨rfl, _, rfl⟩⟩
    · obtain ⟨rfl, y2, rfl⟩ := hI
      exact q
theorem none_same (A : At K mg "_law_same" s__law_same ["actual", "expected"]) : DefOk P w K mg base CX0 1 "_law_same" ["actual", "expected"] (spSame K 0) := by
  obtain ⟨f, fd, G, m, b⟩ := A.ex
  have no : ∀ vs H Q E, ¬ spSame K 0 vs H Q E := fun vs H Q E h => by
    obtain ⟨x, y, d, _, fit, _⟩ := h
    cases d <;> exact fit
  obtain ⟨oc, od, _, _, _, _, _, _, osl, _, lk, _⟩ := G.ex
  exact ⟨f, fd, ⟨fun vs H Q E h => absurd h (no vs H Q E), fun A outer s H args us vs Q E _ _ _ _ h => absurd h (no vs H Q E)⟩, m, G.kp, b, oc, od, osl, lk⟩
theorem d_same (B : Bt mg) (D : DefOk P w K mg base CX0 1 "_law_is_integer" ["actual"] spIsInt) (A : At K mg "_law_same" s__law_same ["actual", "expected"]) :
    ∀ n : Nat, DefOk P w K mg base CX0 (n + 1) "_law_same" ["actual", "expected"] (spSame K n)
  | 0 => none_same A
  | n + 1 => d_same1 B D (d_same B D A n) A
end
end DP
namespace DP
open PySem PySem.Spec PyProof.Rows L2
abbrev s__law_lines : Stmt := topS 89
theorem sc__law_lines : FnScope ["world", "lines", "name", "numbers", "light", "words", "k", "span", "antennas", "turn", "satellite", "urgency", "station"] ["world"] (defScope s__law_lines) := ⟨rfl, rfl, rfl, by decide +kernel, rfl, by decide +kernel, by decide +kernel⟩
abbrev s__law_text : Stmt := topS 90
theorem sc__law_text : FnScope ["world", "line"] ["world"] (defScope s__law_text) := ⟨rfl, rfl, rfl, by decide +kernel, rfl, by decide +kernel, by decide +kernel⟩
def flat : List (Str × Int) → List Str
  | [] => []
  | p :: r => p.1 :: num p.2 :: flat r
theorem flat_len : ∀ l : List (Str × Int), (flat l).length = 2 * l.length
  | [] => rfl
  | p :: r => by
    show (flat r).length + 1 + 1 = 2 * (r.length + 1)
    rw [flat_len r]
    omega
theorem flat_app : ∀ (l : List (Str × Int)) (p : Str × Int), flat (l ++ [p]) = flat l ++ [p.1, num p.2]
  | [], p => rfl
  | q :: r, p => by
    show q.1 :: num q.2 :: flat (r ++ [p]) = q.1 :: num q.2 :: (flat r ++ [p.1, num p.2])
    rw [flat_app r p]
theorem flat_take {l : List (Str × Int)} {i : Nat} {p : Str × Int} (h : l[i]? = some p) : flat (l.take (i + 1)) = flat (l.take i) ++ [p.1, num p.2] := by rw [take_snoc h, flat_app]
theorem lightW_app : ∀ (l : List (Int × Int)) (p : Int × Int), lightW (l ++ [p]) = lightW l ++ [num p.1, num p.2]
  | [], p => rfl
  | q :: r, p => by
    show num q.1 :: num q.2 :: lightW (r ++ [p]) = num q.1 :: num q.2 :: (lightW r ++ [num p.1, num p.2])
    rw [lightW_app r p]
theorem lightW_take {l : List (Int × Int)} {i : Nat} {p : Int × Int} (h : l[i]? = some p) : lightW (l.take (i + 1)) = lightW (l.take i) ++ [num p.1, num p.2] := by rw [take_snoc h, lightW_app]
def satKv (s : SatD) : List (Str × Int) := [("store", s.store), ("battery", s.battery), ("level", s.level), ("reserve", s.reserve), ("charge", s.charge), ("settle", s.settle)]
def recKv (r : RecD) : List (Str × Int) := [("from", r.earliest), ("to", r.latest), ("length", r.length), ("size", r.size), ("energy", r.energy)]
def recKu (r : RecD) : List (Str × Int) := [("worth", r.worth), ("rank", r.rank), ("until", r.deadline)]
def pasKv (p : PasD) : List (Str × Int) := [("room", p.room), ("energy", p.energy), ("fee", p.fee)]
theorem log_ok {n : Int} (h0 : 0 ≤ n) (h1 : n < 10000000) : n.natAbs.log2 < 1920 := by
  by_cases c : n.natAbs = 0
  · rw [c]; decide
  · refine (Nat.log2_lt c).mpr ?_
    have : n.natAbs < 2 ^ 24 := by omega
    exact Nat.lt_of_lt_of_le this (Nat.pow_le_pow_right (by decide) (by decide))
theorem num_len {n : Int} (h0 : 0 ≤ n) (h1 : n < 10000000) : (num n).length ≤ 7 := by
  rw [TL.len_tl, show TL.tl (num n) = tl (num n) from rfl, num_nat h0]
  exact numL_len7 (by omega)
theorem name_len {u : Str} (h : NameOk u) : u.length ≤ 15 := by
  obtain ⟨c, r, e, _, _, hl⟩ := h
  rw [TL.len_tl, show TL.tl u = tl u from rfl, e, List.length_cons]
  omega
theorem sum_len {ws : List Str} (h : ∀ w ∈ ws, WdOk w) : (ws.map (·.length)).sum ≤ 16 * ws.length := by
  induction ws with
  | nil => exact Nat.zero_le _
  | cons a r ih =>
    have h1 := wd_len (h a List.mem_cons_self)
    have h2 := ih fun w hw => h w (List.mem_cons_of_mem _ hw)
    rw [List.map_cons, List.sum_cons, List.length_cons]
    omega
theorem join_fits {ws : List Str} (h : ∀ w ∈ ws, WdOk w) (hl : ws.length ≤ 1015) : (ws.map (·.length)).sum + ws.length * sp.length ≤ 16777216 := by
  have h1 := sum_len h
  have h2 : sp.length = 1 := by decide +kernel
  rw [h2]
  omega
theorem row_hor (h : Int) : (Str.ofString "horizon " : Str) ++ num h = row (wHor h) := by
  refine TL.ext_tl ?_
  show tl (_ ++ _) = tl (Str.ofString "horizon" ++ sp ++ num h)
  rw [tl_app, tl_app, tl_app, show tl (Str.ofString "horizon ") = tl (Str.ofString "horizon") ++ tl sp by decide +kernel]
theorem row_sta (s : StaD) : (Str.ofString "station " : Str) ++ s.name ++ Str.ofString " antennas " ++ num s.antennas ++ Str.ofString " turn " ++ num s.turn = row (wSta s) := by
  refine TL.ext_tl ?_
  show tl _ = tl (Str.ofString "station" ++ sp ++ (s.name ++ sp ++ (Str.ofString "antennas" ++ sp ++ (num s.antennas ++ sp ++ (Str.ofString "turn" ++ sp ++ num s.turn)))))
  simp only [tl_app]
  rw [show tl (Str.ofString "station ") = tl (Str.ofString "station") ++ tl sp by decide +kernel, show tl (Str.ofString " antennas ") = tl sp ++ (tl (Str.ofString "antennas") ++ tl sp) by decide +kernel, show tl (Str.ofString " turn ") = tl sp ++ (tl (Str.ofString "turn") ++ tl sp) by decide +kernel]
  simp only [List.append_assoc]
theorem row_join (ws : List Str) : Txt.join sp ws = row ws := TL.join_eq sp ws
theorem dpAll_get {K : PySem.W.Frag} {H : Hp} {α : Type} {f : α → PyData} {xs : List V} {l : List α} {i : Nat} {x : V} (h : DpAll K H xs (l.map f)) (hx : xs[i]? = some x) : ∃ a, l[i]? = some a ∧ Dp K H x (f a) := by
  have hl := dpAll_len h
  have hi : i < xs.length := (List.getElem?_eq_some_iff.mp hx).1
  obtain ⟨y, d, h1, h2, h3⟩ := dpAll_at i h (by rw [← hl]; exact hi)
  rw [hx] at h1
  cases h1
  rw [List.getElem?_map] at h2
  cases e : l[i]? with
  | none => rw [e] at h2; cases h2
  | some a =>
    rw [e] at h2
    have ed : f a = d := Option.some.inj h2
    rw [← ed] at h3
    exact ⟨a, rfl, h3⟩
theorem dpAll_get2 {K : PySem.W.Frag} {H : Hp} {α : Type} {f : α → PyData} {xs : List V} {l : List α} {i : Nat} {a : α} (h : DpAll K H xs (l.map f)) (ha : l[i]? = some a) : ∃ x, xs[i]? = some x ∧ Dp K H x (f a) := by
  have hi : i < (l.map f).length := by
    rw [List.length_map]
    exact (List.getElem?_eq_some_iff.mp ha).1
  obtain ⟨y, d, h1, h2, h3⟩ := dpAll_at i h hi
  rw [List.getElem?_map, ha] at h2
  have ed : f a = d := Option.some.inj h2
  rw [← ed] at h3
  exact ⟨y, h1, h3⟩
theorem dp_tup {K : PySem.W.Frag} {H : Hp} {x : V} {ds : List PyData} (h : Dp K H x (.tuple ds)) : ∃ t xs, x = .ref t ∧ SqT K H t xs ∧ DpAll K H xs ds := by
  cases h with
  | tup h1 h2 => exact ⟨_, _, rfl, h1, h2⟩
theorem dp_ints {K : PySem.W.Frag} {H : Hp} : ∀ {xs : List V} {ns : List Int}, DpAll K H xs (ns.map PyData.int) → xs = ns.map V.int
  | _, [], .nil => rfl
  | _, n :: r, .cons h t => by
    cases h
    rw [dp_ints t]
    rfl
theorem dp_spans {K : PySem.W.Frag} {H : Hp} : ∀ {xs : List V} {qs : List (Int × Int)}, DpAll K H xs (qs.map spanPy) → Spans K H xs qs
  | _, [], .nil => .nil
  | _, q :: r, .cons h t => by
    refine .cons ?_ (dp_spans t)
    obtain ⟨a, xs, rfl, h1, h2⟩ := dp_tup h
    have e := dp_ints (ns := [q.1, q.2]) h2
    subst e
    exact ⟨a, rfl, h1⟩
/-- a satellite's tuple -/
theorem sat_open {K : PySem.W.Frag} {H : Hp} {x : V} {s : SatD} (h : Dp K H x (satPy s)) : ∃ t t1 t2 ls, x = .ref t ∧ SqT K H t [.str s.name, .ref t1, .ref t2] ∧ SqT K H t1 (((satKv s).map (·.2)).map V.int) ∧ SqT K H t2 ls ∧ Spans K H ls s.light := by
  obtain ⟨t, xs, rfl, h1, h2⟩ := dp_tup h
  cases h2 with
  | cons a0 h2 =>
  cases h2 with
  | cons a1 h2 =>
  cases h2 with
  | cons a2 h2 =>
  cases h2
  cases a0
  obtain ⟨t1, x1, rfl, b1, c1⟩ := dp_tup a1
  obtain ⟨t2, x2, rfl, b2, c2⟩ := dp_tup a2
  have e := dp_ints (ns := (satKv s).map (·.2)) c1
  subst e
  exact ⟨t, t1, t2, x2, rfl, h1, b1, b2, dp_spans c2⟩
theorem sta_open {K : PySem.W.Frag} {H : Hp} {x : V} {s : StaD} (h : Dp K H x (staPy s)) : ∃ t, x = .ref t ∧ SqT K H t [.str s.name, .int s.antennas, .int s.turn] := by
  obtain ⟨t, xs, rfl, h1, h2⟩ := dp_tup h
  cases h2 with
  | cons a0 h2 =>
  cases h2 with
  | cons a1 h2 =>
  cases h2 with
  | cons a2 h2 =>
  cases h2
  cases a0
  cases a1
  cases a2
  exact ⟨t, rfl, h1⟩
theorem rec_open {K : PySem.W.Frag} {H : Hp} {x : V} {s : RecD} (h : Dp K H x (recPy s)) : ∃ t t1 t2, x = .ref t ∧ SqT K H t [.str s.name, .int (s.sat : Int), .ref t1, .ref t2] ∧ SqT K H t1 (((recKv s).map (·.2)).map V.int) ∧ SqT K H t2 (((recKu s).map (·.2)).map V.int) := by
  obtain ⟨t, xs, rfl, h1, h2⟩ := dp_tup h
  cases h2 with
  | cons a0 h2 =>
  cases h2 with
  | cons a1 h2 =>
  cases h2 with
  | cons a2 h2 =>
  cases h2 with
  | cons a3 h2 =>
  cases h2
  cases a0
  cases a1
  obtain ⟨t1, x1, rfl, b1, c1⟩ := dp_tup a2
  obtain ⟨t2, x2, rfl, b2, c2⟩ := dp_tup a3
  have e := dp_ints (ns := (recKv s).map (·.2)) c1
  subst e
  have e := dp_ints (ns := (recKu s).map (·.2)) c2
  subst e
  exact ⟨t, t1, t2, rfl, h1, b1, b2⟩
theorem pas_open {K : PySem.W.Frag} {H : Hp} {x : V} {s : PasD} (h : Dp K H x (pasPy s)) : ∃ t t1 t2, x = .ref t ∧ SqT K H t [.str s.name, .int (s.sat : Int), .int (s.sta : Int), .ref t1, .ref t2] ∧ SqT K H t1 [.int s.first, .int s.fin] ∧ SqT K H t2 (((pasKv s).map (·.2)).map V.int) := by
  obtain ⟨t, xs, rfl, h1, h2⟩ := dp_tup h
  cases h2 with
  | cons a0 h2 =>
  cases h2 with
  | cons a1 h2 =>
  cases h2 with
  | cons a2 h2 =>
  cases h2 with
  | cons a3 h2 =>
  cases h2 with
  | cons a4 h2 =>
  cases h2
  cases a0
  cases a1
  cases a2
  obtain ⟨t1, x1, rfl, b1, c1⟩ := dp_tup a3
  obtain ⟨t2, x2, rfl, b2, c2⟩ := dp_tup a4
  have e := dp_ints (ns := [s.first, s.fin]) c1
  subst e
  have e := dp_ints (ns := (pasKv s).map (·.2)) c2
  subst e
  exact ⟨t, t1, t2, rfl, h1, b1, b2⟩
theorem kv_at {l : List (Str × Int)} {i : Nat} {p : Str × Int} (h : l[i]? = some p) : atI ((l.map (·.1)).map V.str) (0 + (i : Int)) = some (.str p.1) ∧ atI ((l.map (·.2)).map V.int) (0 + (i : Int)) = some (.int p.2) := by
  rw [Int.zero_add]
  exact ⟨atI_nat (by rw [List.getElem?_map, List.getElem?_map, h]; rfl), atI_nat (by rw [List.getElem?_map, List.getElem?_map, h]; rfl)⟩
def KvOk (l : List (Str × Int)) : Prop := ∀ p ∈ l, 0 ≤ p.2 ∧ p.2 < 10000000
end DP
namespace DP
open PySem PySem.Spec PyProof.Rows L2
def rStrI : List V → Hp → VK → Prop := fun xs H Q => ∃ i, xs = [.int i] ∧ i.natAbs.log2 < 1920 ∧ Q (.str (Str.ofString (toString i))) H
def tKv (K : PySem.W.Frag) (cs : TA) (j : Nat) : TS :=
  tDrop (tBM K "list" rExtend (tVar 5) (tCons (tLst (tCons (tOp (rIxL K) (tLst cs) (tVar 6)) (tCons (tCB rStrI (tCons (tOp (rIxT K) (tVar j) (tVar 6)) tNil)) tNil))) tNil))
/-- the law's variables -/
abbrev st13 (x0 x1 x2 x3 x4 x5 x6 x7 x8 x9 x10 x11 x12 : Option V) : L2.St := [x0, x1, x2, x3, x4, x5, x6, x7, x8, x9, x10, x11, x12]
theorem sz2_ : 2 ≤ sizeLine := Nat.le_trans (by decide : 2 ≤ 1000) (Nat.le_of_lt (small1000 (Nat.le_refl _)))
theorem kv_run {K : PySem.W.Frag} {cs : TA} {j : Nat} {l : List (Str × Int)} {n : Int} {t1 wa : Addr} {ws : List Str} {H0 H1 : Hp} {D : Ends} {x0 x1 x2 x3 x4 x6 x7 x8 x9 x10 x11 x12 : Option V}
    (hn : n = (l.length : Int)) (hcs : ∀ σ H Q, Q ((l.map (·.1)).map V.str) H → cs σ H Q) (hl : l.length ≤ 10) (hok : KvOk l)
    (n0 : H0 wa = none) (hs : Same H0 H1) (hw : H1 wa = some (.lst (ws.map V.str))) (hb : ws.length ≤ 900) (h1 : SqT K H0 t1 ((l.map (·.2)).map V.int))
    (hj : ∀ y H Q, Q (V.ref t1) H → tVar j (st13 x0 x1 x2 x3 x4 (some (.ref wa)) y x7 x8 x9 x10 x11 x12) H Q)
    (q : ∀ y H2, Same H0 H2 → H2 wa = some (.lst ((ws ++ flat l).map V.str)) → D.nx (st13 x0 x1 x2 x3 x4 (some (.ref wa)) y x7 x8 x9 x10 x11 x12) H2) :
    tFor (iRng1 (tCons (tC (V.int n)) tNil)) (gName 6) (tKv K cs j) D (st13 x0 x1 x2 x3 x4 (some (.ref wa)) x6 x7 x8 x9 x10 x11 x12) H1 := by
  subst hn
  refine ⟨_, rfl, by omega, by omega, for_range (n := (l.length : Int).toNat) (fun i σ H' => ∃ y, σ = st13 x0 x1 x2 x3 x4 (some (.ref wa)) y x7 x8 x9 x10 x11 x12 ∧ Same H0 H' ∧ H' wa = some (.lst ((ws ++ flat (l.take i)).map V.str)))
    ⟨x6, rfl, hs, by rw [List.take_zero]; show _ = some (HO.lst ((ws ++ []).map V.str)); rw [List.append_nil]; exact hw⟩ (fun i σ H' hi hI => ?_) (fun σ H' hI => ?_)⟩
  · obtain ⟨y, rfl, hs', hw'⟩ := hI
    have hi' : i < l.length := by (clear hcs hl hok n0 hs hw hb h1 hj q hs' hw'; omega)
    have hp : l[i]? = some l[i] := List.getElem?_eq_getElem hi'
    obtain ⟨k1, k2⟩ := kv_at hp
    have hk := hok _ (List.mem_of_getElem? hp)
    refine ⟨_, rfl, .inl ⟨rfl, _, SqL.of hw'⟩, hcs _ _ _ ⟨?_, fun p hp1 => ⟨_, rfl, p, _, _, _, rfl, rfl, SqL.of upd_same, k1, ?_⟩⟩⟩
    · rw [List.length_map, List.length_map]; exact small (by omega)
    · dsimp only [tCons, tCB, tOp]
      refine hj (some (V.int (0 + (i : Int)))) _ _ ⟨_, rfl, t1, _, _, _, rfl, rfl, Same.tup (hs'.trans (same_new hp1 _)) h1, k2, _, rfl, log_ok hk.1 hk.2, sz2_, fun b hb1 => ?_⟩
      have nb : wa ≠ b := ne_of_none (same_new hp1 _ _ _ hw') hb1
      have hwb := (same_new hb1 (.lst [.str (l[i]).1, .str (Str.ofString (toString (l[i]).2))])) _ _ (same_new hp1 (.lst ((l.map (·.1)).map V.str)) _ _ hw')
      refine ⟨wa, b, _, _, rfl, rfl, hwb, upd_same, ?_, ?_⟩
      · rw [List.length_map, List.length_append, flat_len, List.length_take]
        exact small (by show _ + 2 ≤ _; omega)
      · refine ⟨_, rfl, same_at n0 (hs'.trans ((same_new hp1 _).trans (same_new hb1 _))) _, ?_⟩
        rw [upd_same, flat_take hp, ← List.append_assoc, List.map_append (l₁ := ws ++ flat (l.take i))]
        rfl
  · obtain ⟨y, rfl, hs', hw'⟩ := hI
    have e : (l.length : Int).toNat = l.length := by omega
    rw [e, List.take_length] at hw'
    exact q y H' hs' hw'
end DP
namespace DP
open PySem PySem.Spec PyProof.Rows L2
def tLight (K : PySem.W.Frag) : TS :=
  tDrop (tBM K "list" rExtend (tVar 5) (tCons (tLst (tCons (tCB rStrI (tCons (tOp (rIxT K) (tVar 7) (tC (V.int 0))) tNil)) (tCons (tCB rStrI (tCons (tOp (rIxT K) (tVar 7) (tC (V.int 1))) tNil)) tNil))) tNil))
theorem light_run {K : PySem.W.Frag} {l : List (Int × Int)} {ls : List V} {t2 wa : Addr} {ws : List Str} {H0 H1 : Hp} {D : Ends} {x0 x1 x2 x3 x6 x7 x8 x9 x10 x11 x12 : Option V}
    (hl : l.length ≤ 500) (hok : ∀ p ∈ l, (0 ≤ p.1 ∧ p.1 < 10000000) ∧ 0 ≤ p.2 ∧ p.2 < 10000000)
    (n0 : H0 wa = none) (hs : Same H0 H1) (hw : H1 wa = some (.lst (ws.map V.str))) (hb : ws.length ≤ 15) (h2 : SqT K H0 t2 ls) (h3 : Spans K H0 ls l) (hz : 2 * l.length + 15 ≤ 1000)
    (q : ∀ y H2, Same H0 H2 → H2 wa = some (.lst ((ws ++ lightW l).map V.str)) → D.nx (st13 x0 x1 x2 x3 (some (.ref t2)) (some (.ref wa)) x6 y x8 x9 x10 x11 x12) H2) :
    tFor (iTup K (tVar 4)) (gName 7) (tLight K) D (st13 x0 x1 x2 x3 (some (.ref t2)) (some (.ref wa)) x6 x7 x8 x9 x10 x11 x12) H1 := by
  have hlen := paired_len h3
  refine ⟨_, rfl, t2, rfl, ⟨_, Same.tup hs h2⟩, for_tup (K := K) (a := t2) (xs := ls) (fun i σ H' => ∃ y, σ = st13 x0 x1 x2 x3 (some (.ref t2)) (some (.ref wa)) x6 y x8 x9 x10 x11 x12 ∧ Same H0 H' ∧ H' wa = some (.lst ((ws ++ lightW (l.take i)).map V.str)))
    ⟨x7, rfl, hs, by rw [List.take_zero]; show _ = some (HO.lst ((ws ++ []).map V.str)); rw [List.append_nil]; exact hw⟩ (fun i σ H' _ hI => ?_) (fun i x σ H' hx hI => ?_) (fun σ H' hI => ?_)⟩
  · obtain ⟨y, rfl, hs', hw'⟩ := hI
    exact Same.tup hs' h2
  · obtain ⟨y, rfl, hs', hw'⟩ := hI
    obtain ⟨p, hp, t, rfl, ht⟩ := paired_at h3 hx
    have hi' : i < l.length := (List.getElem?_eq_some_iff.mp hp).1
    have hk := hok _ (List.mem_of_getElem? hp)
    have ht' := Same.tup hs' ht
    refine ⟨_, rfl, .inl ⟨rfl, _, SqL.of hw'⟩, _, rfl, t, _, 0, _, rfl, rfl, ht', rfl, _, rfl, log_ok hk.1.1 hk.1.2, _, rfl, t, _, 1, _, rfl, rfl, ht', rfl, _, rfl, log_ok hk.2.1 hk.2.2, sz2_, fun b hb1 => ?_⟩
    have nb : wa ≠ b := ne_of_none hw' hb1
    have hwb := (same_new hb1 (.lst [.str (Str.ofString (toString p.1)), .str (Str.ofString (toString p.2))])) _ _ hw'
    refine ⟨wa, b, _, _, rfl, rfl, hwb, upd_same, ?_, ?_⟩
    · rw [List.length_map, List.length_append, lightW_len, List.length_take]
      exact small (by show _ + 2 ≤ _; omega)
    · refine ⟨_, rfl, same_at n0 (hs'.trans (same_new hb1 _)) _, ?_⟩
      rw [upd_same, lightW_take hp, ← List.append_assoc, List.map_append (l₁ := ws ++ lightW (l.take i))]
      rfl
  · obtain ⟨y, rfl, hs', hw'⟩ := hI
    rw [hlen, List.take_length] at hw'
    exact q y H' hs' hw'
theorem lights_lt {h : Int} (hh : h ≤ 80) : ∀ {l : List (Int × Int)} {a : Int}, 0 ≤ a → LightOk a h l → ∀ p ∈ l, (0 ≤ p.1 ∧ p.1 < 10000000) ∧ 0 ≤ p.2 ∧ p.2 < 10000000
  | [], _, _, _, p, hp => absurd hp List.not_mem_nil
  | q :: r, a, ha, ⟨h1, h2, h3, h4⟩, p, hp => by
    rcases List.mem_cons.mp hp with rfl | hp
    · exact ⟨⟨by omega, by omega⟩, by omega, by omega⟩
    · exact lights_lt hh (by omega) h4 p hp
theorem satKv_ok {h : Int} {s : SatD} (ok : SatOk h s) : KvOk (satKv s) := fun p hp => by
  obtain ⟨_, a1, a2, a3, a4, a5, a6, _⟩ := ok
  simp only [satKv, List.mem_cons, List.not_mem_nil, or_false] at hp
  rcases hp with rfl | rfl | rfl | rfl | rfl | rfl <;> dsimp only <;> omega
theorem recKv_ok {W : WorldD} {s : RecD} (hh : W.horizon ≤ 80) (ok : RecOk W s) : KvOk (recKv s) := fun p hp => by
  obtain ⟨_, _, a1, a2, a3, a4, a5, a6, a7, a8⟩ := ok
  simp only [recKv, List.mem_cons, List.not_mem_nil, or_false] at hp
  rcases hp with rfl | rfl | rfl | rfl | rfl <;> dsimp only <;> omega
theorem recKu_ok {W : WorldD} {s : RecD} (hh : W.horizon ≤ 80) (ok : RecOk W s) : KvOk (recKu s) := fun p hp => by
  obtain ⟨_, _, a1, a2, a3, a4, a5, a6, a7, a8⟩ := ok
  simp only [recKu, List.mem_cons, List.not_mem_nil, or_false] at hp
  rcases hp with rfl | rfl | rfl <;> dsimp only <;> omega
theorem pasKv_ok {W : WorldD} {s : PasD} (ok : PasOk W s) : KvOk (pasKv s) := fun p hp => by
  obtain ⟨_, _, _, a1, a2, a3, a4, a5⟩ := ok
  simp only [pasKv, List.mem_cons, List.not_mem_nil, or_false] at hp
  rcases hp with rfl | rfl | rfl <;> dsimp only <;> omega
theorem add_fits {a b : Str} {m n : Nat} (ha : a.length ≤ m) (hb : b.length ≤ n) (h : m + n ≤ 1000) : a.length + b.length ≤ sizeLine := small (by omega)
theorem len_add {a b : Str} {m n : Nat} (ha : a.length ≤ m) (hb : b.length ≤ n) : (a ++ b).length ≤ m + n := by
  rw [TL.len_tl] at ha hb ⊢
  rw [show TL.tl (a ++ b) = TL.tl a ++ TL.tl b from tl_app a b, List.length_append]
  omega
theorem sz4_ : 4 ≤ sizeLine := Nat.le_trans (by decide : 4 ≤ 1000) (Nat.le_of_lt (small1000 (Nat.le_refl _)))
theorem sz6_ : 6 ≤ sizeLine := Nat.le_trans (by decide : 6 ≤ 1000) (Nat.le_of_lt (small1000 (Nat.le_refl _)))
theorem sz10_ : 10 ≤ sizeLine := Nat.le_trans (by decide : 10 ≤ 1000) (Nat.le_of_lt (small1000 (Nat.le_refl _)))
theorem satN_of {W : WorldD} {i : Nat} {s : SatD} (h : W.sats[i]? = some s) : satN W i = s.name := by
  unfold satN
  rw [List.getElem?_map, h]
  rfl
theorem staN_of {W : WorldD} {i : Nat} {s : StaD} (h : W.stas[i]? = some s) : staN W i = s.name := by
  unfold staN
  rw [List.getElem?_map, h]
  rfl
theorem get_h {H : Hp} {wd : Addr} {h : Int} {a b c d : Addr} (g : H wd = some (.dK (wdK h a b c d))) : DGet H wd (.str "horizon") (some (.int h)) := by
  have := DGet.k (k := Sum.inr "horizon") g
  rw [wd_h] at this
  exact this
theorem get_s {H : Hp} {wd : Addr} {h : Int} {a b c d : Addr} (g : H wd = some (.dK (wdK h a b c d))) : DGet H wd (.str "satellites") (some (.ref a)) := by
  have := DGet.k (k := Sum.inr "satellites") g
  rw [wd_s] at this
  exact this
theorem get_t {H : Hp} {wd : Addr} {h : Int} {a b c d : Addr} (g : H wd = some (.dK (wdK h a b c d))) : DGet H wd (.str "stations") (some (.ref b)) := by
  have := DGet.k (k := Sum.inr "stations") g
  rw [wd_t] at this
  exact this
theorem get_r {H : Hp} {wd : Addr} {h : Int} {a b c d : Addr} (g : H wd = some (.dK (wdK h a b c d))) : DGet H wd (.str "recordings") (some (.ref c)) := by
  have := DGet.k (k := Sum.inr "recordings") g
  rw [wd_r] at this
  exact this
theorem get_p {H : Hp} {wd : Addr} {h : Int} {a b c d : Addr} (g : H wd = some (.dK (wdK h a b c d))) : DGet H wd (.str "passes") (some (.ref d)) := by
  have := DGet.k (k := Sum.inr "passes") g
  rw [wd_p] at this
  exact this
theorem app_step {α : Type} {dk : List (List Str)} {f : α → List Str} {l : List α} {i : Nat} {x : α} (h : l[i]? = some x) : (((dk ++ (l.take i).map f).map row).map V.str) ++ [V.str (row (f x))] = ((dk ++ (l.take (i + 1)).map f).map row).map V.str := by
  rw [take_snoc h]
  simp only [List.map_append, List.map_cons, List.map_nil, List.append_assoc]
theorem app_zero {α : Type} {dk : List (List Str)} {f : α → List Str} {l : List α} : ((dk ++ (l.take 0).map f).map row).map V.str = (dk.map row).map V.str := by
  rw [List.take_zero, List.map_nil, List.append_nil]
theorem app_len {α : Type} {dk : List (List Str)} {f : α → List Str} {l : List α} {i n : Nat} (hd : dk.length ≤ n) (hl : l.length ≤ 20) (hn : n ≤ 60) : (((dk ++ (l.take i).map f).map row).map V.str).length < sizeLine := by
  rw [List.length_map, List.length_map, List.length_append, List.length_map, List.length_take]
  exact small1000 (by omega)
def done1 (W : WorldD) : List (List Str) := [wHor W.horizon] ++ W.sats.map wSat
def done2 (W : WorldD) : List (List Str) := done1 W ++ W.stas.map wSta
def done3 (W : WorldD) : List (List Str) := done2 W ++ W.recs.map (wRec W)
def done4 (W : WorldD) : List (List Str) := done3 W ++ W.pass.map (wPas W)
theorem done4_eq (W : WorldD) : done4 W = linesW W := by
  show [wHor W.horizon] ++ W.sats.map wSat ++ W.stas.map wSta ++ W.recs.map (wRec W) ++ W.pass.map (wPas W) = _
  unfold linesW
  simp only [List.append_assoc, List.cons_append, List.nil_append]
theorem wSat_eq (s : SatD) : [Str.ofString "satellite", s.name] ++ flat (satKv s) ++ [Str.ofString "light"] ++ lightW s.light = wSat s := rfl
theorem wRec_eq (W : WorldD) (r : RecD) : [Str.ofString "recording", r.name, Str.ofString "by", satN W r.sat] ++ flat (recKv r) ++ flat (recKu r) = wRec W r := rfl
theorem wPas_eq (W : WorldD) (p : PasD) : [Str.ofString "pass", p.name, Str.ofString "by", satN W p.sat, Str.ofString "over", staN W p.sta] ++ [Str.ofString "from", num p.first, Str.ofString "to", num p.fin] ++ flat (pasKv p) = wPas W p := rfl
theorem join_sp (ws : List Str) : Txt.join (Str.ofString " ") ws = row ws := row_join ws
end DP
namespace DP
open PySem PySem.Spec PyProof.Rows L2
section
variable {P : Program} {w : World} {K : PySem.W.Frag} {mg : Str → Option Value} {base : Heap}
def spLawLines (K : PySem.W.Frag) : Sp := fun vs H Q _ => ∃ (wd : Addr) (W : WorldD), vs = [.ref wd] ∧ WG W ∧ WdAt K H wd W ∧ ∀ L H', Same H H' → H L = none → H' L = some (.lst (((linesW W).map row).map V.str)) → Q (.ref L) H'
set_option maxHeartbeats 8000000 in
theorem d_law_lines (B : Bt mg) (A : At K mg "_law_lines" s__law_lines ["world"]) : DefOk P w K mg base CX0 1 "_law_lines" ["world"] (spLawLines K) := by
  refine A.ok sc__law_lines (fun vs H Q E h => ?_) (fun f cdv A outer s H vs Q E hr h => ?_)
  · obtain ⟨a, ns, rfl, _⟩ := h
    rfl
  obtain ⟨wd, W, rfl, wg, hwd, q⟩ := h
  obtain ⟨a, b, c, d, xa, xb, xc, xd, g, a1, a2, b1, b2, c1, c2, d1, d2⟩ := hwd.ex
  refine ⟨_, pss_cons (ps_set (i := 1) sc__law_lines.nd rfl (Or.inl rfl) (pe_lst (pa_cons (pe_op op_add_str pe_str (pe_callTy (call_str_int) (by rfl) B.str (by decide +kernel) (pa_cons (pe_dget (hu_of hr) (pv 0) pe_str (fun _ _ => rfl)) pa_nil))) pa_nil)))
  (pss_cons (ps_for PassesOwn.never rfl (pi_list (pe_dget (hu_of hr) (pv 0) pe_str (fun _ _ => rfl))) (pg_tup (by rfl) (pgs_cons (pg_name (i := 2) sc__law_lines.nd rfl (Or.inl rfl)) (pgs_cons (pg_name (i := 3) sc__law_lines.nd rfl (Or.inl rfl)) (pgs_cons (pg_name (i := 4) sc__law_lines.nd rfl (Or.inl rfl)) (pgs_nil)))))
      (pss_cons (ps_set (i := 5) sc__law_lines.nd rfl (Or.inl rfl) (pe_lst (pa_cons pe_str (pa_cons (pv 2) pa_nil))))
      (pss_cons (ps_for PassesOwn.never rfl (pi_range1 (by rfl) B.range (pa_cons pe_int pa_nil)) (pg_name (i := 6) sc__law_lines.nd rfl (Or.inl rfl))
          (pss_one (ps_expr (pe_bm PySem.F.plainAttrs_list PySem.F.slot_list_extend PySem.F.type_list_extend mt_extend (pv 5) (pa_cons (pe_lst (pa_cons (pe_ix ix_list (pe_lst (pa_cons pe_str (pa_cons pe_str (pa_cons pe_str (pa_cons pe_str (pa_cons pe_str (pa_cons pe_str pa_nil))))))) (pv 6) (fun _ _ => rfl)) (pa_cons (pe_callTy (call_str_int) (by rfl) B.str (by decide +kernel) (pa_cons (pe_ix ix_tup (pv 3) (pv 6) (fun _ _ => rfl)) pa_nil)) pa_nil))) pa_nil)))))
      (pss_cons (ps_expr (pe_bm PySem.F.plainAttrs_list PySem.F.slot_list_append PySem.F.type_list_append mt_append (pv 5) (pa_cons pe_str pa_nil)))
      (pss_cons (ps_for PassesOwn.never rfl (pi_tup (pv 4)) (pg_name (i := 7) sc__law_lines.nd rfl (Or.inl rfl))
          (pss_one (ps_expr (pe_bm PySem.F.plainAttrs_list PySem.F.slot_list_extend PySem.F.type_list_extend mt_extend (pv 5) (pa_cons (pe_lst (pa_cons (pe_callTy (call_str_int) (by rfl) B.str (by decide +kernel) (pa_cons (pe_ix ix_tup (pv 7) pe_int (fun _ _ => rfl)) pa_nil)) (pa_cons (pe_callTy (call_str_int) (by rfl) B.str (by decide +kernel) (pa_cons (pe_ix ix_tup (pv 7) pe_int (fun _ _ => rfl)) pa_nil)) pa_nil))) pa_nil)))))
      (pss_one (ps_expr (pe_bm PySem.F.plainAttrs_list PySem.F.slot_list_append PySem.F.type_list_append mt_append (pv 1) (pa_cons (pe_join pe_str (pv 5)) pa_nil)))))))))
  (pss_cons (ps_for PassesOwn.never rfl (pi_list (pe_dget (hu_of hr) (pv 0) pe_str (fun _ _ => rfl))) (pg_tup (by rfl) (pgs_cons (pg_name (i := 2) sc__law_lines.nd rfl (Or.inl rfl)) (pgs_cons (pg_name (i := 8) sc__law_lines.nd rfl (Or.inl rfl)) (pgs_cons (pg_name (i := 9) sc__law_lines.nd rfl (Or.inl rfl)) (pgs_nil)))))
      (pss_one (ps_expr (pe_bm PySem.F.plainAttrs_list PySem.F.slot_list_append PySem.F.type_list_append mt_append (pv 1) (pa_cons (pe_op op_add_str (pe_op op_add_str (pe_op op_add_str (pe_op op_add_str (pe_op op_add_str pe_str (pv 2)) pe_str) (pe_callTy (call_str_int) (by rfl) B.str (by decide +kernel) (pa_cons (pv 8) pa_nil))) pe_str) (pe_callTy (call_str_int) (by rfl) B.str (by decide +kernel) (pa_cons (pv 9) pa_nil))) pa_nil)))))
  (pss_cons (ps_for PassesOwn.never rfl (pi_list (pe_dget (hu_of hr) (pv 0) pe_str (fun _ _ => rfl))) (pg_tup (by rfl) (pgs_cons (pg_name (i := 2) sc__law_lines.nd rfl (Or.inl rfl)) (pgs_cons (pg_name (i := 10) sc__law_lines.nd rfl (Or.inl rfl)) (pgs_cons (pg_name (i := 3) sc__law_lines.nd rfl (Or.inl rfl)) (pgs_cons (pg_name (i := 11) sc__law_lines.nd rfl (Or.inl rfl)) (pgs_nil))))))
      (pss_cons (ps_set (i := 5) sc__law_lines.nd rfl (Or.inl rfl) (pe_lst (pa_cons pe_str (pa_cons (pv 2) (pa_cons pe_str (pa_cons (pe_ix ix_tup (pe_ix ix_list (pe_dget (hu_of hr) (pv 0) pe_str (fun _ _ => rfl)) (pv 10) (fun _ _ => rfl)) pe_int (fun _ _ => rfl)) pa_nil))))))
      (pss_cons (ps_for PassesOwn.never rfl (pi_range1 (by rfl) B.range (pa_cons pe_int pa_nil)) (pg_name (i := 6) sc__law_lines.nd rfl (Or.inl rfl))
          (pss_one (ps_expr (pe_bm PySem.F.plainAttrs_list PySem.F.slot_list_extend PySem.F.type_list_extend mt_extend (pv 5) (pa_cons (pe_lst (pa_cons (pe_ix ix_list (pe_lst (pa_cons pe_str (pa_cons pe_str (pa_cons pe_str (pa_cons pe_str (pa_cons pe_str pa_nil)))))) (pv 6) (fun _ _ => rfl)) (pa_cons (pe_callTy (call_str_int) (by rfl) B.str (by decide +kernel) (pa_cons (pe_ix ix_tup (pv 3) (pv 6) (fun _ _ => rfl)) pa_nil)) pa_nil))) pa_nil)))))
      (pss_cons (ps_for PassesOwn.never rfl (pi_range1 (by rfl) B.range (pa_cons pe_int pa_nil)) (pg_name (i := 6) sc__law_lines.nd rfl (Or.inl rfl))
          (pss_one (ps_expr (pe_bm PySem.F.plainAttrs_list PySem.F.slot_list_extend PySem.F.type_list_extend mt_extend (pv 5) (pa_cons (pe_lst (pa_cons (pe_ix ix_list (pe_lst (pa_cons pe_str (pa_cons pe_str (pa_cons pe_str pa_nil)))) (pv 6) (fun _ _ => rfl)) (pa_cons (pe_callTy (call_str_int) (by rfl) B.str (by decide +kernel) (pa_cons (pe_ix ix_tup (pv 11) (pv 6) (fun _ _ => rfl)) pa_nil)) pa_nil))) pa_nil)))))
      (pss_one (ps_expr (pe_bm PySem.F.plainAttrs_list PySem.F.slot_list_append PySem.F.type_list_append mt_append (pv 1) (pa_cons (pe_join pe_str (pv 5)) pa_nil))))))))
  (pss_cons (ps_for PassesOwn.never rfl (pi_list (pe_dget (hu_of hr) (pv 0) pe_str (fun _ _ => rfl))) (pg_tup (by rfl) (pgs_cons (pg_name (i := 2) sc__law_lines.nd rfl (Or.inl rfl)) (pgs_cons (pg_name (i := 10) sc__law_lines.nd rfl (Or.inl rfl)) (pgs_cons (pg_name (i := 12) sc__law_lines.nd rfl (Or.inl rfl)) (pgs_cons (pg_name (i := 7) sc__law_lines.nd rfl (Or.inl rfl)) (pgs_cons (pg_name (i := 3) sc__law_lines.nd rfl (Or.inl rfl)) (pgs_nil)))))))
      (pss_cons (ps_set (i := 5) sc__law_lines.nd rfl (Or.inl rfl) (pe_lst (pa_cons pe_str (pa_cons (pv 2) (pa_cons pe_str (pa_cons (pe_ix ix_tup (pe_ix ix_list (pe_dget (hu_of hr) (pv 0) pe_str (fun _ _ => rfl)) (pv 10) (fun _ _ => rfl)) pe_int (fun _ _ => rfl)) (pa_cons pe_str (pa_cons (pe_ix ix_tup (pe_ix ix_list (pe_dget (hu_of hr) (pv 0) pe_str (fun _ _ => rfl)) (pv 12) (fun _ _ => rfl)) pe_int (fun _ _ => rfl)) pa_nil))))))))
      (pss_cons (ps_expr (pe_bm PySem.F.plainAttrs_list PySem.F.slot_list_extend PySem.F.type_list_extend mt_extend (pv 5) (pa_cons (pe_lst (pa_cons pe_str (pa_cons (pe_callTy (call_str_int) (by rfl) B.str (by decide +kernel) (pa_cons (pe_ix ix_tup (pv 7) pe_int (fun _ _ => rfl)) pa_nil)) (pa_cons pe_str (pa_cons (pe_callTy (call_str_int) (by rfl) B.str (by decide +kernel) (pa_cons (pe_ix ix_tup (pv 7) pe_int (fun _ _ => rfl)) pa_nil)) pa_nil))))) pa_nil)))
      (pss_cons (ps_for PassesOwn.never rfl (pi_range1 (by rfl) B.range (pa_cons pe_int pa_nil)) (pg_name (i := 6) sc__law_lines.nd rfl (Or.inl rfl))
          (pss_one (ps_expr (pe_bm PySem.F.plainAttrs_list PySem.F.slot_list_extend PySem.F.type_list_extend mt_extend (pv 5) (pa_cons (pe_lst (pa_cons (pe_ix ix_list (pe_lst (pa_cons pe_str (pa_cons pe_str (pa_cons pe_str pa_nil)))) (pv 6) (fun _ _ => rfl)) (pa_cons (pe_callTy (call_str_int) (by rfl) B.str (by decide +kernel) (pa_cons (pe_ix ix_tup (pv 3) (pv 6) (fun _ _ => rfl)) pa_nil)) pa_nil))) pa_nil)))))
      (pss_one (ps_expr (pe_bm PySem.F.plainAttrs_list PySem.F.slot_list_append PySem.F.type_list_append mt_append (pv 1) (pa_cons (pe_join pe_str (pv 5)) pa_nil))))))))
  (pss_one (ps_ret (pv 1)))))))
    , ?_⟩
  have h80 := wg.h80
  have ho := wg.ok.horizon
  refine ⟨_, rfl, wd, _, rfl, get_h g, _, rfl, log_ok (by omega) (by omega), _, _, rfl, rfl, ?_⟩
  refine ⟨by have := num_len (n := W.horizon) (by omega) (by omega); have e : (Str.ofString "horizon ").length = 8 := (by decide +kernel); exact small (by show (Str.ofString "horizon ").length + (num W.horizon).length ≤ 1000; omega), Nat.le_trans (by decide : 1 ≤ 1000) (Nat.le_of_lt (small1000 (Nat.le_refl _))), fun L hL => ?_⟩
  have eL : (upd H L (.lst [.str ((Str.ofString "horizon " : Str) ++ Str.ofString (toString W.horizon))])) L = some (.lst (([wHor W.horizon].map row).map V.str)) := by
    rw [upd_same]
    show some (HO.lst [V.str ((Str.ofString "horizon " : Str) ++ num W.horizon)]) = _
    rw [row_hor]
    rfl
  have s1 := same_new hL (.lst [.str ((Str.ofString "horizon " : Str) ++ Str.ofString (toString W.horizon))])
  generalize (upd H L (.lst [.str ((Str.ofString "horizon " : Str) ++ Str.ofString (toString W.horizon))])) = H1 at eL s1
  -- satellites
  refine ⟨_, rfl, wd, _, rfl, get_s (s1 _ _ g), a, rfl, ⟨_, SqL.of (s1 _ _ a1)⟩, for_list (K := K) (a := a) (xs := xa) (fun i σ H' => ∃ y2 y3 y4 y5 y6 y7, σ = st13 (some (.ref wd)) (some (.ref L)) y2 y3 y4 y5 y6 y7 none none none none none ∧ Same H H' ∧ H' L = some (.lst ((([wHor W.horizon] ++ (W.sats.take i).map wSat).map row).map V.str)))
    ⟨none, none, none, none, none, none, rfl, s1, by rw [app_zero]; exact eL⟩ (fun i σ H' _ hI => ?_) (fun i x σ H' hx hI => ?_) (fun σ H' hI => ?_)⟩
  · obtain ⟨y2, y3, y4, y5, y6, y7, rfl, hs, hLL⟩ := hI
    exact SqL.of (hs _ _ a1)
  · obtain ⟨y2, y3, y4, y5, y6, y7, rfl, hs, hLL⟩ := hI
    obtain ⟨z, hz, hd⟩ := dpAll_get a2 hx
    have ok := wg.ok.sats z (List.mem_of_getElem? hz)
    obtain ⟨t, t1, t2, ls, rfl, k1, k2, k3, k4⟩ := sat_open hd
    have k1 := Same.tup hs k1
    have k2 := Same.tup hs k2
    have k3 := Same.tup hs k3
    have k4 := k4.same hs
    refine ⟨t, _, rfl, k1, rfl, ⟨_, _, rfl, _, _, rfl, _, _, rfl, rfl, ?_⟩⟩
    refine ⟨_, rfl, sz2_, fun wa hwa => ?_⟩
    have eL2 : L ≠ wa := ne_of_none hLL hwa
    have ll := ok.light.len (by omega)
    have lb := lights_lt h80 (Int.le_refl 0) ok.light
    refine kv_run (l := satKv z) (ws := [Str.ofString "satellite", z.name]) rfl (fun _ _ _ h => h) (by show 6 ≤ 10; decide) (satKv_ok ok) hwa (same_new hwa _) upd_same (by show 2 ≤ 900; decide) k2 (fun y H Q h => ⟨_, rfl, h⟩) (fun y H2 s2 hw2 => ?_)
    refine ⟨_, rfl, .inl ⟨rfl, _, SqL.of hw2⟩, wa, _, _, rfl, rfl, hw2, (by rw [List.length_map]; exact small1000 (by show 14 ≤ 1000; decide)), ?_⟩
    refine light_run (l := z.light) (ws := [Str.ofString "satellite", z.name] ++ flat (satKv z) ++ [Str.ofString "light"]) (by omega) lb hwa (same_at hwa s2 _) (by rw [upd_same]; rfl) (by show 15 ≤ 15; decide) k3 k4 (by omega) (fun y' H3 s3 hw3 => ?_)
    have hl3 := s3 _ _ hLL
    rw [wSat_eq] at hw3
    have okw := wSat_wd ho.2 ok
    refine ⟨_, rfl, .inl ⟨rfl, _, SqL.of hl3⟩, ⟨_, rfl⟩, _, rfl, _, wa, _, rfl, rfl, .inl (SqL.of hw3), join_fits okw (by rw [← wSat_eq, List.length_append, lightW_len]; show 15 + _ ≤ _; omega), L, _, _, rfl, rfl, hl3, app_len (n := 1) (Nat.le_refl 1) (by have := wg.ok.nSats; (clear B hr wg hwd q g a1 a2 b1 b2 c1 c2 d1 d2 h80 ho hL eL s1 hs hLL hz ok hx hd k1 k2 k3 k4 hwa eL2 ll lb s2 hw2 s3 hw3 hl3 okw; omega)) (by decide), ?_⟩
    refine ⟨_, _, _, _, _, _, rfl, same_at hL (hs.trans s3) _, ?_⟩
    rw [upd_same, join_sp, app_step hz]
  obtain ⟨y2, y3, y4, y5, y6, y7, rfl, hs1, hL1⟩ := hI
  rw [dpAll_len a2, List.length_map, List.take_length, show [wHor W.horizon] ++ W.sats.map wSat = done1 W from rfl] at hL1
  have n1 : (done1 W).length ≤ 4 := by
    show ([wHor W.horizon] ++ W.sats.map wSat).length ≤ 4
    rw [List.length_append, List.length_map]
    have := wg.ok.nSats
    show 1 + _ ≤ 4
    omega
  clear s1 eL
  -- stations
  refine ⟨_, rfl, wd, _, rfl, get_t (hs1 _ _ g), b, rfl, ⟨_, SqL.of (hs1 _ _ b1)⟩, for_list (K := K) (a := b) (xs := xb) (fun i σ H' => ∃ y2 y3 y4 y5 y6 y7 y8 y9, σ = st13 (some (.ref wd)) (some (.ref L)) y2 y3 y4 y5 y6 y7 y8 y9 none none none ∧ Same H H' ∧ H' L = some (.lst (((done1 W ++ (W.stas.take i).map wSta).map row).map V.str)))
    ⟨y2, y3, y4, y5, y6, y7, none, none, rfl, hs1, by rw [app_zero]; exact hL1⟩ (fun i σ H' _ hI => ?_) (fun i x σ H' hx hI => ?_) (fun σ H2 hI => ?_)⟩
  · obtain ⟨y2, y3, y4, y5, y6, y7, y8, y9, rfl, hs, hLL⟩ := hI
    exact SqL.of (hs _ _ b1)
  · obtain ⟨y2, y3, y4, y5, y6, y7, y8, y9, rfl, hs, hLL⟩ := hI
    obtain ⟨z, hz, hd⟩ := dpAll_get b2 hx
    have ok := wg.ok.stas z (List.mem_of_getElem? hz)
    obtain ⟨t, rfl, k1⟩ := sta_open hd
    have k1 := Same.tup hs k1
    have l1 : (Str.ofString "station " : Str).length ≤ 8 := by decide +kernel
    have l2 := len_add l1 (name_len ok.name)
    have l3 := len_add l2 (show (Str.ofString " antennas " : Str).length ≤ 10 by decide +kernel)
    have l4 := len_add l3 (num_len (n := z.antennas) (by have := ok.antennas; (clear B hr wg hwd q g a1 a2 b1 b2 c1 c2 d1 d2 h80 ho hL hs1 hL1 n1 hs hLL hz ok hx hd k1 l1 l2 l3; omega)) (by have := ok.antennas; (clear B hr wg hwd q g a1 a2 b1 b2 c1 c2 d1 d2 h80 ho hL hs1 hL1 n1 hs hLL hz ok hx hd k1 l1 l2 l3; omega)))
    have l5 := len_add l4 (show (Str.ofString " turn " : Str).length ≤ 6 by decide +kernel)
    have l6 := num_len (n := z.turn) (by have := ok.turn; (clear B hr wg hwd q g a1 a2 b1 b2 c1 c2 d1 d2 h80 ho hL hs1 hL1 n1 hs hLL hz ok hx hd k1 l1 l2 l3 l4 l5; omega)) (by have := ok.turn; (clear B hr wg hwd q g a1 a2 b1 b2 c1 c2 d1 d2 h80 ho hL hs1 hL1 n1 hs hLL hz ok hx hd k1 l1 l2 l3 l4 l5; omega))
    refine ⟨t, _, rfl, k1, rfl, ⟨_, _, rfl, _, _, rfl, _, _, rfl, rfl, ?_⟩⟩
    refine ⟨_, rfl, .inl ⟨rfl, _, SqL.of hLL⟩, _, rfl, _, _, rfl, rfl, add_fits l1 (name_len ok.name) (by decide), _, _, rfl, rfl, add_fits l2 (show (Str.ofString " antennas " : Str).length ≤ 10 by decide +kernel) (by decide), _, rfl, _, rfl, log_ok (by have := ok.antennas; (clear B hr wg hwd q g a1 a2 b1 b2 c1 c2 d1 d2 h80 ho hL hs1 hL1 n1 hs hLL hz ok hx hd k1 l1 l2 l3 l4 l5 l6; omega)) (by have := ok.antennas; (clear B hr wg hwd q g a1 a2 b1 b2 c1 c2 d1 d2 h80 ho hL hs1 hL1 n1 hs hLL hz ok hx hd k1 l1 l2 l3 l4 l5 l6; omega)),
      _, _, rfl, rfl, add_fits l3 (num_len (n := z.antennas) (by have := ok.antennas; (clear B hr wg hwd q g a1 a2 b1 b2 c1 c2 d1 d2 h80 ho hL hs1 hL1 n1 hs hLL hz ok hx hd k1 l1 l2 l3 l4 l5 l6; omega)) (by have := ok.antennas; (clear B hr wg hwd q g a1 a2 b1 b2 c1 c2 d1 d2 h80 ho hL hs1 hL1 n1 hs hLL hz ok hx hd k1 l1 l2 l3 l4 l5 l6; omega))) (by decide), _, _, rfl, rfl, add_fits l4 (show (Str.ofString " turn " : Str).length ≤ 6 by decide +kernel) (by decide), _, rfl, _, rfl, log_ok (by have := ok.turn; (clear B hr wg hwd q g a1 a2 b1 b2 c1 c2 d1 d2 h80 ho hL hs1 hL1 n1 hs hLL hz ok hx hd k1 l1 l2 l3 l4 l5 l6; omega)) (by have := ok.turn; (clear B hr wg hwd q g a1 a2 b1 b2 c1 c2 d1 d2 h80 ho hL hs1 hL1 n1 hs hLL hz ok hx hd k1 l1 l2 l3 l4 l5 l6; omega)), _, _, rfl, rfl, add_fits l5 l6 (by decide),
      L, _, _, rfl, rfl, hLL, app_len n1 (by have := wg.ok.nStas; (clear B hr wg hwd q g a1 a2 b1 b2 c1 c2 d1 d2 h80 ho hL hs1 hL1 n1 hs hLL hz ok hx hd k1 l1 l2 l3 l4 l5 l6; omega)) (by decide), ?_⟩
    refine ⟨_, _, _, _, _, _, _, _, rfl, same_at hL hs _, ?_⟩
    rw [upd_same, show (Str.ofString "station " ++ z.name ++ Str.ofString " antennas " ++ Str.ofString (toString z.antennas) ++ Str.ofString " turn " ++ Str.ofString (toString z.turn) : Str) = row (wSta z) from row_sta z, app_step hz]
  obtain ⟨y2, y3, y4, y5, y6, y7, y8, y9, rfl, hs2, hL2⟩ := hI
  rw [dpAll_len b2, List.length_map, List.take_length, show done1 W ++ W.stas.map wSta = done2 W from rfl] at hL2
  have n2 : (done2 W).length ≤ 7 := by
    show (done1 W ++ W.stas.map wSta).length ≤ 7
    rw [List.length_append, List.length_map]
    have := wg.ok.nStas
    omega
  clear hs1 hL1
  -- recordings
  refine ⟨_, rfl, wd, _, rfl, get_r (hs2 _ _ g), c, rfl, ⟨_, SqL.of (hs2 _ _ c1)⟩, for_list (K := K) (a := c) (xs := xc) (fun i σ H' => ∃ y2 y3 y4 y5 y6 y7 y8 y9 y10 y11, σ = st13 (some (.ref wd)) (some (.ref L)) y2 y3 y4 y5 y6 y7 y8 y9 y10 y11 none ∧ Same H H' ∧ H' L = some (.lst (((done2 W ++ (W.recs.take i).map (wRec W)).map row).map V.str)))
    ⟨y2, y3, y4, y5, y6, y7, y8, y9, none, none, rfl, hs2, by rw [app_zero]; exact hL2⟩ (fun i σ H' _ hI => ?_) (fun i x σ H' hx hI => ?_) (fun σ H3 hI => ?_)⟩
  · obtain ⟨y2, y3, y4, y5, y6, y7, y8, y9, y10, y11, rfl, hs, hLL⟩ := hI
    exact SqL.of (hs _ _ c1)
  · obtain ⟨y2, y3, y4, y5, y6, y7, y8, y9, y10, y11, rfl, hs, hLL⟩ := hI
    obtain ⟨z, hz, hd⟩ := dpAll_get c2 hx
    have ok := wg.ok.recs z (List.mem_of_getElem? hz)
    obtain ⟨t, t1, t2, rfl, k1, k2, k3⟩ := rec_open hd
    have k1 := Same.tup hs k1
    have k2 := Same.tup hs k2
    have k3 := Same.tup hs k3
    obtain ⟨xS, eS, dS⟩ := dpAll_get2 a2 (List.getElem?_eq_getElem ok.sat)
    obtain ⟨tS, tS1, tS2, lS, rfl, m1, _, _, _⟩ := sat_open dS
    have m1 := Same.tup hs m1
    rw [← satN_of (List.getElem?_eq_getElem ok.sat)] at m1
    refine ⟨t, _, rfl, k1, rfl, ⟨_, _, rfl, _, _, rfl, _, _, rfl, _, _, rfl, rfl, ?_⟩⟩
    refine ⟨_, rfl, _, rfl, wd, _, rfl, get_s (hs _ _ g), _, rfl, a, _, _, _, rfl, rfl, SqL.of (hs _ _ a1), atI_nat eS, tS, _, 0, _, rfl, rfl, m1, rfl, sz4_, fun wa hwa => ?_⟩
    have eL2 : L ≠ wa := ne_of_none hLL hwa
    refine kv_run (l := recKv z) (ws := [Str.ofString "recording", z.name, Str.ofString "by", satN W z.sat]) rfl (fun _ _ _ h => h) (by show 5 ≤ 10; decide) (recKv_ok h80 ok) hwa (same_new hwa _) upd_same (by show 4 ≤ 900; decide) k2 (fun y H Q h => ⟨_, rfl, h⟩) (fun y H4 s4 hw4 => ?_)
    refine kv_run (l := recKu z) (ws := [Str.ofString "recording", z.name, Str.ofString "by", satN W z.sat] ++ flat (recKv z)) rfl (fun _ _ _ h => h) (by show 3 ≤ 10; decide) (recKu_ok h80 ok) hwa s4 hw4 (by show 14 ≤ 900; decide) k3 (fun y H Q h => ⟨_, rfl, h⟩) (fun y H5 s5 hw5 => ?_)
    have hl5 := s5 _ _ hLL
    rw [wRec_eq] at hw5
    have okw := wRec_wd wg.ok ok
    refine ⟨_, rfl, .inl ⟨rfl, _, SqL.of hl5⟩, ⟨_, rfl⟩, _, rfl, _, wa, _, rfl, rfl, .inl (SqL.of hw5), join_fits okw (by show 20 ≤ 1015; decide), L, _, _, rfl, rfl, hl5, app_len n2 (by have := wg.ok.nRecs; (clear B hr wg hwd q g a1 a2 b1 b2 c1 c2 d1 d2 h80 ho hL n1 hs2 hL2 n2 hs hLL hz hx hd k1 k2 k3 eS dS m1 hwa eL2 s4 hw4 s5 hw5 hl5 okw; omega)) (by decide), ?_⟩
    refine ⟨_, _, _, _, _, _, _, _, _, _, rfl, same_at hL (hs.trans s5) _, ?_⟩
    rw [upd_same, join_sp, app_step hz]
  obtain ⟨y2, y3, y4, y5, y6, y7, y8, y9, y10, y11, rfl, hs3, hL3⟩ := hI
  rw [dpAll_len c2, List.length_map, List.take_length, show done2 W ++ W.recs.map (wRec W) = done3 W from rfl] at hL3
  have n3 : (done3 W).length ≤ 17 := by
    show (done2 W ++ W.recs.map (wRec W)).length ≤ 17
    rw [List.length_append, List.length_map]
    have := wg.ok.nRecs
    (clear B hr wg hwd q g a1 a2 b1 b2 c1 c2 d1 d2 h80 ho hL n1 hs2 hL2 hs3 hL3; omega)
  clear hs2 hL2
  -- passes
  refine ⟨_, rfl, wd, _, rfl, get_p (hs3 _ _ g), d, rfl, ⟨_, SqL.of (hs3 _ _ d1)⟩, for_list (K := K) (a := d) (xs := xd) (fun i σ H' => ∃ y2 y3 y4 y5 y6 y7 y8 y9 y10 y11 y12, σ = st13 (some (.ref wd)) (some (.ref L)) y2 y3 y4 y5 y6 y7 y8 y9 y10 y11 y12 ∧ Same H H' ∧ H' L = some (.lst (((done3 W ++ (W.pass.take i).map (wPas W)).map row).map V.str)))
    ⟨y2, y3, y4, y5, y6, y7, y8, y9, y10, y11, none, rfl, hs3, by rw [app_zero]; exact hL3⟩ (fun i σ H' _ hI => ?_) (fun i x σ H' hx hI => ?_) (fun σ H4 hI => ?_)⟩
  · obtain ⟨y2, y3, y4, y5, y6, y7, y8, y9, y10, y11, y12, rfl, hs, hLL⟩ := hI
    exact SqL.of (hs _ _ d1)
  · obtain ⟨y2, y3, y4, y5, y6, y7, y8, y9, y10, y11, y12, rfl, hs, hLL⟩ := hI
    obtain ⟨z, hz, hd⟩ := dpAll_get d2 hx
    have ok := wg.ok.pass z (List.mem_of_getElem? hz)
    obtain ⟨t, t1, t2, rfl, k1, k2, k3⟩ := pas_open hd
    have k1 := Same.tup hs k1
    have k2 := Same.tup hs k2
    have k3 := Same.tup hs k3
    obtain ⟨xS, eS, dS⟩ := dpAll_get2 a2 (List.getElem?_eq_getElem ok.sat)
    obtain ⟨tS, tS1, tS2, lS, rfl, m1, _, _, _⟩ := sat_open dS
    have m1 := Same.tup hs m1
    rw [← satN_of (List.getElem?_eq_getElem ok.sat)] at m1
    obtain ⟨xT, eT, dT⟩ := dpAll_get2 b2 (List.getElem?_eq_getElem ok.sta)
    obtain ⟨tT, rfl, m2⟩ := sta_open dT
    have m2 := Same.tup hs m2
    rw [← staN_of (List.getElem?_eq_getElem ok.sta)] at m2
    have f0 : 0 ≤ z.first ∧ z.first < 10000000 := by have := ok.first; omega
    have f1 : 0 ≤ z.fin ∧ z.fin < 10000000 := by have := ok.first; have := ok.fin; omega
    refine ⟨t, _, rfl, k1, rfl, ⟨_, _, rfl, _, _, rfl, _, _, rfl, _, _, rfl, _, _, rfl, rfl, ?_⟩⟩
    refine ⟨_, rfl, _, rfl, wd, _, rfl, get_s (hs _ _ g), _, rfl, a, _, _, _, rfl, rfl, SqL.of (hs _ _ a1), atI_nat eS, tS, _, 0, _, rfl, rfl, m1, rfl, _, rfl, wd, _, rfl, get_t (hs _ _ g), _, rfl, b, _, _, _, rfl, rfl, SqL.of (hs _ _ b1), atI_nat eT, tT, _, 0, _, rfl, rfl, m2, rfl, sz6_, fun wa hwa => ?_⟩
    have eL2 : L ≠ wa := ne_of_none hLL hwa
    have sw := same_new hwa (.lst ([Str.ofString "pass", z.name, Str.ofString "by", satN W z.sat, Str.ofString "over", staN W z.sta].map V.str))
    refine ⟨_, rfl, .inl ⟨rfl, _, SqL.of upd_same⟩, _, rfl, t1, _, 0, _, rfl, rfl, Same.tup sw k2, rfl, _, rfl, log_ok f0.1 f0.2, _, rfl, t1, _, 1, _, rfl, rfl, Same.tup sw k2, rfl, _, rfl, log_ok f1.1 f1.2, sz4_, fun wb hwb => ?_⟩
    have sx := same_new hwb (.lst ([Str.ofString "from", num z.first, Str.ofString "to", num z.fin].map V.str))
    refine ⟨wa, wb, _, _, rfl, rfl, sx _ _ upd_same, upd_same, sz10_, ?_⟩
    refine kv_run (l := pasKv z) (ws := [Str.ofString "pass", z.name, Str.ofString "by", satN W z.sat, Str.ofString "over", staN W z.sta] ++ [Str.ofString "from", num z.first, Str.ofString "to", num z.fin]) rfl (fun _ _ _ h => h) (by show 3 ≤ 10; decide) (pasKv_ok ok) hwa (same_at hwa (sw.trans sx) _) upd_same (by show 10 ≤ 900; decide) k3 (fun y H Q h => ⟨_, rfl, h⟩) (fun y H5 s5 hw5 => ?_)
    have hl5 := s5 _ _ hLL
    rw [wPas_eq] at hw5
    have okw := wPas_wd wg.ok ok
    refine ⟨_, rfl, .inl ⟨rfl, _, SqL.of hl5⟩, ⟨_, rfl⟩, _, rfl, _, wa, _, rfl, rfl, .inl (SqL.of hw5), join_fits okw (by show 16 ≤ 1015; decide), L, _, _, rfl, rfl, hl5, app_len n3 (by have := wg.ok.nPass; (clear B hr wg hwd q g a1 a2 b1 b2 c1 c2 d1 d2 h80 ho hL n1 n2 hs3 hL3 n3 hs hLL hz hx hd k1 k2 k3 eS dS m1 eT dT m2 f0 f1 hwa eL2 sw hwb sx s5 hw5 hl5 okw; omega)) (by decide), ?_⟩
    refine ⟨_, _, _, _, _, _, _, _, _, _, _, rfl, same_at hL (hs.trans s5) _, ?_⟩
    rw [upd_same, join_sp, app_step hz]
  obtain ⟨y2, y3, y4, y5, y6, y7, y8, y9, y10, y11, y12, rfl, hs4, hL4⟩ := hI
  rw [dpAll_len d2, List.length_map, List.take_length, show done3 W ++ W.pass.map (wPas W) = done4 W from rfl, done4_eq] at hL4
  exact ⟨_, rfl, q L _ hs4 hL hL4⟩
end
end DP
namespace DP
open PySem PySem.Spec PyProof.Rows L2
section
variable {P : Program} {w : World} {K : PySem.W.Frag} {mg : Str → Option Value} {base : Heap}
theorem fit_big {n : Nat} (h : n ≤ 17256) : n ≤ sizeLine := Nat.le_trans h (by unfold sizeLine; decide)
def spLawText (K : PySem.W.Frag) : Sp := fun vs H Q _ => ∃ (wd : Addr) (W : WorldD), vs = [.ref wd] ∧ WG W ∧ WdAt K H wd W ∧ ∀ H', Same H H' → Q (.str (textW W)) H'
set_option maxHeartbeats 8000000 in
theorem d_law_text (B : Bt mg) (D_law_lines : DefOk P w K mg base CX0 1 "_law_lines" ["world"] (spLawLines K)) (A : At K mg "_law_text" s__law_text ["world"]) : DefOk P w K mg base CX0 2 "_law_text" ["world"] (spLawText K) := by
  refine A.ok sc__law_text (fun vs H Q E h => ?_) (fun f cdv A outer s H vs Q E hr h => ?_)
  · obtain ⟨a, ns, rfl, _⟩ := h
    rfl
  obtain ⟨wd, W, rfl, wg, hwd, q⟩ := h
  refine ⟨_, pss_one (ps_ret (pe_join pe_str (pe_lc (own := [("line", 1)])  rfl sc__law_text.nd (pi_list (pe_f D_law_lines (hr.mono (by omega)) pass0 (pa_cons (pv 0) pa_nil))) (blkOk_by (own := [("line", 1)]) (N := ["world", "line"]) (sc := defScope s__law_text) (by decide +kernel)) (fun _ _ _ _ _ => pg_name (i := 1) sc__law_text.nd rfl (Or.inl rfl)) (fun _ _ _ _ _ => pts_nil) (fun _ _ _ _ _ => (pe_op op_add_str (pv 1) pe_str)))))
    , ?_⟩
  have lok : ∀ r ∈ (linesW W).map row, r.length ≤ 1015 * 17 := fun r hr => by
    obtain ⟨l, hl, rfl⟩ := List.mem_map.mp hr
    obtain ⟨_, h2, h3⟩ := linesW_ok wg.ok l hl
    exact Nat.le_trans (row_len h2) (Nat.mul_le_mul_right _ h3)
  have lln := linesW_len wg.ok
  obtain ⟨rows, er⟩ : ∃ r, (linesW W).map row = r := ⟨_, rfl⟩
  have lrw : rows.length ≤ 27 := by rw [← er, List.length_map]; exact lln
  have gq : Txt.join (Str.ofString "") (rows.map fun r => r ++ nl) = textW W := by
    rw [show (Str.ofString "" : Str) = Str.empty from rfl, join_nl, ← er]
    rfl
  rw [er] at lok
  refine ⟨⟨_, rfl⟩, _, rfl, wd, W, rfl, wg, hwd, fun L H1 s1 hL0 hL => ?_⟩
  rw [er] at hL
  refine ⟨L, rfl, ⟨_, SqL.of hL⟩, fun D hD => ?_⟩
  refine lc_list (K := K) (a := L) (xs := rows.map V.str) (fun i H' => Same H1 H' ∧ H' D = some (.lst (((rows.take i).map fun r => r ++ nl).map V.str))) ⟨same_new hD _, upd_same⟩ (fun i H' _ h => h.1.seq (SqL.of hL)) (fun i x H2 hx hI => ?_) (fun H2 hI => ?_)
  · obtain ⟨hs, hDD⟩ := hI
    rw [List.getElem?_map] at hx
    cases e : rows[i]? with
    | none => rw [e] at hx; cases hx
    | some r =>
      rw [e] at hx
      have ex : V.str r = x := Option.some.inj hx
      subst ex
      have hr1 := lok r (List.mem_of_getElem? e)
      have nl1 : (Str.ofString "\n" : Str).length ≤ 1 := by decide +kernel
      refine ⟨rfl, _, rfl, _, _, rfl, rfl, fit_big (by (clear B D_law_lines hr wg hwd q lln lok er lrw gq s1 hL0 hL hD hs hDD e hx; omega)), _, hDD, ?_, same_at hD hs _, ?_⟩
      · rw [List.length_map, List.length_map, List.length_take]
        exact small1000 (by (clear B D_law_lines hr wg hwd q lln lok er gq s1 hL0 hL hD hs hDD e hx hr1 nl1; omega))
      · rw [upd_same, take_snoc e]
        simp only [List.map_append, List.map_cons, List.map_nil]
        rfl
  · obtain ⟨hs, hDD⟩ := hI
    rw [List.length_map, List.take_length] at hDD
    refine ⟨_, D, _, rfl, rfl, .inl (SqL.of hDD), ?_, ?_⟩
    · have b : ∀ l : List Str, (∀ r ∈ l, r.length ≤ 1015 * 17) → ((l.map fun r => r ++ nl).map fun x => x.length).sum ≤ 17256 * l.length := fun l => by
        induction l with
        | nil => exact fun _ => Nat.zero_le _
        | cons x r ih =>
          intro hl
          have h1 := ih fun z hz => hl z (List.mem_cons_of_mem _ hz)
          have h2 := len_add (hl x List.mem_cons_self) (show nl.length ≤ 1 by decide +kernel)
          simp only [List.map_cons, List.sum_cons, List.length_cons]
          (clear B D_law_lines hr wg hwd q lln lok er lrw gq s1 hL0 hL hD hs hDD ih hl; omega)
      have := b rows lok
      rw [show (Str.ofString "" : Str).length = 0 from rfl]
      omega
    · rw [gq]
      exact q H2 (s1.trans hs)
end
end DP
namespace DP
open PySem PySem.Spec PyProof.Rows L2
theorem lk_Satellite_store {s : SatD} {t : Addr} : List.lookup ("store" : Str) (satF s t) = some (.int s.store : V) := by unfold satF; repeat (first | exact lk_hit | rw [lk_miss (by decide +kernel)])
theorem lk_Satellite_battery {s : SatD} {t : Addr} : List.lookup ("battery" : Str) (satF s t) = some (.int s.battery : V) := by unfold satF; repeat (first | exact lk_hit | rw [lk_miss (by decide +kernel)])
theorem lk_Satellite_start_level {s : SatD} {t : Addr} : List.lookup ("start_level" : Str) (satF s t) = some (.int s.level : V) := by unfold satF; repeat (first | exact lk_hit | rw [lk_miss (by decide +kernel)])
theorem lk_Satellite_reserve {s : SatD} {t : Addr} : List.lookup ("reserve" : Str) (satF s t) = some (.int s.reserve : V) := by unfold satF; repeat (first | exact lk_hit | rw [lk_miss (by decide +kernel)])
theorem lk_Satellite_charge {s : SatD} {t : Addr} : List.lookup ("charge" : Str) (satF s t) = some (.int s.charge : V) := by unfold satF; repeat (first | exact lk_hit | rw [lk_miss (by decide +kernel)])
theorem lk_Satellite_settle {s : SatD} {t : Addr} : List.lookup ("settle" : Str) (satF s t) = some (.int s.settle : V) := by unfold satF; repeat (first | exact lk_hit | rw [lk_miss (by decide +kernel)])
theorem lk_Station_antennas {s : StaD} : List.lookup ("antennas" : Str) (staF s) = some (.int s.antennas : V) := by unfold staF; repeat (first | exact lk_hit | rw [lk_miss (by decide +kernel)])
theorem lk_Station_turn {s : StaD} : List.lookup ("turn" : Str) (staF s) = some (.int s.turn : V) := by unfold staF; repeat (first | exact lk_hit | rw [lk_miss (by decide +kernel)])
theorem lk_Recording_satellite {r : RecD} : List.lookup ("satellite" : Str) (recF r) = some (.int (r.sat : Int) : V) := by unfold recF; repeat (first | exact lk_hit | rw [lk_miss (by decide +kernel)])
theorem lk_Recording_earliest {r : RecD} : List.lookup ("earliest" : Str) (recF r) = some (.int r.earliest : V) := by unfold recF; repeat (first | exact lk_hit | rw [lk_miss (by decide +kernel)])
theorem lk_Recording_latest {r : RecD} : List.lookup ("latest" : Str) (recF r) = some (.int r.latest : V) := by unfold recF; repeat (first | exact lk_hit | rw [lk_miss (by decide +kernel)])
theorem lk_Recording_length {r : RecD} : List.lookup ("length" : Str) (recF r) = some (.int r.length : V) := by unfold recF; repeat (first | exact lk_hit | rw [lk_miss (by decide +kernel)])
theorem lk_Recording_size {r : RecD} : List.lookup ("size" : Str) (recF r) = some (.int r.size : V) := by unfold recF; repeat (first | exact lk_hit | rw [lk_miss (by decide +kernel)])
theorem lk_Recording_energy {r : RecD} : List.lookup ("energy" : Str) (recF r) = some (.int r.energy : V) := by unfold recF; repeat (first | exact lk_hit | rw [lk_miss (by decide +kernel)])
theorem lk_Recording_deadline {r : RecD} : List.lookup ("deadline" : Str) (recF r) = some (.int r.deadline : V) := by unfold recF; repeat (first | exact lk_hit | rw [lk_miss (by decide +kernel)])
theorem lk_Pass_satellite {p : PasD} {t : Addr} : List.lookup ("satellite" : Str) (pasF p t) = some (.int (p.sat : Int) : V) := by unfold pasF; repeat (first | exact lk_hit | rw [lk_miss (by decide +kernel)])
theorem lk_Pass_station {p : PasD} {t : Addr} : List.lookup ("station" : Str) (pasF p t) = some (.int (p.sta : Int) : V) := by unfold pasF; repeat (first | exact lk_hit | rw [lk_miss (by decide +kernel)])
theorem lk_Pass_span {p : PasD} {t : Addr} : List.lookup ("span" : Str) (pasF p t) = some (.ref t : V) := by unfold pasF; repeat (first | exact lk_hit | rw [lk_miss (by decide +kernel)])
theorem lk_Pass_room {p : PasD} {t : Addr} : List.lookup ("room" : Str) (pasF p t) = some (.int p.room : V) := by unfold pasF; repeat (first | exact lk_hit | rw [lk_miss (by decide +kernel)])
theorem lk_Pass_energy {p : PasD} {t : Addr} : List.lookup ("energy" : Str) (pasF p t) = some (.int p.energy : V) := by unfold pasF; repeat (first | exact lk_hit | rw [lk_miss (by decide +kernel)])
theorem lk_World_satellites {u : Str} {h : Int} {t0 t1 t2 t3 : Addr} : List.lookup ("satellites" : Str) (worF u h t0 t1 t2 t3) = some (.ref t0 : V) := by unfold worF; repeat (first | exact lk_hit | rw [lk_miss (by decide +kernel)])
theorem lk_World_stations {u : Str} {h : Int} {t0 t1 t2 t3 : Addr} : List.lookup ("stations" : Str) (worF u h t0 t1 t2 t3) = some (.ref t1 : V) := by unfold worF; repeat (first | exact lk_hit | rw [lk_miss (by decide +kernel)])
theorem lk_World_recordings {u : Str} {h : Int} {t0 t1 t2 t3 : Addr} : List.lookup ("recordings" : Str) (worF u h t0 t1 t2 t3) = some (.ref t2 : V) := by unfold worF; repeat (first | exact lk_hit | rw [lk_miss (by decide +kernel)])
theorem lk_World_passes {u : Str} {h : Int} {t0 t1 t2 t3 : Addr} : List.lookup ("passes" : Str) (worF u h t0 t1 t2 t3) = some (.ref t3 : V) := by unfold worF; repeat (first | exact lk_hit | rw [lk_miss (by decide +kernel)])
theorem fit_cons {n : Nat} {d : PyData} {ds : List PyData} (h : Fit n d) (t : ∀ x ∈ ds, Fit n x) : ∀ x ∈ d :: ds, Fit n x := fun x hx => by
  rcases List.mem_cons.mp hx with rfl | hx
  · exact h
  · exact t x hx
theorem fit_nil {n : Nat} : ∀ x ∈ ([] : List PyData), Fit n x := fun _ h => absurd h List.not_mem_nil
theorem fit_int {n : Nat} {i : Int} : Fit (n + 1) (.int i) := True.intro
theorem fit_str {n : Nat} {i : Str} : Fit (n + 1) (.str i) := True.intro
theorem fit_tup {n : Nat} {ds : List PyData} (h : ds.length ≤ 1000) (t : ∀ x ∈ ds, Fit n x) : Fit (n + 1) (.tuple ds) := ⟨h, t⟩
theorem fit_lst {n : Nat} {ds : List PyData} (h : ds.length ≤ 1000) (t : ∀ x ∈ ds, Fit n x) : Fit (n + 1) (.list ds) := ⟨h, t⟩
theorem fit_map {n : Nat} {α : Type} {f : α → PyData} {l : List α} (h : ∀ a ∈ l, Fit n (f a)) : ∀ x ∈ l.map f, Fit n x := fun x hx => by
  obtain ⟨a, ha, rfl⟩ := List.mem_map.mp hx
  exact h a ha
end DP
namespace DP
open PySem PySem.Spec PyProof.Rows L2
/-- the tuple at a, each item in a new pair with its place -/
def IteT (K : PySem.W.Frag) (a : Addr) (k : Int) : It :=
  ⟨fun i H => ∃ (xs : List V) (x : V), SqT K H a xs ∧ xs[i]? = some x,
   fun i H v H' => ∃ T x, v = .ref T ∧ H T = none ∧ H' = upd H T (.tup [.int (k + (i : Nat)), x]) ∧ ∀ xs, SqT K H a xs → xs[i]? = some x,
   fun i H => ∃ xs : List V, SqT K H a xs ∧ xs.length ≤ i⟩
theorem tup_not_iter {h : Heap} {a it : Addr} {its : Array Value} {i : Nat} (l : h.IsTuple a its) (r : h.IsTupleIter it a i) : a ≠ it := fun z => by
  obtain ⟨o, ho, hc, _⟩ := l
  obtain ⟨o', ho', hc', _⟩ := r
  rw [z, ho'] at ho
  cases ho
  rw [hc] at hc'
  exact absurd hc' (by decide)
theorem turn_enumT {P : Program} {w : World} {K : PySem.W.Frag} {elts : List Expr} {kk : Nat} {tpos : Pos} (a en it : Addr) (k : Int) :
    Turn P w K (.Tuple elts kk tpos) (IteT K a k) [en, it] en (fun i h => (∃ old, IsEnum h en it (k + ((i : Nat) : Int)) old) ∧ h.IsTupleIter it a i ∧ en ≠ it) where
  mem := by simp
  obj := fun i h st b hb => by
    obtain ⟨⟨old, hen⟩, ⟨o, ho, hc, hd⟩, _⟩ := st
    have two : b = en ∨ b = it := by simpa using hb
    rcases two with z | z
    · subst z
      exact ⟨_, hen, fun v q => nomatch q⟩
    · subst z
      exact ⟨o, ho, fun v q => by rw [hd] at q; cases q⟩
  keep := fun i h h' st kp => by
    obtain ⟨⟨old, hen⟩, hi, hne⟩ := st
    exact ⟨⟨old, kp en (by simp) _ hen⟩, hi.at fun o q => kp it (by simp) o q, hne⟩
  item := by
    intro X hP hw hK hc i pins s σ H E I hf st hg
    subst hP hw hK
    obtain ⟨⟨old, hen⟩, hit, hne⟩ := st
    obtain ⟨xs, x, hq, hx⟩ := hg
    obtain ⟨its, rv, p0, hz⟩ := I.tuple hq
    have pl : s.heap.IsTuple a its.toArray := p0
    obtain ⟨u, hu, ru⟩ := rv.get hx
    have en_lt : en < s.heap.objs.size := Heap.lt_size hen
    have it_lt : it < s.heap.objs.size := by
      obtain ⟨_, q, _⟩ := hit
      exact Heap.lt_size q
    have nel := tup_not_iter pl hit
    have Dr := Draws.tuple (prog := X.prog) (w := X.w) (A := X.A.in1) (I.ok.hd hc) it a nel its.toArray
    have hi : i < its.toArray.size := by
      have := (List.getElem?_eq_some_iff.mp hu).1
      simpa using this
    by_cases ea : en = a
    · exfalso
      obtain ⟨o, ho, hc', _⟩ := pl
      rw [← ea, hen] at ho
      cases ho
      have e : Value.type "enumerate" = Value.type "tuple" := hc'
      exact absurd e (by decide)
    refine wpAny_pyNext_enum_itemC Dr hen ⟨hit, pl⟩ hi hne (by simp [hne, ea]) fun x' h' tk hP ho hit' hT hsz hk => ?_
    have ex : x' = u := by
      have e1 : its.toArray[i]? = some x' := hP
      have e2 : its.toArray[i]? = some u := by simpa using hu
      exact Option.some.inj (e1.symm.trans e2)
    subst ex
    refine ⟨_, rfl, wpAny_letOwnedTupleGo_enum (s := { s with heap := h', toks := tk + 1 }) ho fun h2 hen2 sb => ?_⟩
    have hT2 : h2.get? s.heap.objs.size = some { cls := .type "tuple", data := .seq #[.int (k + (i : Int)) tk, x'] } :=
      (sb.2 _ (Nat.ne_of_gt en_lt)).trans hT
    have fresh : H s.heap.objs.size = none := I.hok.fresh (Nat.le_refl _)
    have new : ObjOk X.prog X.w (upd H s.heap.objs.size (.tup [.int (k + (i : Nat)), x])) h2 s.heap.objs.size (.tup [.int (k + (i : Nat)), x]) :=
      ⟨(by show 2 ≤ sizeLine; decide), [.int (k + (i : Int)) tk, x'], .cons ⟨_, rfl⟩ (.cons ru .nil), ⟨_, hT2, rfl, _, rfl⟩⟩
    have keepAll : ∀ b ob, b ∉ [en, it] → s.heap.get? b = some ob → h2.get? b = some ob := fun b ob hb q => by
      have n1 : b ≠ en := fun z => hb (by simp [z])
      have n2 : b ≠ it := fun z => hb (by simp [z])
      exact (sb.2 b n1).trans (hk b ob n1 n2 q)
    have I1 := I.turnedNew (t' := tk + 1) (ch := [en, it]) keepAll hf (Nat.le_refl _) new
    refine ⟨.ref s.heap.objs.size, _, I1, rfl, ⟨_, x, rfl, fresh, rfl, fun ys hy => ?_⟩, ⟨⟨x', ?_⟩, ?_, hne⟩, fun b hb => ?_⟩
    · rw [I.tuple_inj hy hq]
      exact hx
    · have e1 : k + ((i + 1 : Nat) : Int) = k + (i : Int) + 1 := by (clear hc I hf hen hit hne hq hx rv p0 hz pl en_lt it_lt nel Dr hi ea hP ho hit' hT hsz hk hu ru hen2 sb hT2 fresh new keepAll I1; omega)
      rw [e1]
      exact hen2
    · exact hit'.1.at fun o q => (sb.2 it (Ne.symm hne)).trans q
    · have hb' : b < s.heap.objs.size := by
        have two : b = en ∨ b = it := by simpa using hb
        rcases two with z | z
        · rw [z]; exact en_lt
        · rw [z]; exact it_lt
      rw [upd_ne (Nat.ne_of_lt hb')]
      exact (hf b hb).1
  done := by
    intro X hP hw hK hc i pins s σ H E I hf st hg
    subst hP hw hK
    obtain ⟨⟨old, hen⟩, hit, hne⟩ := st
    obtain ⟨xs, hq, hx⟩ := hg
    obtain ⟨its, rv, p0, hz⟩ := I.tuple hq
    have pl : s.heap.IsTuple a its.toArray := p0
    have hl := rv.length
    obtain ⟨f0, f1, f2, f3, f4, f5⟩ := hf it (by simp)
    have hT : s.TypeIs (.ref en) "enumerate" := ⟨_, hen, rfl⟩
    unfold pyNext
    refine wpAny_bind (wpAny_attempt (wpAny_callSpecial?_slot (name := Str.ofString "__next__") hT F.slot_enumerate_next
      (wpAny_call_entry F.slot_enumerate_next hT F.entry_enumerate_next ?_
        (F.args_enumerate_next_1 _))))
    show wpAny _ _ (field (.ref en) 2 >>= _) _ _ _
    refine wpAny_bind (wpAny_field hen rfl (x := .ref it) rfl ?_)
    refine wpAny_bind (wpAny_nextOf_tuple_end (I.ok.hd hc) hit pl (by simp; omega) fun h' e eb hcl => ?_)
    obtain ⟨o, ho, hcs⟩ := hcl
    refine wpAny_bind (wpAny_isInstance (T := "StopIteration") (b := true) ⟨o, ho, hcs⟩ isSubtype_stop ?_)
    exact wpAny_pure ⟨rfl, I.turned (t' := s.toks) (fun b o hb q => eb b o hb q) f0 f1 f3 f4 f5⟩
  self := fun A i s Q E st h => let ⟨⟨_, hen⟩, _⟩ := st; wpAny_pyIter_enum hen h
theorem meets_enum1 {v : Value} {o : Obj} {H : Heap → Prop} (B : Begins v o H) :
    Meets (Builtin.«enumerate.__new__» ⟨[.type "enumerate", v], []⟩) (fun _ R s => H s.heap ∧
      R (.ok (.ret (.ref (s.heap.push o).objs.size))) { s with heap := (s.heap.push o).push { cls := .type "enumerate", data := .fields #[.none, .bool false, .ref s.heap.objs.size, rawInt 0, .none, .none] } }) :=
  .of_wp fun prog w A R s h => by
    obtain ⟨hp, g, d, tk, os⟩ := s
    obtain ⟨h1, h⟩ := h
    have hsub := sub_enumerate
    have q1 : ∀ {A' : Around} {E : Value → Shared → Prop} {Q : Value → Shared → Prop}, Q (.ref hp.objs.size) ⟨hp.push o, g, d, tk, os⟩ → wpAny (model prog w) A' (pyIter v) Q E ⟨hp, g, d, tk, os⟩ :=
      fun q => B.iter prog w _ _ ⟨hp, g, d, tk, os⟩ _ h1 q
    wp_walk using q1
    refine wpAny_stack_any fun st => wpAny_pure ?_
    split
    · rename_i c _ _ _ _ _
      cases (c == Value.type "enumerate")
      · wp_walk using q1
        exact ⟨_, rfl, h⟩
      · wp_walk using q1
        exact ⟨_, rfl, h⟩
    · wp_walk using q1
      exact ⟨_, rfl, h⟩
theorem enum_begins1 {prog : Program} {w : World} {A : Around} {E : Value → Shared → Prop} {s : Shared} {v : Value} {o : Obj} {H : Heap → Prop} {Q : Value → Shared → Prop} (B : Begins v o H) (h1 : H s.heap)
    (h : ∀ h', IsEnum h' (s.heap.objs.size + 1) s.heap.objs.size 0 .none → h'.get? s.heap.objs.size = some o → (∀ b o, s.heap.get? b = some o → h'.get? b = some o) → Q (.ref (s.heap.objs.size + 1)) { s with heap := h' }) :
    wpAny (model prog w) A (call (.type "enumerate") [v]) Q E s := by
  refine callType_new F.called_enumerate (by decide) (F.typeCall_enumerate_1 _) (F.newCall_enumerate_1 _) (fun obj => F.args_object_init_2 obj _) F.entry_enumerate_new (meets_enum1 B) ⟨h1, ?_⟩
  have hz : (s.heap.push o).objs.size = s.heap.objs.size + 1 := Heap.size_push ..
  show _ ∧ _
  rw [hz]
  have hen : IsEnum ((s.heap.push o).push { cls := .type "enumerate", data := .fields #[.none, .bool false, .ref s.heap.objs.size, rawInt 0, .none, .none] }) (s.heap.objs.size + 1) s.heap.objs.size 0 .none := by
    have z := Heap.get?_push_size (s.heap.push o) (o := { cls := .type "enumerate", data := .fields #[.none, .bool false, .ref s.heap.objs.size, rawInt 0, .none, .none] }) rfl
    rw [hz] at z
    exact z
  exact ⟨⟨_, hen, rfl⟩, h _ hen (Heap.get?_push_of_some _ (Heap.get?_push_size _ B.free)) fun b o x => Heap.get?_push_of_some _ (Heap.get?_push_of_some _ x)⟩
def iEnumT (K : PySem.W.Frag) (ta : TA) : TI := fun σ H R => ta σ H fun vs H1 => ∃ a xs, vs = [.ref a] ∧ SqT K H1 a xs ∧ R (IteT K a 0) H1
theorem pi_enumT {X : Cx} {e : Expr} {ta : TA} {p pos tpos : Pos} {elts : List Expr} {kk : Nat} (hg : Gl X "enumerate") (hm : X.mg "enumerate" = none) (ha : PA X [e] ta) (hs : starEach [e] X.env = [(false, eval e X.env)] := by rfl) :
    PI X (.Tuple elts kk tpos) (.Call (.Name "enumerate" p) [e] [] pos) (iEnumT X.K ta) := by
  refine ⟨fun pins s σ H R I h => ?_⟩
  refine Call_ (ld_blt I hg hm boot_enumerate (PyProof.Rows.callWith_type1 (thn (ha.run pos pins s σ H _ I h) fun us s1 ⟨vs, H1, I1, r1, q1⟩ => ?_) hs rfl))
  obtain ⟨a, xs, ex, hq, q⟩ := q1
  subst ex
  obtain ⟨u, eu, ru⟩ := vals1 r1
  subst eu
  cases ru
  obtain ⟨its, rv, p0, hz⟩ := I1.tuple hq
  have pl : s1.heap.IsTuple a its.toArray := p0
  refine enum_begins1 (begins_tuple a its.toArray) pl fun h' hen hit hkp => wpAny_pyIter_enum hen ?_
  have I3 : Inv X pins σ H1 { s1 with heap := h' } := I1.kept (t' := s1.toks) hkp
  refine ⟨s1.heap.objs.size + 1, [s1.heap.objs.size + 1, s1.heap.objs.size], _, _, H1, rfl, I3, turn_enumT a (s1.heap.objs.size + 1) s1.heap.objs.size 0,
    ⟨⟨.none, ?_⟩, ⟨_, hit, rfl, rfl⟩, Nat.succ_ne_self _⟩, fun b hb => ?_, q⟩
  · show IsEnum h' _ _ (0 + 0) _
    rw [Int.add_zero]
    exact hen
  · have two : b = s1.heap.objs.size + 1 ∨ b = s1.heap.objs.size := by simpa using hb
    have hle : s1.heap.objs.size ≤ b := by
      rcases two with z | z
      · rw [z]; exact Nat.le_add_right _ 1
      · rw [z]; exact Nat.le_refl _
    exact I1.fpOk hle (I1.hok.fresh hle)
theorem walk_enumT {K : PySem.W.Frag} {a : Addr} {k : Int} {xs : List V} :
    Walk (IteT K a k) xs.length (fun H => SqT K H a xs) (fun i H v H' => ∃ T x, v = .ref T ∧ H T = none ∧ H' = upd H T (.tup [.int (k + (i : Nat)), x]) ∧ xs[i]? = some x) :=
  ⟨fun i H hi q => ⟨xs, xs[i], q, List.getElem?_eq_getElem hi⟩, fun H q => ⟨xs, q, Nat.le_refl _⟩, fun i H v H' hi q ⟨T, x, e1, e2, e3, e4⟩ => ⟨T, x, e1, e2, e3, e4 xs q⟩⟩
end DP
namespace DP
open PySem PySem.Spec PyProof.Rows L2
def okP (r : RecD) (s : Int) (p : PasD) : Bool := decide ((p.sat : Int) = (r.sat : Int)) && (decide (s + r.length ≤ p.first) && decide (p.fin ≤ r.deadline))
def optAt (P : List PasD) (r : RecD) (s : Int) (k : Nat) : List (Int × Int) := match P[k]? with
  | some p => if okP r s p = true then [(s, (k : Int))] else []
  | none => []
def optS (P : List PasD) (r : RecD) (s : Int) (j : Nat) : List (Int × Int) := (List.range j).flatMap (optAt P r s)
def optR (P : List PasD) (r : RecD) (i : Nat) : List (Int × Int) := (List.range i).flatMap fun (t : Nat) => optS P r (r.earliest + (t : Int)) P.length
def optsW (W : WorldD) (r : RecD) : List (Int × Int) := optR W.pass r (r.latest + 1 - r.earliest).toNat
theorem optS_succ (P : List PasD) (r : RecD) (s : Int) (j : Nat) : optS P r s (j + 1) = optS P r s j ++ optAt P r s j := by
  unfold optS
  rw [List.range_succ, List.flatMap_append, List.flatMap_cons, List.flatMap_nil, List.append_nil]
theorem optR_succ (P : List PasD) (r : RecD) (i : Nat) : optR P r (i + 1) = optR P r i ++ optS P r (r.earliest + (i : Int)) P.length := by
  unfold optR
  rw [List.range_succ, List.flatMap_append, List.flatMap_cons, List.flatMap_nil, List.append_nil]
theorem optAt_len (P : List PasD) (r : RecD) (s : Int) (k : Nat) : (optAt P r s k).length ≤ 1 := by
  unfold optAt
  split
  · split <;> simp
  · exact Nat.zero_le _
theorem optS_len (P : List PasD) (r : RecD) (s : Int) : ∀ j, (optS P r s j).length ≤ j
  | 0 => Nat.zero_le _
  | j + 1 => by
    rw [optS_succ, List.length_append]
    have h1 := optS_len P r s j
    have h2 := optAt_len P r s j
    omega
theorem optR_len (P : List PasD) (r : RecD) : ∀ i, (optR P r i).length ≤ i * P.length
  | 0 => by show 0 ≤ _; exact Nat.zero_le _
  | i + 1 => by
    rw [optR_succ, List.length_append, Nat.succ_mul]
    have h1 := optR_len P r i
    have h2 := optS_len P r (r.earliest + (i : Int)) P.length
    omega
theorem optAt_some {P : List PasD} {r : RecD} {s : Int} {k : Nat} {p : PasD} (h : P[k]? = some p) : optAt P r s k = if okP r s p = true then [(s, (k : Int))] else [] := by
  unfold optAt
  rw [h]
theorem room_opts {W : WorldD} {z : RecD} (ok : RecOk W z) (n : W.pass.length ≤ 10) {i : Nat} (hi : i ≤ (z.latest + 1 - z.earliest).toNat) {j : Nat} (s : Int) : (optR W.pass z i ++ optS W.pass z s j).length ≤ 210 + j := by
  rw [List.length_append]
  have h1 := optR_len W.pass z i
  have h2 := optS_len W.pass z s j
  have h3 := ok.latest
  have h4 : i ≤ 21 := by (clear ok n h1 h2; omega)
  have h5 : i * W.pass.length ≤ 21 * 10 := Nat.mul_le_mul h4 n
  (clear ok n hi h3 h4; omega)
theorem optsW_len {W : WorldD} (wok : WorldOk W) {z : RecD} (ok : RecOk W z) : (optsW W z).length ≤ 210 := by
  have h := room_opts ok wok.nPass (Nat.le_refl _) (j := 0) 0
  rw [List.length_append] at h
  show (optR _ _ _).length ≤ _
  omega
end DP
namespace DP
open PySem PySem.Spec PyProof.Rows L2
abbrev s__law_options : Stmt := topS 91
theorem sc__law_options : FnScope ["world", "number", "name", "satellite", "numbers", "urgency", "found", "start", "p", "chance"] ["world", "number"] (defScope s__law_options) := ⟨rfl, rfl, rfl, by decide +kernel, rfl, by decide +kernel, by decide +kernel⟩
section
variable {P : Program} {w : World} {K : PySem.W.Frag} {mg : Str → Option Value} {base : Heap} {CL CS CT CR CP CW aS aR fS fT fR fP : Addr}
def spLawOptions (K : PySem.W.Frag) : Sp := fun vs H Q _ => ∃ (wd : Addr) (W : WorldD) (i : Nat) (z : RecD), vs = [.ref wd, .int (i : Int)] ∧ WorldOk W ∧ WdAt K H wd W ∧ W.recs[i]? = some z ∧
  ∀ l xs H', Same H H' → H l = none → H' l = some (.lst xs) → Spans K H' xs (optsW W z) → Q (.ref l) H'
set_option maxHeartbeats 8000000 in
theorem d_law_options (B : Bt mg) (A : At K mg "_law_options" s__law_options ["world", "number"]) : DefOk P w K mg base CX0 1 "_law_options" ["world", "number"] (spLawOptions K) := by
  refine A.ok sc__law_options (fun vs H Q E h => ?_) (fun f cdv A outer s H vs Q E hr h => ?_)
  · obtain ⟨wd, W, i, z, rfl, _⟩ := h
    rfl
  obtain ⟨wd, W, i, z, rfl, wok, hwd, hz, q⟩ := h
  obtain ⟨a, b, c, d, xa, xb, xc, xd, g, a1, a2, b1, b2, c1, c2, d1, d2⟩ := hwd.ex
  have ok := wok.recs z (List.mem_of_getElem? hz)
  have nP := wok.nPass
  have k1 := ok.earliest
  have k2 := ok.latest
  have k3 := wok.horizon
  have m3 := dpAll_len d2
  rw [List.length_map] at m3
  obtain ⟨v, ev, dv⟩ := dpAll_get2 c2 hz
  obtain ⟨t, t1, t2, rfl, u1, u2, u3⟩ := rec_open dv
  refine ⟨_, pss_cons (ps_asg (pe_ix ix_list (pe_dget (hu_of hr) (pv 0) pe_str (fun _ _ => rfl)) (pv 1) (fun _ _ => rfl)) (pg_tup (by rfl) (pgs_cons (pg_name (i := 2) sc__law_options.nd rfl (Or.inl rfl)) (pgs_cons (pg_name (i := 3) sc__law_options.nd rfl (Or.inl rfl)) (pgs_cons (pg_name (i := 4) sc__law_options.nd rfl (Or.inl rfl)) (pgs_cons (pg_name (i := 5) sc__law_options.nd rfl (Or.inl rfl)) (pgs_nil)))))))
  (pss_cons (ps_set (i := 6) sc__law_options.nd rfl (Or.inl rfl) (pe_lst pa_nil))
  (pss_cons (ps_for PassesOwn.never rfl (pi_range2 (by rfl) B.range (pa_cons (pe_ix ix_tup (pv 4) pe_int (fun _ _ => rfl)) (pa_cons (pe_op op_add (pe_ix ix_tup (pv 4) pe_int (fun _ _ => rfl)) pe_int) pa_nil))) (pg_name (i := 7) sc__law_options.nd rfl (Or.inl rfl))
      (pss_one (ps_for PassesOwn.never rfl (pi_range1 (by rfl) B.range (pa_cons (pe_callB (call_len_seq) (by rfl) B.len (by decide +kernel) (pa_cons (pe_dget (hu_of hr) (pv 0) pe_str (fun _ _ => rfl)) pa_nil)) pa_nil)) (pg_name (i := 8) sc__law_options.nd rfl (Or.inl rfl))
          (pss_cons (ps_set (i := 9) sc__law_options.nd rfl (Or.inl rfl) (pe_ix ix_list (pe_dget (hu_of hr) (pv 0) pe_str (fun _ _ => rfl)) (pv 8) (fun _ _ => rfl)))
          (pss_one (ps_if (PW.pt (pw_and (pt_cmpR op_eq (pe_ix ix_tup (pv 9) pe_int (fun _ _ => rfl)) (pv 3) (nomark _)) (pw_and (pt_cmpR op_le (pe_op op_add (pv 7) (pe_ix ix_tup (pv 4) pe_int (fun _ _ => rfl))) (pe_ix ix_tup (pe_ix ix_tup (pv 9) pe_int (fun _ _ => rfl)) pe_int (fun _ _ => rfl)) (nomark _)) (pw_and1 (pt_cmpR op_le (pe_ix ix_tup (pe_ix ix_tup (pv 9) pe_int (fun _ _ => rfl)) pe_int (fun _ _ => rfl)) (pe_ix ix_tup (pv 5) pe_int (fun _ _ => rfl)) (nomark _))))))
              (pss_one (ps_expr (pe_bm PySem.F.plainAttrs_list PySem.F.slot_list_append PySem.F.type_list_append mt_append (pv 6) (pa_cons (pe_tup (pa_cons (pv 7) (pa_cons (pv 8) pa_nil))) pa_nil))))
              (pss_nil)))))))
  (pss_one (ps_ret (pv 6)))))
    , ?_⟩
  refine ⟨_, rfl, wd, _, rfl, get_r g, _, rfl, c, xc, (i : Int), _, rfl, rfl, SqL.of c1, atI_nat ev, t, _, rfl, u1, rfl, _, _, rfl, _, _, rfl, _, _, rfl, _, _, rfl, rfl, ?_⟩
  refine ⟨Nat.zero_le _, fun D hD => ?_⟩
  have sD := same_new hD (.lst [])
  refine ⟨_, rfl, t1, _, 0, _, rfl, rfl, Same.tup sD u2, rfl, _, rfl, t1, _, 1, _, rfl, rfl, Same.tup sD u2, rfl, _, _, rfl, rfl, z.earliest, z.latest + 1, rfl, ⟨by omega, by omega, by omega, by omega⟩, ?_⟩
  refine for_range (lo := z.earliest) (n := (z.latest + 1 - z.earliest).toNat) (fun j σ H' => ∃ (xs : List V) (y7 y8 y9 : Option V), σ = [some (.ref wd), some (.int (i : Int)), some (.str z.name), some (.int (z.sat : Int)), some (.ref t1), some (.ref t2), some (.ref D), y7, y8, y9] ∧ H' D = some (.lst xs) ∧ Spans K H' xs (optR W.pass z j) ∧ Same H H')
    ⟨[], none, none, none, rfl, upd_same, (show Spans K _ [] [] from .nil), sD⟩ (fun j σ H1 hj hI => ?_) (fun σ H1 hI => ?_)
  · obtain ⟨xs, y7, y8, y9, rfl, hDD, hsp, hs⟩ := hI
    refine ⟨_, rfl, wd, _, rfl, get_p (hs _ _ g), d, xd, rfl, .inl (SqL.of (hs _ _ d1)), _, rfl, by (clear B hr wok hwd hz q g a1 a2 b1 b2 c1 c2 d1 d2 ok k1 k2 k3 ev dv u1 u2 u3 hD sD hj hDD hsp hs; omega), by (clear B hr wok hwd hz q g a1 a2 b1 b2 c1 c2 d1 d2 ok k1 k2 k3 ev dv u1 u2 u3 hD sD hj hDD hsp hs; omega), ?_⟩
    refine for_range (lo := 0) (n := (xd.length : Int).toNat) (fun k σ H' => ∃ (xs : List V) (y8 y9 : Option V), σ = [some (.ref wd), some (.int (i : Int)), some (.str z.name), some (.int (z.sat : Int)), some (.ref t1), some (.ref t2), some (.ref D), some (.int (z.earliest + (j : Int))), y8, y9] ∧ H' D = some (.lst xs) ∧
      Spans K H' xs (optR W.pass z j ++ optS W.pass z (z.earliest + (j : Int)) k) ∧ Same H H') ⟨xs, _, _, rfl, hDD, by show Spans K H1 xs (optR W.pass z j ++ []); rw [List.append_nil]; exact hsp, hs⟩ (fun k σ H2 hk hI => ?_) (fun σ H2 hI => ?_)
    · obtain ⟨xs, y8, y9, rfl, hDD, hsp, hs⟩ := hI
      have hk' : k < W.pass.length := by (clear B hr wok hwd hz q g a1 a2 b1 b2 c1 c2 d1 d2 ok k1 k2 k3 ev dv u1 u2 u3 hD sD hj hDD hsp hs; omega)
      have hc : W.pass[k]? = some W.pass[k] := List.getElem?_eq_getElem hk'
      obtain ⟨p, ep⟩ : ∃ p, W.pass[k] = p := ⟨_, rfl⟩
      rw [ep] at hc
      obtain ⟨v, ev2, dv2⟩ := dpAll_get2 d2 hc
      obtain ⟨tc, tc1, tc2, rfl, w1, w2, w3⟩ := pas_open dv2
      have hll := paired_len hsp
      have hrm := room_opts ok nP (Nat.le_of_lt hj) (j := k) (z.earliest + (j : Int))
      have kl : k ≤ 10 := by (clear B hr wok hwd hz q g a1 a2 b1 b2 c1 c2 d1 d2 ok k1 k2 k3 ev dv u1 u2 u3 hD sD hj hk hDD hsp hs hc ep ev2 dv2 w1 w2 w3 hll hrm; omega)
      have ea := optAt_some (r := z) (s := z.earliest + (j : Int)) hc
      have w1 := Same.tup hs w1
      have w2 := Same.tup hs w2
      have u2 := Same.tup hs u2
      have u3 := Same.tup hs u3
      have no : okP z (z.earliest + (j : Int)) p = false → Spans K H2 xs (optR W.pass z j ++ optS W.pass z (z.earliest + (j : Int)) (k + 1)) := fun e => by
        rw [optS_succ, ea, e, if_neg Bool.false_ne_true, List.append_nil]
        exact hsp
      refine ⟨_, rfl, wd, _, rfl, get_p (hs _ _ g), _, rfl, d, xd, (k : Int), _, rfl, by rw [Int.zero_add], SqL.of (hs _ _ d1), atI_nat ev2, ?_⟩
      refine ⟨_, rfl, tc, _, 1, _, rfl, rfl, w1, rfl, _, rfl, rfl, _, rfl, ite2 (fun e1 => ?_) (fun e1 => iteF ?_)⟩
      · refine ⟨_, rfl, _, rfl, t1, _, 2, _, rfl, rfl, u2, rfl, _, _, rfl, rfl, _, rfl, tc, _, 3, _, rfl, rfl, w1, rfl, tc1, _, 0, _, rfl, rfl, w2, rfl, _, _, rfl, rfl, _, rfl, ite2 (fun e2 => ?_) (fun e2 => iteF ?_)⟩
        · refine ⟨_, rfl, tc, _, 3, _, rfl, rfl, w1, rfl, tc1, _, 1, _, rfl, rfl, w2, rfl, _, rfl, t2, _, 2, _, rfl, rfl, u3, rfl, _, _, rfl, rfl, _, rfl, ite2 (fun e3 => ?_) (fun e3 => ?_)⟩
          · refine ⟨_, rfl, .inl ⟨rfl, _, SqL.of hDD⟩, _, rfl, _, rfl, sz2_, fun tn htn => ?_⟩
            have sB := same_new htn (.tup [.int (z.earliest + (j : Int)), .int (0 + (k : Nat))])
            refine ⟨D, xs, .ref tn, rfl, rfl, sB _ _ hDD, by rw [hll]; exact small1000 (by (clear B hr wok hwd hz q g a1 a2 b1 b2 c1 c2 d1 d2 ok k1 k2 k3 ev dv u1 hD sD hj hk hDD hsp hs hc ep ev2 dv2 w3 hll ea w1 w2 u2 u3 no e1 e2 e3 htn sB; omega)), ?_⟩
            have yes : okP z (z.earliest + (j : Int)) p = true := by
              unfold okP
              rw [show decide ((p.sat : Int) = (z.sat : Int)) = true from decide_eq_true (V.int.inj (of_decide_eq_true e1)), show decide (z.earliest + (j : Int) + z.length ≤ p.first) = true from e2, show decide (p.fin ≤ z.deadline) = true from e3]
              rfl
            refine ⟨xs ++ [.ref tn], _, _, rfl, upd_same, ?_, same_at hD (hs.trans sB) _⟩
            rw [optS_succ, ea, yes, if_pos rfl, ← List.append_assoc]
            exact Spans.upd (paired_snoc (hsp.same sB) ⟨tn, rfl, SqT.of (by rw [upd_same, Int.zero_add])⟩) (sB _ _ hDD)
          · refine ⟨xs, _, _, rfl, hDD, no ?_, hs⟩
            unfold okP
            rw [show decide (p.fin ≤ z.deadline) = false from Bool.eq_false_iff.mpr e3, Bool.and_false, Bool.and_false]
        · refine ⟨xs, _, _, rfl, hDD, no ?_, hs⟩
          unfold okP
          rw [show decide (z.earliest + (j : Int) + z.length ≤ p.first) = false from Bool.eq_false_iff.mpr e2, Bool.false_and, Bool.and_false]
      · refine ⟨xs, _, _, rfl, hDD, no ?_, hs⟩
        unfold okP
        rw [show decide ((p.sat : Int) = (z.sat : Int)) = false from decide_eq_false fun q => e1 (decide_eq_true (by rw [q])), Bool.false_and]
    · obtain ⟨xs, y8, y9, rfl, hDD, hsp, hs⟩ := hI
      rw [show (xd.length : Int).toNat = W.pass.length by (clear B hr wok hwd hz q g a1 a2 b1 b2 c1 c2 d1 d2 ok k1 k2 k3 ev dv u1 u2 u3 hD sD hj hDD hsp hs; omega), ← optR_succ] at hsp
      exact ⟨xs, _, _, _, rfl, hDD, hsp, hs⟩
  · obtain ⟨xs, y7, y8, y9, rfl, hDD, hsp, hs⟩ := hI
    exact ⟨_, rfl, q D xs _ hs hD hDD hsp⟩
end
end DP
namespace DP
open PySem PySem.Spec PyProof.Rows L2
abbrev s__law_case : Stmt := topS 92
theorem sc__law_case : FnScope ["script", "first", "world", "open_too", "stream", "made", "r", "listed", "kind", "entry", "taken", "p"] ["script", "first", "world", "open_too"] (defScope s__law_case) := ⟨rfl, rfl, rfl, by decide +kernel, rfl, by decide +kernel, by decide +kernel⟩
inductive EntM where
  | non : EntM
  | opn : EntM
  | at_ (s p : Int) : EntM
inductive EntT where
  | non : EntT
  | opn : EntT
  | ant (n : Int) : EntT
def entM : EntM → PyData
  | .non => .none
  | .opn => .str "open"
  | .at_ s p => .tuple [.int s, .int p]
def entT : EntT → PyData
  | .non => .none
  | .opn => .str "open"
  | .ant n => .int n
theorem noL_entM (e : EntM) : noL (entM e) := by cases e <;> simp [entM, noL, noLs]
theorem noL_entT (e : EntT) : noL (entT e) := by cases e <;> simp [entT, noL]
structure CaseD where
  made : List EntM
  taken : List EntT
def casePy (c : CaseD) : PyData := .tuple [.tuple (c.made.map entM), .tuple (c.taken.map entT)]
/-- what an entry of a drawn case can be -/
def MOk (W : WorldD) (o : Bool) : EntM → Prop
  | .non => True
  | .opn => o = true
  | .at_ s p => 0 ≤ s ∧ s ≤ W.horizon ∧ 0 ≤ p ∧ p < (W.pass.length : Int)
def TOk (o : Bool) : EntT → Prop
  | .non => True
  | .opn => o = true
  | .ant n => 0 ≤ n ∧ n ≤ 5
structure CaseG (W : WorldD) (o : Bool) (c : CaseD) : Prop where
  nM : c.made.length = W.recs.length
  nT : c.taken.length = W.pass.length
  mOk : ∀ e ∈ c.made, MOk W o e
  tOk : ∀ e ∈ c.taken, TOk o e
theorem optsW_mem {W : WorldD} {z : RecD} (ok : RecOk W z) {q : Int × Int} (h : q ∈ optsW W z) : 0 ≤ q.1 ∧ q.1 ≤ W.horizon ∧ 0 ≤ q.2 ∧ q.2 < (W.pass.length : Int) := by
  unfold optsW optR at h
  obtain ⟨i, hi, h⟩ := List.mem_flatMap.mp h
  unfold optS at h
  obtain ⟨k, hk, h⟩ := List.mem_flatMap.mp h
  rw [List.mem_range] at hi hk
  unfold optAt at h
  have h1 := ok.earliest
  have h2 := ok.latest
  split at h
  · split at h
    · have e := List.mem_singleton.mp h
      rw [e]
      dsimp only
      omega
    · exact absurd h List.not_mem_nil
  · exact absurd h List.not_mem_nil
section
variable {P : Program} {w : World} {K : PySem.W.Frag} {mg : Str → Option Value} {base : Heap}
theorem dp_at {H : Hp} {v : V} {s p : Int} (h : SpanV K H v (s, p)) : Dp K H v (entM (.at_ s p)) := by
  obtain ⟨t, rfl, ht⟩ := h
  exact .tup ht (.cons (.int _) (.cons (.int _) .nil))
def spCase (K : PySem.W.Frag) : Sp := fun vs H Q _ => ∃ (a : Addr) (ns : List Int) (first : Int) (wd : Addr) (W : WorldD) (o : Bool), vs = [.ref a, .int first, .ref wd, .bl o] ∧ SqL K H a (ns.map V.int) ∧ 0 ≤ first ∧ WG W ∧ WdAt K H wd W ∧
  ∀ v H' c, Same H H' → CaseG W o c → Dp K H' v (casePy c) → Q v H'
set_option maxHeartbeats 8000000 in
theorem d_case (B : Bt mg) (D_law_stream : DefOk P w K mg base CX0 2 "_law_stream" ["script", "first", "count"] (spStream K)) (D_law_next : DefOk P w K mg base CX0 1 "_law_next" ["stream", "many"] spNext)
    (D_law_options : DefOk P w K mg base CX0 1 "_law_options" ["world", "number"] (spLawOptions K)) (A : At K mg "_law_case" s__law_case ["script", "first", "world", "open_too"]) : DefOk P w K mg base CX0 3 "_law_case" ["script", "first", "world", "open_too"] (spCase K) := by
  refine A.ok sc__law_case (fun vs H Q E h => ?_) (fun f cdv A outer s H vs Q E hr h => ?_)
  · obtain ⟨a, ns, first, wd, W, o, rfl, _⟩ := h
    rfl
  obtain ⟨a, ns, first, wd, W, o, rfl, hS, hf0, wg, hwd, q⟩ := h
  refine ⟨_, pss_cons (ps_set (i := 4) sc__law_case.nd rfl (Or.inl rfl) (pe_f D_law_stream (hr.mono (by omega)) pass0 (pa_cons (pv 0) (pa_cons (pv 1) (pa_cons pe_int pa_nil)))))
  (pss_cons (ps_set (i := 5) sc__law_case.nd rfl (Or.inl rfl) (pe_lst pa_nil))
  (pss_cons (ps_for PassesOwn.never rfl (pi_range1 (by rfl) B.range (pa_cons (pe_callB (call_len_seq) (by rfl) B.len (by decide +kernel) (pa_cons (pe_dget (hu_of hr) (pv 2) pe_str (fun _ _ => rfl)) pa_nil)) pa_nil)) (pg_name (i := 6) sc__law_case.nd rfl (Or.inl rfl))
      (pss_cons (ps_set (i := 7) sc__law_case.nd rfl (Or.inl rfl) (pe_f D_law_options (hr.mono (by omega)) pass0 (pa_cons (pv 2) (pa_cons (pv 6) pa_nil))))
      (pss_cons (ps_set (i := 8) sc__law_case.nd rfl (Or.inl rfl) (pe_f D_law_next (hr.mono (by omega)) pass0 (pa_cons (pv 4) (pa_cons pe_int pa_nil))))
      (pss_cons (ps_set (i := 9) sc__law_case.nd rfl (Or.inl rfl) pe_non)
      (C8.pss_cut (ps_if (PW.pt (pw_and (pt_cmpR op_gt (pv 8) pe_int (nomark _)) (pw_and1 (pt_truth (pv 7) (by intro _; rfl)))))
          (pss_one (ps_set (i := 9) sc__law_case.nd rfl (Or.inl rfl) (pe_ix ix_list (pv 7) (pe_op op_mod (pe_f D_law_next (hr.mono (by omega)) pass0 (pa_cons (pv 4) (pa_cons pe_int pa_nil))) (pe_callB (call_len_seq) (by rfl) B.len (by decide +kernel) (pa_cons (pv 7) pa_nil))) (fun _ _ => rfl))))
          (pss_one (ps_if (PW.pt (pw_and (pt_cmpR op_eq (pv 8) pe_int (nomark _)) (pw_and1 (pt_truth (pe_dget (hu_of hr) (pv 2) pe_str (fun _ _ => rfl)) (by intro _; rfl)))))
              (pss_one (ps_set (i := 9) sc__law_case.nd rfl (Or.inl rfl) (pe_tup (pa_cons (pe_op op_mod (pe_f D_law_next (hr.mono (by omega)) pass0 (pa_cons (pv 4) (pa_cons pe_int pa_nil))) (pe_op op_add (pe_dget (hu_of hr) (pv 2) pe_str (fun _ _ => rfl)) pe_int)) (pa_cons (pe_f D_law_next (hr.mono (by omega)) pass0 (pa_cons (pv 4) (pa_cons (pe_callB (call_len_seq) (by rfl) B.len (by decide +kernel) (pa_cons (pe_dget (hu_of hr) (pv 2) pe_str (fun _ _ => rfl)) pa_nil)) pa_nil))) pa_nil)))))
              (pss_nil))))
      (C8.pss_cut (ps_if (PW.pt (pw_and (pt_val (pv 3)) (pw_and1 (pt_cmpR op_eq (pe_f D_law_next (hr.mono (by omega)) pass0 (pa_cons (pv 4) (pa_cons pe_int pa_nil))) pe_int (nomark _)))))
          (pss_one (ps_set (i := 9) sc__law_case.nd rfl (Or.inl rfl) pe_str))
          (pss_nil))
      (pss_one (ps_expr (pe_bm PySem.F.plainAttrs_list PySem.F.slot_list_append PySem.F.type_list_append mt_append (pv 5) (pa_cons (pv 9) pa_nil))))))))))
  (pss_cons (ps_set (i := 10) sc__law_case.nd rfl (Or.inl rfl) (pe_lst pa_nil))
  (pss_cons (ps_for PassesOwn.never rfl (pi_range1 (by rfl) B.range (pa_cons (pe_callB (call_len_seq) (by rfl) B.len (by decide +kernel) (pa_cons (pe_dget (hu_of hr) (pv 2) pe_str (fun _ _ => rfl)) pa_nil)) pa_nil)) (pg_name (i := 11) sc__law_case.nd rfl (Or.inl rfl))
      (pss_cons (ps_set (i := 8) sc__law_case.nd rfl (Or.inl rfl) (pe_f D_law_next (hr.mono (by omega)) pass0 (pa_cons (pv 4) (pa_cons pe_int pa_nil))))
      (pss_cons (ps_set (i := 9) sc__law_case.nd rfl (Or.inl rfl) pe_non)
      (C8.pss_cut (ps_if (pt_cmpR op_gt (pv 8) pe_int (nomark _))
          (pss_one (ps_set (i := 9) sc__law_case.nd rfl (Or.inl rfl) (pe_f D_law_next (hr.mono (by omega)) pass0 (pa_cons (pv 4) (pa_cons (pe_ix ix_tup (pe_ix ix_list (pe_dget (hu_of hr) (pv 2) pe_str (fun _ _ => rfl)) (pe_ix ix_tup (pe_ix ix_list (pe_dget (hu_of hr) (pv 2) pe_str (fun _ _ => rfl)) (pv 11) (fun _ _ => rfl)) pe_int (fun _ _ => rfl)) (fun _ _ => rfl)) pe_int (fun _ _ => rfl)) pa_nil)))))
          (pss_nil))
      (C8.pss_cut (ps_if (PW.pt (pw_and (pt_cmpR op_eq (pv 8) pe_int (nomark _)) (pw_and1 (pt_cmpR op_eq (pe_f D_law_next (hr.mono (by omega)) pass0 (pa_cons (pv 4) (pa_cons pe_int pa_nil))) pe_int (nomark _)))))
          (pss_one (ps_set (i := 9) sc__law_case.nd rfl (Or.inl rfl) (pe_op op_add pe_int (pe_f D_law_next (hr.mono (by omega)) pass0 (pa_cons (pv 4) (pa_cons pe_int pa_nil))))))
          (pss_nil))
      (C8.pss_cut (ps_if (PW.pt (pw_and (pt_val (pv 3)) (pw_and1 (pt_cmpR op_eq (pe_f D_law_next (hr.mono (by omega)) pass0 (pa_cons (pv 4) (pa_cons pe_int pa_nil))) pe_int (nomark _)))))
          (pss_one (ps_set (i := 9) sc__law_case.nd rfl (Or.inl rfl) pe_str))
          (pss_nil))
      (pss_one (ps_expr (pe_bm PySem.F.plainAttrs_list PySem.F.slot_list_append PySem.F.type_list_append mt_append (pv 10) (pa_cons (pv 9) pa_nil))))))))))
  (pss_one (ps_ret (pe_tup (pa_cons (pe_callTy (call_tuple_of) (by rfl) B.tuple (by decide +kernel) (pa_cons (pv 5) pa_nil)) (pa_cons (pe_callTy (call_tuple_of) (by rfl) B.tuple (by decide +kernel) (pa_cons (pv 10) pa_nil)) pa_nil)))))))))
    , ?_⟩
  refine ⟨_, rfl, _, rfl, a, ns, first, 4, rfl, hS, by omega, by decide, by decide, fun st H1 s1 _ hst => ?_⟩
  have hwd1 := hwd.same s1
  obtain ⟨wa, wb, wc, we, xa, xb, xc, xd, g, a1, a2, b1, b2, c1, c2, d1, d2⟩ := hwd1.ex
  have m2 := dpAll_len c2
  have m3 := dpAll_len d2
  rw [List.length_map] at m2 m3
  have nR := wg.ok.nRecs
  have nP := wg.ok.nPass
  have hz := wg.ok.horizon
  refine ⟨Nat.zero_le _, fun D hD => ?_⟩
  have sD := same_new hD (.lst [])
  refine ⟨_, rfl, wd, _, rfl, get_r (sD _ _ g), wc, xc, rfl, .inl (SqL.of (sD _ _ c1)), _, rfl, by omega, by omega, ?_⟩
  refine for_range (lo := 0) (n := (xc.length : Int).toNat) (fun i σ H' => ∃ (es : List EntM) (xs : List V) (y6 y7 y8 y9 : Option V), σ = [some (.ref a), some (.int first), some (.ref wd), some (.bl o), some (.ref st), some (.ref D), y6, y7, y8, y9, none, none] ∧
    H' D = some (.lst xs) ∧ xs.length = i ∧ DpAll K H' xs (es.map entM) ∧ (∀ e ∈ es, MOk W o e) ∧ es.length = i ∧ Same H1 H') ⟨[], [], none, none, none, none, rfl, upd_same, rfl, .nil, fun _ z => absurd z List.not_mem_nil, rfl, sD⟩ (fun i σ H2 hi hI => ?_) (fun σ H2 hI => ?_)
  · obtain ⟨es, xs, y6, y7, y8, y9, rfl, hDD, hxl, hdp, hok, hel, hs⟩ := hI
    have hi' : i < W.recs.length := by (clear B D_law_stream D_law_next D_law_options hr hS hf0 wg hwd q s1 hst hwd1 g a1 a2 b1 b2 c1 c2 d1 d2 m3 nP hz hD sD hDD hdp hok hs; omega)
    obtain ⟨z, hz1⟩ : ∃ z, W.recs[i]? = some z := ⟨_, List.getElem?_eq_getElem hi'⟩
    have ok := wg.ok.recs z (List.mem_of_getElem? hz1)
    refine ⟨_, rfl, _, rfl, wd, W, i, z, by rw [Int.zero_add]; rfl, wg.ok, hwd1.same hs, hz1, fun l ls H3 s3 hl0 hl hx => ?_⟩
    have t3 := hs.trans s3
    have hst3 := hst.same t3
    have lls := paired_len hx
    have lop := optsW_len wg.ok ok
    refine ⟨_, rfl, st, 6, rfl, by decide, hst3, fun kd kd0 kd1 => ?_⟩
    -- entry = None; the first test
    refine ⟨fun σ' H' => ∃ (e : EntM) (v : V), σ' = [some (.ref a), some (.int first), some (.ref wd), some (.bl o), some (.ref st), some (.ref D), some (.int (0 + (i : Int))), some (.ref l), some (.int kd), some v, none, none] ∧ MOk W o e ∧ Dp K H' v (entM e) ∧ Same H3 H', ?_, fun σ' H4 hm => ?_⟩
    · have no : ∃ (e : EntM) (v : V), ([some (V.ref a), some (.int first), some (.ref wd), some (.bl o), some (.ref st), some (.ref D), some (.int (0 + (i : Int))), some (.ref l), some (.int kd), some .non, none, none] : L2.St) = [some (.ref a), some (.int first), some (.ref wd), some (.bl o), some (.ref st), some (.ref D), some (.int (0 + (i : Int))), some (.ref l), some (.int kd), some v, none, none] ∧ MOk W o e ∧ Dp K H3 v (entM e) ∧ Same H3 H3 :=
        ⟨.non, .non, rfl, True.intro, .non, Same.refl _⟩
      refine ⟨_, rfl, _, _, rfl, rfl, _, rfl, ite2 (fun k1 => ⟨_, rfl, _, .inl ⟨ls, SqL.of hl, rfl⟩, ite2 (fun k2 => ?_) (fun k2 => ?_)⟩) (fun k1 => iteF ?_)⟩
      · have pos : 0 < ls.length := by
          cases ls with
          | nil => exact absurd k2 (by decide)
          | cons _ _ => exact Nat.succ_pos _
        refine ⟨_, rfl, _, rfl, st, 60, rfl, by decide, hst3, fun u u0 u1 => ⟨_, rfl, l, ls, rfl, .inl (SqL.of hl), _, _, rfl, rfl, (by show (0 : Int) < (ls.length : Int); (clear B D_law_stream D_law_next D_law_options hr hS hf0 wg hwd q s1 hst hwd1 g a1 a2 b1 b2 c1 c2 d1 d2 m2 m3 nR nP hz hD sD hi hDD hxl hdp hok hel hs hi' hz1 ok s3 hl0 hl hx t3 hst3 kd0 kd1 no k1 k2 u0 u1; omega)), ?_⟩⟩
        have r0 : 0 ≤ u % (ls.length : Int) := Int.emod_nonneg _ (by (clear B D_law_stream D_law_next D_law_options hr hS hf0 wg hwd q s1 hst hwd1 g a1 a2 b1 b2 c1 c2 d1 d2 m2 m3 nR nP hz hD sD hi hDD hxl hdp hok hel hs hi' hz1 ok s3 hl0 hl hx t3 hst3 kd0 kd1 no k1 k2 u0 u1; omega))
        have r1 : u % (ls.length : Int) < (ls.length : Int) := Int.emod_lt_of_pos _ (by (clear B D_law_stream D_law_next D_law_options hr hS hf0 wg hwd q s1 hst hwd1 g a1 a2 b1 b2 c1 c2 d1 d2 m2 m3 nR nP hz hD sD hi hDD hxl hdp hok hel hs hi' hz1 ok s3 hl0 hl hx t3 hst3 kd0 kd1 no k1 k2 u0 u1 r0; omega))
        obtain ⟨j, ej⟩ : ∃ j : Nat, u % (ls.length : Int) = (j : Int) := ⟨(u % (ls.length : Int)).toNat, by (clear B D_law_stream D_law_next D_law_options hr hS hf0 wg hwd q s1 hst hwd1 g a1 a2 b1 b2 c1 c2 d1 d2 m2 m3 nR nP hz hD sD hi hDD hxl hdp hok hel hs hi' hz1 ok s3 hl0 hl hx t3 hst3 lls lop kd0 kd1 no k1 k2 pos u0 u1 r1; omega)⟩
        obtain ⟨x, hxj⟩ : ∃ x, ls[j]? = some x := ⟨_, List.getElem?_eq_getElem (by (clear B D_law_stream D_law_next D_law_options hr hS hf0 wg hwd q s1 hst hwd1 g a1 a2 b1 b2 c1 c2 d1 d2 m2 m3 nR nP hz hD sD hi hDD hxl hdp hok hel hs hi' hz1 ok s3 hl0 hl hx t3 hst3 lop kd0 kd1 no k1 k2 pos u0 u1 r0; omega))⟩
        obtain ⟨y, hy, sp⟩ := paired_at hx hxj
        have hm := optsW_mem ok (List.mem_of_getElem? hy)
        exact ⟨l, ls, _, x, rfl, rfl, SqL.of hl, by rw [ej]; exact atI_nat hxj, .at_ y.1 y.2, x, rfl, hm, dp_at sp, Same.refl _⟩
      all_goals
        refine ⟨_, rfl, rfl, _, rfl, ite2 (fun k3 => ⟨_, rfl, wd, _, rfl, get_p (t3 _ _ g), _, .inl ⟨xd, SqL.of (t3 _ _ d1), rfl⟩, ite2 (fun k4 => ?_) (fun k4 => no)⟩) (fun k3 => iteF no)⟩
        have pos : 0 < xd.length := by
          cases xd with
          | nil => exact absurd k4 (by decide)
          | cons _ _ => exact Nat.succ_pos _
        refine ⟨_, rfl, st, 60, rfl, by decide, hst3, fun u u0 u1 => ⟨_, rfl, wd, _, rfl, get_h (t3 _ _ g), _, _, rfl, rfl, _, _, rfl, rfl, (by show (0 : Int) < W.horizon + 1; (clear B D_law_stream D_law_next D_law_options hr hS hf0 wg hwd q s1 hst hwd1 g a1 a2 b1 b2 c1 c2 d1 d2 m2 m3 nR nP hD sD hi hDD hxl hdp hok hel hs hi' hz1 ok s3 hl0 hl hx t3 hst3 lls lop kd0 kd1 no k1 k3 k4 pos u0 u1; omega)), ?_⟩⟩
        refine ⟨_, rfl, _, rfl, wd, _, rfl, get_p (t3 _ _ g), we, xd, rfl, .inl (SqL.of (t3 _ _ d1)), st, (xd.length : Int), rfl, by (clear B D_law_stream D_law_next D_law_options hr hS hf0 wg hwd q s1 hst hwd1 g a1 a2 b1 b2 c1 c2 d1 d2 m2 nR hz hD sD hi hDD hxl hdp hok hel hs hi' hz1 ok s3 hl0 hl hx t3 hst3 lls lop kd0 kd1 no k1 k3 k4 u0 u1; omega), hst3, fun v v0 v1 => ⟨sz2_, fun t ht => ?_⟩⟩
        have r0 : 0 ≤ u % (W.horizon + 1) := Int.emod_nonneg _ (by (clear B D_law_stream D_law_next D_law_options hr hS hf0 wg hwd q s1 hst hwd1 g a1 a2 b1 b2 c1 c2 d1 d2 m2 m3 nR nP hD sD hi hDD hxl hdp hok hel hs hi' hz1 ok s3 hl0 hl hx t3 hst3 lls lop kd0 kd1 no k1 k3 k4 pos u0 u1 v0 v1 ht; omega))
        have r1 : u % (W.horizon + 1) < W.horizon + 1 := Int.emod_lt_of_pos _ (by (clear B D_law_stream D_law_next D_law_options hr hS hf0 wg hwd q s1 hst hwd1 g a1 a2 b1 b2 c1 c2 d1 d2 m2 m3 nR nP hD sD hi hDD hxl hdp hok hel hs hi' hz1 ok s3 hl0 hl hx t3 hst3 lls lop kd0 kd1 no k1 k3 k4 pos u0 u1 v0 v1 ht r0; omega))
        exact ⟨.at_ (u % (W.horizon + 1)) v, .ref t, rfl, ⟨r0, by (clear B D_law_stream D_law_next D_law_options hr hS hf0 wg hwd q s1 hst hwd1 g a1 a2 b1 b2 c1 c2 d1 d2 m2 m3 nR nP hz hD sD hi hDD hxl hdp hok hel hs hi' hz1 ok s3 hl0 hl hx t3 hst3 lls lop kd0 kd1 no k1 k3 k4 pos u0 u1 v0 v1 ht r0; omega), v0, by (clear B D_law_stream D_law_next D_law_options hr hS hf0 wg hwd q s1 hst hwd1 g a1 a2 b1 b2 c1 c2 d1 d2 m2 nR nP hz hD sD hi hDD hxl hdp hok hel hs hi' hz1 ok s3 hl0 hl hx t3 hst3 lls lop kd0 kd1 no k1 k3 k4 pos u0 u1 v0 ht r0 r1; omega)⟩, .tup (SqT.of upd_same) (.cons (.int _) (.cons (.int _) .nil)), same_new ht _⟩
    obtain ⟨e, v, rfl, eok, edp, s4⟩ := hm
    refine ⟨fun σ' H' => ∃ (e : EntM) (v : V), σ' = [some (.ref a), some (.int first), some (.ref wd), some (.bl o), some (.ref st), some (.ref D), some (.int (0 + (i : Int))), some (.ref l), some (.int kd), some v, none, none] ∧ MOk W o e ∧ Dp K H' v (entM e) ∧ Same H3 H', ?_, fun σ' H5 hm => ?_⟩
    · have hst4 := hst3.same s4
      refine ⟨_, rfl, o, rfl, ite2 (fun k1 => ⟨_, rfl, st, 3, rfl, by decide, hst4, fun u u0 u1 => ⟨rfl, _, rfl, ite2 (fun k2 => ?_) (fun k2 => ?_)⟩⟩) (fun k1 => iteF ?_)⟩
      · exact ⟨.opn, .str "open", rfl, k1, .str _, s4⟩
      · exact ⟨e, v, rfl, eok, edp, s4⟩
      · exact ⟨e, v, rfl, eok, edp, s4⟩
    obtain ⟨e, v, rfl, eok, edp, s5⟩ := hm
    have dD := (s3.trans s5) _ _ hDD
    refine ⟨_, rfl, .inl ⟨rfl, _, SqL.of dD⟩, _, rfl, D, xs, v, rfl, rfl, dD, small1000 (by (clear B D_law_stream D_law_next D_law_options hr hS hf0 wg hwd q s1 hst hwd1 g a1 a2 b1 b2 c1 c2 d1 d2 m3 nP hz hD sD hi hDD hdp hok hs hz1 ok s3 hl0 hl hx t3 hst3 lls lop kd0 kd1 s4 eok edp s5 dD; omega)), ?_⟩
    refine ⟨es ++ [e], xs ++ [v], _, _, _, _, rfl, upd_same, by rw [List.length_append, List.length_singleton, hxl], ?_, all_snoc hok eok, by rw [List.length_append, List.length_singleton, hel], same_at hD (t3.trans s5) _⟩
    rw [List.map_append]
    exact dpAll_snoc (dpTs_up (noLs_map noL_entM es) dD (dpAll_same (s3.trans s5) hdp)) (dpT_up (noL_entM e) dD edp)
  · obtain ⟨es, xs, y6, y7, y8, y9, rfl, hDD, hxl, hdp, hok, hel, hs⟩ := hI
    have hst2 := hst.same hs
    refine ⟨Nat.zero_le _, fun F hF => ?_⟩
    have sF := same_new hF (.lst [])
    have nF : D ≠ F := ne_of_none hDD hF
    refine ⟨_, rfl, wd, _, rfl, get_p ((hs.trans sF) _ _ g), we, xd, rfl, .inl (SqL.of ((hs.trans sF) _ _ d1)), _, rfl, by (clear B D_law_stream D_law_next D_law_options hr hS hf0 wg hwd q s1 hst hwd1 g a1 a2 b1 b2 c1 c2 d1 d2 m2 nR hz hD sD hDD hxl hdp hok hel hs hst2 hF sF nF; omega), by (clear B D_law_stream D_law_next D_law_options hr hS hf0 wg hwd q s1 hst hwd1 g a1 a2 b1 b2 c1 c2 d1 d2 m2 nR hz hD sD hDD hxl hdp hok hel hs hst2 hF sF nF; omega), ?_⟩
    refine for_range (lo := 0) (n := (xd.length : Int).toNat) (fun i σ H' => ∃ (fs : List EntT) (ys : List V) (y8 y9 y11 : Option V), σ = [some (.ref a), some (.int first), some (.ref wd), some (.bl o), some (.ref st), some (.ref D), y6, y7, y8, y9, some (.ref F), y11] ∧
      H' F = some (.lst ys) ∧ ys.length = i ∧ DpAll K H' ys (fs.map entT) ∧ (∀ e ∈ fs, TOk o e) ∧ fs.length = i ∧ Same H2 H') ⟨[], [], _, _, none, rfl, upd_same, rfl, .nil, fun _ z => absurd z List.not_mem_nil, rfl, sF⟩ (fun i σ H3 hi hI => ?_) (fun σ H3 hI => ?_)
    · obtain ⟨fs, ys, y8, y9, y11, rfl, hFF, hyl, hdq, hok2, hfl, hq⟩ := hI
      have t3 := hs.trans hq
      have hst3 := hst.same t3
      have hi' : i < W.pass.length := by (clear B D_law_stream D_law_next D_law_options hr hS hf0 wg hwd q s1 hst hwd1 g a1 a2 b1 b2 c1 c2 d1 d2 m2 nR hz hD sD hDD hxl hdp hok hel hs hst2 hF sF nF hFF hdq hok2 hq t3 hst3; omega)
      obtain ⟨z, hz1⟩ : ∃ z, W.pass[i]? = some z := ⟨_, List.getElem?_eq_getElem hi'⟩
      have ok := wg.ok.pass z (List.mem_of_getElem? hz1)
      obtain ⟨vp, evp, dvp⟩ := dpAll_get2 d2 hz1
      obtain ⟨tp, tp1, tp2, rfl, w1, _, _⟩ := pas_open dvp
      obtain ⟨zt, hzt⟩ : ∃ zt, W.stas[z.sta]? = some zt := ⟨_, List.getElem?_eq_getElem ok.sta⟩
      have okt := wg.ok.stas zt (List.mem_of_getElem? hzt)
      obtain ⟨vt, evt, dvt⟩ := dpAll_get2 b2 hzt
      obtain ⟨tt, rfl, w2⟩ := sta_open dvt
      have w1 := Same.tup t3 w1
      have w2 := Same.tup t3 w2
      have ant := okt.antennas
      refine ⟨_, rfl, st, 6, rfl, by decide, hst3, fun kd kd0 kd1 => ?_⟩
      -- an antenna
      refine ⟨fun σ' H' => H' = H3 ∧ ∃ (e : EntT) (v : V), σ' = [some (.ref a), some (.int first), some (.ref wd), some (.bl o), some (.ref st), some (.ref D), y6, y7, some (.int kd), some v, some (.ref F), some (.int (0 + (i : Int)))] ∧ TOk o e ∧ Dp K H' v (entT e), ?_, fun σ' H4 hm => ?_⟩
      · refine ⟨_, rfl, _, _, rfl, rfl, _, rfl, ite2 (fun k1 => ?_) (fun k1 => ?_)⟩
        · refine ⟨_, rfl, _, rfl, wd, _, rfl, get_t (t3 _ _ g), _, rfl, wd, _, rfl, get_p (t3 _ _ g), _, rfl, we, xd, (i : Int), _, rfl, by rw [Int.zero_add], SqL.of (t3 _ _ d1), atI_nat evp, tp, _, 2, _, rfl, rfl, w1, rfl, wb, xb, (z.sta : Int), _, rfl, rfl, SqL.of (t3 _ _ b1), atI_nat evt, tt, _, 1, _, rfl, rfl, w2, rfl, st, zt.antennas, rfl, by (clear B D_law_stream D_law_next D_law_options hr hS hf0 wg hwd q s1 hst hwd1 g a1 a2 b1 b2 c1 c2 d1 d2 m2 m3 nR nP hz hD sD hDD hxl hdp hok hel hs hst2 hF sF nF hi hFF hyl hdq hok2 hfl hq t3 hst3 hi' hz1 ok evp dvp hzt okt evt dvt w1 w2 kd0 kd1 k1; omega), hst3, fun u u0 u1 => ?_⟩
          exact ⟨rfl, .ant u, .int u, rfl, ⟨u0, by (clear B D_law_stream D_law_next D_law_options hr hS hf0 wg hwd q s1 hst hwd1 g a1 a2 b1 b2 c1 c2 d1 d2 m2 m3 nR nP hz hD sD hDD hxl hdp hok hel hs hst2 hF sF nF hi hFF hyl hdq hok2 hfl hq t3 hst3 hi' hz1 ok evp dvp hzt okt evt dvt w1 w2 kd0 kd1 k1 u0; omega)⟩, .int u⟩
        · exact ⟨rfl, .non, .non, rfl, True.intro, .non⟩
      obtain ⟨rfl, e, v, rfl, eok, edp⟩ := hm
      refine ⟨fun σ' H' => H' = H4 ∧ ∃ (e : EntT) (v : V), σ' = [some (.ref a), some (.int first), some (.ref wd), some (.bl o), some (.ref st), some (.ref D), y6, y7, some (.int kd), some v, some (.ref F), some (.int (0 + (i : Int)))] ∧ TOk o e ∧ Dp K H' v (entT e), ?_, fun σ' H5 hm => ?_⟩
      · refine ⟨_, rfl, rfl, _, rfl, ite2 (fun k1 => ⟨_, rfl, st, 4, rfl, by decide, hst3, fun u u0 u1 => ⟨rfl, _, rfl, ite2 (fun k2 => ?_) (fun k2 => ?_)⟩⟩) (fun k1 => iteF ?_)⟩
        · exact ⟨_, rfl, st, 5, rfl, by decide, hst3, fun x x0 x1 => ⟨_, _, rfl, rfl, rfl, .ant (1 + x), .int (1 + x), rfl, ⟨by (clear B D_law_stream D_law_next D_law_options hr hS hf0 wg hwd q s1 hst hwd1 g a1 a2 b1 b2 c1 c2 d1 d2 m2 m3 nR nP hz hD sD hDD hxl hdp hok hel hs hst2 hF sF nF hi hyl hok2 hfl hi' hz1 ok evp dvp hzt okt evt dvt ant kd0 kd1 hFF hdq hq t3 hst3 w1 w2 eok edp k1 u0 u1 k2; omega), by (clear B D_law_stream D_law_next D_law_options hr hS hf0 wg hwd q s1 hst hwd1 g a1 a2 b1 b2 c1 c2 d1 d2 m2 m3 nR nP hz hD sD hDD hxl hdp hok hel hs hst2 hF sF nF hi hyl hok2 hfl hi' hz1 ok evp dvp hzt okt evt dvt ant kd0 kd1 hFF hdq hq t3 hst3 w1 w2 eok edp k1 u0 u1 k2; omega)⟩, .int _⟩⟩
        · exact ⟨rfl, e, v, rfl, eok, edp⟩
        · exact ⟨rfl, e, v, rfl, eok, edp⟩
      obtain ⟨rfl, e, v, rfl, eok, edp⟩ := hm
      refine ⟨fun σ' H' => H' = H5 ∧ ∃ (e : EntT) (v : V), σ' = [some (.ref a), some (.int first), some (.ref wd), some (.bl o), some (.ref st), some (.ref D), y6, y7, some (.int kd), some v, some (.ref F), some (.int (0 + (i : Int)))] ∧ TOk o e ∧ Dp K H' v (entT e), ?_, fun σ' H6 hm => ?_⟩
      · refine ⟨_, rfl, o, rfl, ite2 (fun k1 => ⟨_, rfl, st, 3, rfl, by decide, hst3, fun u u0 u1 => ⟨rfl, _, rfl, ite2 (fun k2 => ?_) (fun k2 => ?_)⟩⟩) (fun k1 => iteF ?_)⟩
        · exact ⟨rfl, .opn, .str "open", rfl, k1, .str _⟩
        · exact ⟨rfl, e, v, rfl, eok, edp⟩
        · exact ⟨rfl, e, v, rfl, eok, edp⟩
      obtain ⟨rfl, e, v, rfl, eok, edp⟩ := hm
      refine ⟨_, rfl, .inl ⟨rfl, _, SqL.of hFF⟩, _, rfl, F, ys, v, rfl, rfl, hFF, small1000 (by (clear B D_law_stream D_law_next D_law_options hr hS hf0 wg hwd q s1 hst hwd1 g a1 a2 b1 b2 c1 c2 d1 d2 m2 nR hz hD sD hDD hxl hdp hok hel hs hst2 hF sF nF hi hok2 hz1 ok evp dvp hzt okt evt dvt ant kd0 kd1 hFF hdq hq t3 hst3 w1 w2 eok edp; omega)), ?_⟩
      refine ⟨fs ++ [e], ys ++ [v], _, _, _, rfl, upd_same, by rw [List.length_append, List.length_singleton, hyl], ?_, all_snoc hok2 eok, by rw [List.length_append, List.length_singleton, hfl], same_at hF hq _⟩
      rw [List.map_append]
      exact dpAll_snoc (dpTs_up (noLs_map noL_entT fs) hFF hdq) (dpT_up (noL_entT e) hFF edp)
    · obtain ⟨fs, ys, y8, y9, y11, rfl, hFF, hyl, hdq, hok2, hfl, hq⟩ := hI
      refine ⟨_, rfl, D, xs, rfl, .inl ⟨SqL.of (hq _ _ hDD), fun t1 ht1 => ?_⟩⟩
      have v1 := same_new ht1 (.tup xs)
      refine ⟨_, rfl, F, ys, rfl, .inl ⟨SqL.of (v1 _ _ hFF), fun t2 ht2 => ⟨sz2_, fun t3 ht3 => ?_⟩⟩⟩
      have v2 := same_new ht2 (.tup ys)
      have v3 := same_new ht3 (.tup [.ref t1, .ref t2])
      refine q (.ref t3) _ ⟨es, fs⟩ (s1.trans (hs.trans (hq.trans (v1.trans (v2.trans v3))))) ⟨by show es.length = _; (clear B D_law_stream D_law_next D_law_options hr hS hf0 wg hwd q s1 hst hwd1 g a1 a2 b1 b2 c1 c2 d1 d2 m3 nP hz hD sD hDD hdp hok hs hst2 hF sF nF hFF hyl hdq hok2 hfl hq ht1 v1 ht2 ht3 v2 v3; omega), by show fs.length = _; (clear B D_law_stream D_law_next D_law_options hr hS hf0 wg hwd q s1 hst hwd1 g a1 a2 b1 b2 c1 c2 d1 d2 m2 nR hz hD sD hDD hxl hdp hok hel hs hst2 hF sF nF hFF hdq hok2 hq ht1 v1 ht2 ht3 v2 v3; omega), hok, hok2⟩ ?_
      exact .tup (SqT.of upd_same) (.cons (.tup (SqT.of ((v2.trans v3) _ _ upd_same)) (dpAll_same (hq.trans (v1.trans (v2.trans v3))) hdp)) (.cons (.tup (SqT.of (v3 _ _ upd_same)) (dpAll_same (v1.trans (v2.trans v3)) hdq)) .nil))
end
end DP
namespace DP
open PySem PySem.Spec PyProof.Rows L2
theorem op_inDT {X : Cx} (hu : X.A.units + 65 < cLine) : OpR X (compareOp .In) (fun x y H Q => ∃ d ds, Dp X.K H x d ∧ Dp X.K H y (.tuple ds) ∧ SeqAt.shaped d = true ∧ SeqAt.shaped (.tuple ds) = true ∧ Q (.bl (ds.any fun z => PyData.eqv z d)) H) := by
  intro pins s σ H x y v u Q I rx ry h
  obtain ⟨d, ds, hd, he, sd, se, q⟩ := h
  obtain ⟨as, r1⟩ := Dp.reads I d x v hd rx
  obtain ⟨bs, r2⟩ := Dp.reads I (.tuple ds) y u he ry
  exact SeqAt.in_tuple_reads r2 r1 (SeqAt.canLay_of_shaped se) (SeqAt.canLay_of_shaped sd) (room_in_shaped sd hu) ⟨.bl _, H, I, rfl, q⟩
end DP
namespace DP
open PySem PySem.Spec PyProof.Rows L2
theorem hu65 {k : Nat} {A : Around} (hr : Room k A) : A.units + 65 < cLine := by have := hr.un; omega
theorem lay_map {α : Type} {f : α → PyData} (h : ∀ a, (f a).canLay0 = true) : ∀ l : List α, PyData.canLayAll0 (l.map f) = true
  | [] => rfl
  | a :: r => by
    show ((f a).canLay0 && PyData.canLayAll0 (r.map f)) = true
    rw [h a, lay_map h r]
    rfl
theorem depth_map {α : Type} {f : α → PyData} {n : Nat} (h : ∀ a, (f a).depth ≤ n) : ∀ l : List α, PyData.depthAll (l.map f) ≤ n
  | [] => Nat.zero_le _
  | a :: r => by
    show max (f a).depth (PyData.depthAll (r.map f)) ≤ n
    exact Nat.max_le.mpr ⟨h a, depth_map h r⟩
theorem shp_map {α : Type} {f : α → PyData} (h : ∀ a, (f a).canLay0 = true) (k : ∀ a, (f a).depth ≤ 1) (l : List α) : SeqAt.shaped (.tuple (l.map f)) = true := by
  unfold SeqAt.shaped
  rw [show (PyData.tuple (l.map f)).canLay0 = PyData.canLayAll0 (l.map f) from rfl, lay_map h, Bool.true_and]
  refine decide_eq_true ?_
  have := depth_map k l
  show PyData.depthAll (l.map f) + 1 ≤ 64
  omega
theorem shp_made (ms : List EntM) : SeqAt.shaped (.tuple (ms.map entM)) = true := shp_map (fun a => by cases a <;> first | rfl | decide +kernel) (fun a => by cases a <;> first | exact Nat.zero_le _ | exact Nat.le_refl _) ms
theorem shp_taken (ms : List EntT) : SeqAt.shaped (.tuple (ms.map entT)) = true := shp_map (fun a => by cases a <;> first | rfl | decide +kernel) (fun a => by cases a <;> exact Nat.zero_le _) ms
theorem hu64 {k : Nat} {A : Around} (hr : Room k A) : A.units + 64 < cLine := by have := hr.un; omega
theorem case_two {K : PySem.W.Frag} {H : Hp} {v : V} {c : CaseD} (h : Dp K H v (casePy c)) : ∃ t tm tt xm xt, v = .ref t ∧ SqT K H t [.ref tm, .ref tt] ∧ SqT K H tm xm ∧ SqT K H tt xt ∧ DpAll K H xm (c.made.map entM) ∧ DpAll K H xt (c.taken.map entT) ∧ xm.length = c.made.length ∧ xt.length = c.taken.length := by
  obtain ⟨t, xs, rfl, ht, hx⟩ := dp_tup h
  cases hx with
  | cons a0 hx =>
  cases hx with
  | cons a1 hx =>
  cases hx
  obtain ⟨tm, xm, rfl, hm, hxm⟩ := dp_tup a0
  obtain ⟨tt, xt, rfl, htt, hxt⟩ := dp_tup a1
  have lm := dpAll_len hxm
  have lt := dpAll_len hxt
  rw [List.length_map] at lm lt
  exact ⟨t, tm, tt, xm, xt, rfl, ht, hm, htt, hxm, hxt, lm, lt⟩
structure TxtO (mg : Str → Option Value) : Prop where
  g_OPEN : ∃ t, mg "OPEN" = some (.str "open" t)
theorem lay_entM (a : EntM) : SeqAt.shaped (entM a) = true := by cases a <;> first | rfl | decide +kernel
theorem lay_entT (a : EntT) : SeqAt.shaped (entT a) = true := by cases a <;> first | rfl | decide +kernel
end DP
namespace DP
open PySem PySem.Spec PyProof.Rows L2
abbrev s_is_option : Stmt := topS 37
theorem sc_is_option : FnScope ["world", "number", "pair", "recording", "start", "p", "chance", "first", "end"] ["world", "number", "pair"] (defScope s_is_option) := ⟨rfl, rfl, rfl, by decide +kernel, rfl, by decide +kernel, by decide +kernel⟩
abbrev s_has_antenna : Stmt := topS 38
theorem sc_has_antenna : FnScope ["world", "p", "antenna", "station"] ["world", "p", "antenna"] (defScope s_has_antenna) := ⟨rfl, rfl, rfl, by decide +kernel, rfl, by decide +kernel, by decide +kernel⟩
abbrev s_is_filled : Stmt := topS 57
theorem sc_is_filled : FnScope ["entry"] ["entry"] (defScope s_is_filled) := ⟨rfl, rfl, rfl, by decide +kernel, rfl, by decide +kernel, by decide +kernel⟩
abbrev s_made_recordings : Stmt := topS 59
theorem sc_made_recordings : FnScope ["world", "case", "found", "r", "entry", "start", "p"] ["world", "case"] (defScope s_made_recordings) := ⟨rfl, rfl, rfl, by decide +kernel, rfl, by decide +kernel, by decide +kernel⟩
abbrev s_taken_passes : Stmt := topS 60
theorem sc_taken_passes : FnScope ["world", "case", "p", "entry"] ["world", "case"] (defScope s_taken_passes) := ⟨rfl, rfl, rfl, by decide +kernel, rfl, by decide +kernel, by decide +kernel⟩
/-- a list of data that grows -/
def DL {α : Type} (K : PySem.W.Frag) (f : α → PyData) (H : Hp) (D : Addr) (l : List α) : Prop := ∃ xs, H D = some (.lst xs) ∧ DpAll K H xs (l.map f)
section
variable {α : Type} {K : PySem.W.Frag} {f : α → PyData} {H H' : Hp} {D : Addr} {l : List α} {a : α} {v : V}
theorem DL.same (h : DL K f H D l) (s : Same H H') : DL K f H' D l := by
  obtain ⟨xs, h1, h2⟩ := h
  exact ⟨xs, s _ _ h1, dpAll_same s h2⟩
theorem DL.nil : DL K f (upd H D (.lst [])) D ([] : List α) := ⟨[], upd_same, .nil⟩
/-- what append asks, and what is left -/
theorem DL.push (nf : ∀ a, noL (f a)) (h : DL K f H D l) (hv : Dp K H v (f a)) (hl : l.length < 1000) : ∃ xs, H D = some (.lst xs) ∧ xs.length < sizeLine ∧ DL K f (upd H D (.lst (xs ++ [v]))) D (l ++ [a]) := by
  obtain ⟨xs, h1, h2⟩ := h
  have := dpAll_len h2
  rw [List.length_map] at this
  refine ⟨xs, h1, small1000 (by omega), xs ++ [v], upd_same, ?_⟩
  rw [List.map_append]
  exact dpAll_snoc (dpTs_up (noLs_map nf l) h1 h2) (dpT_up (nf a) h1 hv)
end
def isOpt (z : RecD) (s : Int) (c : PasD) : Bool := decide (z.earliest ≤ s) && (decide (s ≤ z.latest) && okP z s c)
def optB (W : WorldD) (z : RecD) (s p : Int) : Bool := match W.pass[p.toNat]? with
  | some c => decide (0 ≤ p) && isOpt z s c
  | none => false
def filB : PyData → Bool
  | .none => false
  | d => !PyData.eqv d (.str "open")
def madeAt (W : WorldD) (c : CaseD) (r : Nat) : List (Nat × Int × Int) := match W.recs[r]?, c.made[r]? with
  | some z, some (.at_ s p) => if optB W z s p = true then [(r, s, p)] else []
  | _, _ => []
def madeL (W : WorldD) (c : CaseD) (n : Nat) : List (Nat × Int × Int) := (List.range n).flatMap (madeAt W c)
def antB (W : WorldD) (c : CaseD) (p : Nat) : Bool := match W.pass[p]?, c.taken[p]? with
  | some z, some (.ant n) => match W.stas[z.sta]? with
    | some t => decide (0 ≤ n) && decide (n < t.antennas)
    | none => false
  | _, _ => false
def takL (W : WorldD) (c : CaseD) (n : Nat) : List Nat := (List.range n).filter (antB W c)
def tripPy (q : Nat × Int × Int) : PyData := .tuple [.int (q.1 : Int), .int q.2.1, .int q.2.2]
theorem noL_trip (q : Nat × Int × Int) : noL (tripPy q) := by unfold tripPy; simp [noL, noLs]
theorem madeL_succ (W : WorldD) (c : CaseD) (n : Nat) : madeL W c (n + 1) = madeL W c n ++ madeAt W c n := by
  unfold madeL
  rw [List.range_succ, List.flatMap_append, List.flatMap_cons, List.flatMap_nil, List.append_nil]
theorem madeAt_len (W : WorldD) (c : CaseD) (r : Nat) : (madeAt W c r).length ≤ 1 := by
  unfold madeAt
  split
  · split <;> simp
  · exact Nat.zero_le _
theorem madeL_len (W : WorldD) (c : CaseD) : ∀ n, (madeL W c n).length ≤ n
  | 0 => Nat.zero_le _
  | n + 1 => by
    rw [madeL_succ, List.length_append]
    have h1 := madeL_len W c n
    have h2 := madeAt_len W c n
    omega
theorem takL_succ (W : WorldD) (c : CaseD) (n : Nat) : takL W c (n + 1) = takL W c n ++ if antB W c n = true then [n] else [] := by
  unfold takL
  rw [List.range_succ, List.filter_append, List.filter_cons, List.filter_nil]
theorem takL_len (W : WorldD) (c : CaseD) (n : Nat) : (takL W c n).length ≤ n := by
  unfold takL
  refine Nat.le_trans (List.length_filter_le _ _) ?_
  rw [List.length_range]
  exact Nat.le_refl _
theorem mem_made {W : WorldD} {c : CaseD} {n : Nat} {q : Nat × Int × Int} (h : q ∈ madeL W c n) : q.1 < n ∧ ∃ z y, W.recs[q.1]? = some z ∧ W.pass[q.2.2.toNat]? = some y ∧ 0 ≤ q.2.2 ∧ isOpt z q.2.1 y = true := by
  obtain ⟨k, hk, hq⟩ := List.mem_flatMap.mp h
  rw [List.mem_range] at hk
  unfold madeAt at hq
  split at hq
  · rename_i z s p hz he
    split at hq
    · rename_i ho
      have e := List.mem_singleton.mp hq
      subst e
      unfold optB at ho
      split at ho
      · rename_i y hy
        obtain ⟨h1, h2⟩ := Bool.and_eq_true_iff.mp ho
        exact ⟨hk, z, y, hz, hy, of_decide_eq_true h1, h2⟩
      · cases ho
    · exact absurd hq List.not_mem_nil
  · exact absurd hq List.not_mem_nil
theorem mem_tak {W : WorldD} {c : CaseD} {n p : Nat} (h : p ∈ takL W c n) : p < n ∧ antB W c p = true := by
  obtain ⟨h1, h2⟩ := List.mem_filter.mp h
  exact ⟨List.mem_range.mp h1, h2⟩
section
variable {P : Program} {w : World} {K : PySem.W.Frag} {mg : Str → Option Value} {base : Heap} {CL CS CT CR CP CW aS aR fS fT fR fP : Addr}
def spIsOption (K : PySem.W.Frag) (CS CT CR CP CW : Addr) : Sp := fun vs H Q _ => ∃ (ac t : Addr) (W : WorldD) (i k : Nat) (z : RecD) (c : PasD) (s : Int), vs = [.ref ac, .int (i : Int), .ref t] ∧ WorldAt K CS CT CR CP CW H ac W ∧ W.recs[i]? = some z ∧ W.pass[k]? = some c ∧ SqT K H t [.int s, .int (k : Int)] ∧
  Q (.bl (isOpt z s c)) H
set_option maxHeartbeats 4000000 in
theorem d_is_option (T : TxtW K mg CL CS CT CR CP CW aS aR fS fT fR fP) (A : At K mg "is_option" s_is_option ["world", "number", "pair"]) : DefOk P w K mg base CX0 1 "is_option" ["world", "number", "pair"] (spIsOption K CS CT CR CP CW) := by
  have B := T.L.B
  refine A.ok sc_is_option (fun vs H Q E h => ?_) (fun f cdv A outer s H vs Q E hr h => ?_)
  · obtain ⟨ac, t, W, i, k, z, c, s, rfl, _⟩ := h
    rfl
  obtain ⟨ac, t, W, i, k, z, c, s0, rfl, hW, hz, hc, ht, q⟩ := h
  obtain ⟨dx, t0, t1, t2, t3, x0, x1, x2, x3, gw, _, _, _, _, p2, q2, p3, q3⟩ := hW.ex
  have l2 := paired_len q2
  have l3 := paired_len q3
  have hi : i < W.recs.length := (List.getElem?_eq_some_iff.mp hz).1
  have hk : k < W.pass.length := (List.getElem?_eq_some_iff.mp hc).1
  obtain ⟨x, hx⟩ : ∃ x, x2[i]? = some x := ⟨_, List.getElem?_eq_getElem (by omega)⟩
  obtain ⟨z', hz', ob, od, rfl, o1⟩ := paired_at q2 hx
  rw [hz] at hz'
  cases hz'
  obtain ⟨y, hy⟩ : ∃ x, x3[k]? = some x := ⟨_, List.getElem?_eq_getElem (by (clear T B hr hW hz hc ht q gw p2 q2 p3 q3 l2 hi hx o1; omega))⟩
  obtain ⟨c', hc', pb, pd, ts, rfl, c1, c2⟩ := paired_at q3 hy
  rw [hc] at hc'
  cases hc'
  refine ⟨_, pss_cons (ps_set (i := 3) sc_is_option.nd rfl (Or.inl rfl) (pe_ix ix_tup (pe_fld (pv 0) rfl) (pv 1) (fun _ _ => rfl)))
  (pss_cons (ps_asg (pv 2) (pg_tup (by rfl) (pgs_cons (pg_name (i := 4) sc_is_option.nd rfl (Or.inl rfl)) (pgs_cons (pg_name (i := 5) sc_is_option.nd rfl (Or.inl rfl)) (pgs_nil)))))
  (pss_cons (ps_set (i := 6) sc_is_option.nd rfl (Or.inl rfl) (pe_ix ix_tup (pe_fld (pv 0) rfl) (pv 5) (fun _ _ => rfl)))
  (pss_cons (ps_if (PW.pt (pw_or (pt_cmpR op_ne (pe_fld (pv 6) rfl) (pe_fld (pv 3) rfl) (nomark _)) (pw_or1 (pt_not (pt_chain op_le op_le (pe_fld (pv 3) rfl) (pv 4) (pe_fld (pv 3) rfl))))))
      (pss_one (ps_ret pe_bl))
      (pss_nil))
  (pss_cons (ps_asg (pe_fld (pv 6) rfl) (pg_tup (by rfl) (pgs_cons (pg_name (i := 7) sc_is_option.nd rfl (Or.inl rfl)) (pgs_cons (pg_name (i := 8) sc_is_option.nd rfl (Or.inl rfl)) (pgs_nil)))))
  (pss_one (ps_ret (pe_and (pe_cmpR op_le (pe_op op_add (pv 4) (pe_fld (pv 3) rfl)) (pv 7) (nomark _)) (pe_one (pe_cmpR op_le (pv 8) (pe_fld (pv 3) rfl) (nomark _))))))))))
    , ?_⟩
  refine ⟨_, rfl, ac, CW, dx, _, _, rfl, gw, T.c_World.cl, T.n_World_recordings, lk_World_recordings, _, rfl, t2, x2, (i : Int), _, rfl, rfl, p2, atI_nat hx, ?_⟩
  refine ⟨_, rfl, t, _, rfl, ht, rfl, _, _, rfl, _, _, rfl, rfl, ?_⟩
  refine ⟨_, rfl, ac, CW, dx, _, _, rfl, gw, T.c_World.cl, T.n_World_passes, lk_World_passes, _, rfl, t3, x3, (k : Int), _, rfl, rfl, p3, atI_nat hy, ?_⟩
  have no : isOpt z s0 c = false → Q (.bl false) H := fun e => by rw [e] at q; exact q
  refine ⟨_, rfl, pb, CP, pd, _, _, rfl, c1, T.c_Pass.cl, T.n_Pass_satellite, lk_Pass_satellite, _, rfl, ob, CR, od, _, _, rfl, o1, T.c_Recording.cl, T.n_Recording_satellite, lk_Recording_satellite, rfl, _, rfl, ite2 (fun e1 => iteT ?_) (fun e1 => ?_)⟩
  · refine no ?_
    have e2 : ¬ (c.sat : Int) = (z.sat : Int) := fun h => by rw [h, decide_eq_true rfl] at e1; cases e1
    unfold isOpt okP
    rw [decide_eq_false e2, Bool.false_and, Bool.and_false, Bool.and_false]
  have e2 : (c.sat : Int) = (z.sat : Int) := by
    by_cases h : (c.sat : Int) = (z.sat : Int)
    · exact h
    · exact absurd (by rw [decide_eq_false (fun y : V.int (c.sat : Int) = V.int (z.sat : Int) => h (V.int.inj y))]; rfl) e1
  have ed : decide ((c.sat : Int) = (z.sat : Int)) = true := decide_eq_true e2
  refine ⟨_, rfl, ob, CR, od, _, _, rfl, o1, T.c_Recording.cl, T.n_Recording_earliest, lk_Recording_earliest, _, rfl, _, _, rfl, rfl, _, rfl, ite2 (fun e3 => ?_) (fun e3 => ?_)⟩
  · refine ⟨_, rfl, ob, CR, od, _, _, rfl, o1, T.c_Recording.cl, T.n_Recording_latest, lk_Recording_latest, _, _, rfl, rfl, _, rfl, ?_⟩
    have e3' : decide (z.earliest ≤ s0) = true := e3
    by_cases e4 : s0 ≤ z.latest
    · refine iteF' (by rw [decide_eq_true e4]; rfl) ?_
      refine ⟨_, rfl, pb, CP, pd, _, _, rfl, c1, T.c_Pass.cl, T.n_Pass_span, lk_Pass_span, ts, _, rfl, c2, rfl, _, _, rfl, _, _, rfl, rfl, ?_⟩
      refine ⟨_, rfl, _, rfl, ob, CR, od, _, _, rfl, o1, T.c_Recording.cl, T.n_Recording_length, lk_Recording_length, _, _, rfl, rfl, _, rfl, _, _, rfl, rfl, _, rfl, ite2 (fun e5 => ?_) (fun e5 => no ?_)⟩
      · have e5' : decide (s0 + z.length ≤ c.first) = true := e5
        refine ⟨_, rfl, _, rfl, ob, CR, od, _, _, rfl, o1, T.c_Recording.cl, T.n_Recording_deadline, lk_Recording_deadline, _, _, rfl, rfl, ?_⟩
        unfold isOpt okP at q
        rw [e3', decide_eq_true e4, ed, e5', Bool.true_and, Bool.true_and, Bool.true_and, Bool.true_and] at q
        exact q
      · unfold isOpt okP
        rw [show decide (s0 + z.length ≤ c.first) = false from Bool.eq_false_iff.mpr e5, Bool.false_and, Bool.and_false, Bool.and_false, Bool.and_false]
    · refine iteT' (by rw [decide_eq_false e4]; rfl) (no ?_)
      unfold isOpt
      rw [decide_eq_false e4, Bool.false_and, Bool.and_false]
  · refine ⟨_, rfl, iteT' rfl (no ?_)⟩
    unfold isOpt
    rw [show decide (z.earliest ≤ s0) = false from Bool.eq_false_iff.mpr e3, Bool.false_and]
def spHasAnt (K : PySem.W.Frag) (CS CT CR CP CW : Addr) : Sp := fun vs H Q _ => ∃ (ac : Addr) (W : WorldD) (k : Nat) (n : Int) (z : PasD) (t : StaD), vs = [.ref ac, .int (k : Int), .int n] ∧ WorldAt K CS CT CR CP CW H ac W ∧ W.pass[k]? = some z ∧ W.stas[z.sta]? = some t ∧
  Q (.bl (decide (0 ≤ n) && decide (n < t.antennas))) H
theorem d_has_antenna (T : TxtW K mg CL CS CT CR CP CW aS aR fS fT fR fP) (A : At K mg "has_antenna" s_has_antenna ["world", "p", "antenna"]) : DefOk P w K mg base CX0 1 "has_antenna" ["world", "p", "antenna"] (spHasAnt K CS CT CR CP CW) := by
  have B := T.L.B
  refine A.ok sc_has_antenna (fun vs H Q E h => ?_) (fun f cdv A outer s H vs Q E hr h => ?_)
  · obtain ⟨ac, W, k, n, z, t, rfl, _⟩ := h
    rfl
  obtain ⟨ac, W, k, n, z, t, rfl, hW, hz, ht, q⟩ := h
  obtain ⟨dx, t0, t1, t2, t3, x0, x1, x2, x3, gw, _, _, p1, q1, p2, q2, p3, q3⟩ := hW.ex
  have l1 := paired_len q1
  have l3 := paired_len q3
  have hk : k < W.pass.length := (List.getElem?_eq_some_iff.mp hz).1
  have hj : z.sta < W.stas.length := (List.getElem?_eq_some_iff.mp ht).1
  obtain ⟨y, hy⟩ : ∃ x, x3[k]? = some x := ⟨_, List.getElem?_eq_getElem (by (clear T B hr hW hz ht q gw p1 q1 p2 q2 p3 q3 l1 hj; omega))⟩
  obtain ⟨z', hz', pb, pd, ts, rfl, c1, c2⟩ := paired_at q3 hy
  rw [hz] at hz'
  cases hz'
  obtain ⟨y1, hy1⟩ : ∃ x, x1[z.sta]? = some x := ⟨_, List.getElem?_eq_getElem (by (clear T B hr hW hz ht q gw p1 q1 p2 q2 p3 q3 l3 hk hy c1 c2; omega))⟩
  obtain ⟨t', ht', ta, td, rfl, g1⟩ := paired_at q1 hy1
  rw [ht] at ht'
  cases ht'
  refine ⟨_, pss_cons (ps_set (i := 3) sc_has_antenna.nd rfl (Or.inl rfl) (pe_fld (pe_ix ix_tup (pe_fld (pv 0) rfl) (pv 1) (fun _ _ => rfl)) rfl))
  (pss_one (ps_ret (pe_chain op_le op_lt pe_int (pv 2) (pe_fld (pe_ix ix_tup (pe_fld (pv 0) rfl) (pv 3) (fun _ _ => rfl)) rfl))))
    , ?_⟩
  refine ⟨_, rfl, ac, CW, dx, _, _, rfl, gw, T.c_World.cl, T.n_World_passes, lk_World_passes, _, rfl, t3, x3, (k : Int), _, rfl, rfl, p3, atI_nat hy, pb, CP, pd, _, _, rfl, c1, T.c_Pass.cl, T.n_Pass_station, lk_Pass_station, ?_⟩
  refine ⟨_, rfl, _, _, rfl, rfl, _, rfl, ite2 (fun e1 => ?_) (fun e1 => ?_)⟩
  · refine ⟨_, rfl, ac, CW, dx, _, _, rfl, gw, T.c_World.cl, T.n_World_stations, lk_World_stations, _, rfl, t1, x1, (z.sta : Int), _, rfl, rfl, p1, atI_nat hy1, ta, CT, td, _, _, rfl, g1, T.c_Station.cl, T.n_Station_antennas, lk_Station_antennas, _, _, rfl, rfl, ?_⟩
    rw [show decide (0 ≤ n) = true from e1, Bool.true_and] at q
    exact q
  · rw [show decide (0 ≤ n) = false from Bool.eq_false_iff.mpr e1, Bool.false_and] at q
    exact q
def spFilled (K : PySem.W.Frag) : Sp := fun vs H Q _ => ∃ (v : V) (d : PyData), vs = [v] ∧ Dp K H v d ∧ SeqAt.shaped d = true ∧ Q (.bl (filB d)) H
theorem d_is_filled (B : Bt mg) (T : TxtO mg) (A : At K mg "is_filled" s_is_filled ["entry"]) : DefOk P w K mg base CX0 1 "is_filled" ["entry"] (spFilled K) := by
  refine A.ok sc_is_filled (fun vs H Q E h => ?_) (fun f cdv A outer s H vs Q E hr h => ?_)
  · obtain ⟨v, d, rfl, _⟩ := h
    rfl
  obtain ⟨v, d, rfl, hd, sd, q⟩ := h
  refine ⟨_, pss_one (ps_ret (pe_and (pe_cmpR op_notN (pv 0) pe_non (nomark _)) (pe_one (pe_cmpR (op_neD (hu64 hr)) (pv 0) (pe_gs T.g_OPEN) (nomark _)))))
    , ?_⟩
  refine ⟨_, rfl, rfl, _, rfl, ?_⟩
  have hd0 := hd
  cases hd with
  | non => exact iteF' rfl q
  | bl b => exact iteT' rfl ⟨_, rfl, _, _, hd0, .str _, sd, by decide +kernel, q⟩
  | int i => exact iteT' rfl ⟨_, rfl, _, _, hd0, .str _, sd, by decide +kernel, q⟩
  | str x => exact iteT' rfl ⟨_, rfl, _, _, hd0, .str _, sd, by decide +kernel, q⟩
  | lst h1 h2 => exact iteT' rfl ⟨_, rfl, _, _, hd0, .str _, sd, by decide +kernel, q⟩
  | tup h1 h2 => exact iteT' rfl ⟨_, rfl, _, _, hd0, .str _, sd, by decide +kernel, q⟩
end
end DP
namespace DP
open PySem PySem.Spec PyProof.Rows L2
abbrev s_busy_things : Stmt := topS 61
theorem sc_busy_things : FnScope ["world", "case", "number", "found", "r", "start", "_", "recording", "p", "chance"] ["world", "case", "number"] (defScope s_busy_things) := ⟨rfl, rfl, rfl, by decide +kernel, rfl, by decide +kernel, by decide +kernel⟩
abbrev s_energy_of : Stmt := topS 62
theorem sc_energy_of : FnScope ["world", "thing", "sort", "number"] ["world", "thing"] (defScope s_energy_of) := ⟨rfl, rfl, rfl, by decide +kernel, rfl, by decide +kernel, by decide +kernel⟩
abbrev s_spending : Stmt := topS 63
theorem sc_spending : FnScope ["world", "case", "number", "spent", "thing", "span", "first", "_"] ["world", "case", "number"] (defScope s_spending) := ⟨rfl, rfl, rfl, by decide +kernel, rfl, by decide +kernel, by decide +kernel⟩
def sortN (b : Bool) : Str := if b = true then Str.ofString "pass" else Str.ofString "recording"
/-- a thing: a pass or not, its number, its first minute, its end -/
abbrev Thing := Bool × Nat × Int × Int
def thgPy (k : Thing) : PyData := .tuple [.tuple [.str (sortN k.1), .int (k.2.1 : Int)], .tuple [.int k.2.2.1, .int k.2.2.2]]
theorem noL_thg (k : Thing) : noL (thgPy k) := by unfold thgPy; simp [noL, noLs]
def recThg (W : WorldD) (s : Nat) (q : Nat × Int × Int) : List Thing := match W.recs[q.1]? with
  | some z => if z.sat = s then [(false, q.1, q.2.1, q.2.1 + z.length)] else []
  | none => []
def pasThg (W : WorldD) (s : Nat) (p : Nat) : List Thing := match W.pass[p]? with
  | some z => if z.sat = s then [(true, p, z.first, z.fin)] else []
  | none => []
def busyL (W : WorldD) (c : CaseD) (s : Nat) : List Thing := (madeL W c W.recs.length).flatMap (recThg W s) ++ (takL W c W.pass.length).flatMap (pasThg W s)
theorem recThg_len (W : WorldD) (s : Nat) (q : Nat × Int × Int) : (recThg W s q).length ≤ 1 := by
  unfold recThg
  split
  · split <;> simp
  · exact Nat.zero_le _
theorem pasThg_len (W : WorldD) (s : Nat) (p : Nat) : (pasThg W s p).length ≤ 1 := by
  unfold pasThg
  split
  · split <;> simp
  · exact Nat.zero_le _
theorem flat_len1 {α β : Type} {g : α → List β} (h : ∀ a, (g a).length ≤ 1) : ∀ l : List α, (l.flatMap g).length ≤ l.length
  | [] => Nat.zero_le _
  | a :: l => by
    rw [List.flatMap_cons, List.length_append, List.length_cons]
    have := flat_len1 h l
    have := h a
    omega
theorem fm_take {α β : Type} {g : α → List β} {l : List α} {i : Nat} {a : α} (h : l[i]? = some a) : (l.take (i + 1)).flatMap g = (l.take i).flatMap g ++ g a := by
  rw [List.take_add_one, h, Option.toList_some, List.flatMap_append, List.flatMap_cons, List.flatMap_nil, List.append_nil]
def energyT (W : WorldD) (k : Thing) : Int := if k.1 = true then ((W.pass[k.2.1]?).map (·.energy)).getD 0 else ((W.recs[k.2.1]?).map (·.energy)).getD 0
/-- what some things spend at a minute -/
def spentL (W : WorldD) (l : List Thing) (m : Int) : Int := (l.map fun k => if k.2.2.1 = m then energyT W k else 0).sum
def spentW (W : WorldD) (c : CaseD) (s : Nat) (m : Int) : Int := spentL W (busyL W c s) m
/-- a dict of what is spent -/
structure SpK (kvs : List (Key × V)) (g : Int → Int) (h : Int) : Prop where
  keys : ∀ p ∈ kvs, ∃ m : Int, p.1 = Sum.inl m ∧ 0 ≤ m ∧ m < h
  non : ∀ m : Int, valV kvs (Sum.inl m) = none → g m = 0
  val : ∀ (m : Int) (v : V), valV kvs (Sum.inl m) = some v → v = .int (g m)
  nd : (kvs.map (·.1)).Nodup
theorem SpK.get {kvs : List (Key × V)} {g : Int → Int} {h : Int} (k : SpK kvs g h) (m : Int) : (valV kvs (Sum.inl m)).getD (.int 0) = .int (g m) := by
  cases e : valV kvs (Sum.inl m) with
  | none => rw [k.non m e]; rfl
  | some v => exact k.val m v e
theorem putK_keys {kvs : List (Key × V)} {k : Key} {v : V} {q : Key × V} (h : q ∈ putK kvs k v) : q.1 = k ∨ ∃ p ∈ kvs, p.1 = q.1 := by
  unfold putK at h
  split at h
  · obtain ⟨p, hp, e⟩ := List.mem_map.mp h
    split at e
    · rename_i c
      exact .inl (by rw [← e]; exact c)
    · exact .inr ⟨p, hp, by rw [e]⟩
  · rcases List.mem_append.mp h with h | h
    · exact .inr ⟨q, h, rfl⟩
    · exact .inl (by rw [List.mem_singleton.mp h])
theorem putK_len {kvs : List (Key × V)} {k : Key} {v : V} : (putK kvs k v).length ≤ kvs.length + 1 := by
  unfold putK
  split
  · rw [List.length_map]; omega
  · rw [List.length_append]; exact Nat.le_refl _
theorem putK_nodup {kvs : List (Key × V)} {k : Key} {v : V} (h : (kvs.map (·.1)).Nodup) : ((putK kvs k v).map (·.1)).Nodup := by
  unfold putK
  split
  · rw [List.map_map]
    have e : ((fun x : Key × V => x.1) ∘ fun kv : Key × V => if kv.1 = k then (kv.1, v) else kv) = fun x => x.1 := by
      funext x
      show (if x.1 = k then (x.1, v) else x).1 = x.1
      split <;> rfl
    rw [e]
    exact h
  · rename_i no
    rw [List.map_append, List.nodup_append]
    refine ⟨h, by simp, fun a ha b hb => ?_⟩
    obtain ⟨p, hp, rfl⟩ := List.mem_map.mp ha
    have eb : b = k := by simpa using hb
    intro e
    exact no (List.any_eq_true.mpr ⟨p, hp, decide_eq_true (e.trans eb)⟩)
theorem SpK.put {kvs : List (Key × V)} {g g' : Int → Int} {h f e : Int} (k : SpK kvs g h) (h0 : 0 ≤ f) (h1 : f < h) (hg : ∀ m, g' m = g m + if f = m then e else 0) : SpK (putK kvs (Sum.inl f) (.int (g f + e))) g' h := by
  refine ⟨fun p hp => ?_, fun m hm => ?_, fun m v hm => ?_, putK_nodup k.nd⟩
  · rcases putK_keys hp with e | ⟨q, hq, e⟩
    · exact ⟨f, e, h0, h1⟩
    · obtain ⟨m, e1, e2⟩ := k.keys q hq
      exact ⟨m, by rw [← e]; exact e1, e2⟩
  · rw [valV_put] at hm
    split at hm
    · cases hm
    · rename_i c
      rw [hg, if_neg (fun z => c (by rw [z])), k.non m hm, Int.add_zero]
  · rw [valV_put] at hm
    split at hm
    · rename_i c
      have ec : m = f := Sum.inl.inj c
      subst ec
      rw [hg, if_pos rfl]
      exact (Option.some.inj hm).symm
    · rename_i c
      rw [hg, if_neg (fun z => c (by rw [z])), Int.add_zero]
      exact k.val m v hm
theorem spentL_snoc (W : WorldD) (l : List Thing) (k : Thing) (m : Int) : spentL W (l ++ [k]) m = spentL W l m + if k.2.2.1 = m then energyT W k else 0 := by
  unfold spentL
  rw [List.map_append, List.sum_append]
  simp
theorem mem_busy {W : WorldD} {c : CaseD} {s : Nat} {k : Thing} (wok : WorldOk W) (h : k ∈ busyL W c s) : 0 ≤ k.2.2.1 ∧ k.2.2.1 < W.horizon ∧ k.2.2.1 < k.2.2.2 ∧ (if k.1 = true then ∃ z, W.pass[k.2.1]? = some z else ∃ z, W.recs[k.2.1]? = some z) := by
  unfold busyL at h
  rcases List.mem_append.mp h with h | h
  · obtain ⟨q, hq, h⟩ := List.mem_flatMap.mp h
    obtain ⟨_, z, y, hz, hy, h0, ho⟩ := mem_made hq
    unfold recThg at h
    rw [hz] at h
    dsimp only at h
    split at h
    · have e := List.mem_singleton.mp h
      subst e
      have ok := wok.recs z (List.mem_of_getElem? hz)
      have k1 := ok.earliest
      have k2 := ok.latest
      have k3 := ok.length
      unfold isOpt at ho
      obtain ⟨h1, h2⟩ := Bool.and_eq_true_iff.mp ho
      obtain ⟨h2, h3⟩ := Bool.and_eq_true_iff.mp h2
      have h1 := of_decide_eq_true h1
      have h2 := of_decide_eq_true h2
      refine ⟨by dsimp only; omega, by dsimp only; (clear wok hq hz hy h0 ho h ok k1 k2 h3 h1; omega), by dsimp only; omega, ?_⟩
      rw [if_neg Bool.false_ne_true]
      exact ⟨z, hz⟩
    · exact absurd h List.not_mem_nil
  · obtain ⟨p, hp, h⟩ := List.mem_flatMap.mp h
    unfold pasThg at h
    split at h
    · rename_i z hz
      split at h
      · have e := List.mem_singleton.mp h
        subst e
        have ok := wok.pass z (List.mem_of_getElem? hz)
        have k1 := ok.first
        have k2 := ok.fin
        refine ⟨by dsimp only; omega, by dsimp only; omega, by dsimp only; omega, ?_⟩
        rw [if_pos rfl]
        exact ⟨z, hz⟩
      · exact absurd h List.not_mem_nil
    · exact absurd h List.not_mem_nil
theorem busy_len {W : WorldD} (wok : WorldOk W) (c : CaseD) (s : Nat) : (busyL W c s).length ≤ 20 := by
  unfold busyL
  rw [List.length_append]
  have h1 := flat_len1 (recThg_len W s) (madeL W c W.recs.length)
  have h2 := flat_len1 (pasThg_len W s) (takL W c W.pass.length)
  have h3 := madeL_len W c W.recs.length
  have h4 := takL_len W c W.pass.length
  have h5 := wok.nRecs
  have h6 := wok.nPass
  omega
section
variable {P : Program} {w : World} {K : PySem.W.Frag} {mg : Str → Option Value} {base : Heap} {CL CS CT CR CP CW aS aR fS fT fR fP : Addr}
def spMade (K : PySem.W.Frag) (CS CT CR CP CW : Addr) : Sp := fun vs H Q _ => ∃ (ac : Addr) (v : V) (W : WorldD) (o : Bool) (c : CaseD), vs = [.ref ac, v] ∧ WorldOk W ∧ WorldAt K CS CT CR CP CW H ac W ∧ CaseG W o c ∧ Dp K H v (casePy c) ∧ ∀ D H', Same H H' → H D = none → DL K tripPy H' D (madeL W c W.recs.length) → Q (.ref D) H'
set_option maxHeartbeats 4000000 in
theorem d_made (T : TxtW K mg CL CS CT CR CP CW aS aR fS fT fR fP) (D_is_filled : DefOk P w K mg base CX0 1 "is_filled" ["entry"] (spFilled K)) (D_is_option : DefOk P w K mg base CX0 1 "is_option" ["world", "number", "pair"] (spIsOption K CS CT CR CP CW))
    (A : At K mg "made_recordings" s_made_recordings ["world", "case"]) : DefOk P w K mg base CX0 2 "made_recordings" ["world", "case"] (spMade K CS CT CR CP CW) := by
  have B := T.L.B
  refine A.ok sc_made_recordings (fun vs H Q E h => ?_) (fun f cdv A outer s H vs Q E hr h => ?_)
  · obtain ⟨ac, v, W, o, c, rfl, _⟩ := h
    rfl
  obtain ⟨ac, v, W, o, c, rfl, wok, hW, cg, hc, q⟩ := h
  obtain ⟨t, tm, tt, xm, xt, rfl, ht, hm, htt, hxm, hxt, lm, lt⟩ := case_two hc
  have nM := cg.nM
  have nR := wok.nRecs
  refine ⟨_, pss_cons (ps_set (i := 2) sc_made_recordings.nd rfl (Or.inl rfl) (pe_lst pa_nil))
  (pss_cons (ps_for PassesOwn.never rfl (pi_enumT (by rfl) B.enumerate (pa_cons (pe_ix ix_tup (pv 1) pe_int (fun _ _ => rfl)) pa_nil)) (pg_tup (by rfl) (pgs_cons (pg_name (i := 3) sc_made_recordings.nd rfl (Or.inl rfl)) (pgs_cons (pg_name (i := 4) sc_made_recordings.nd rfl (Or.inl rfl)) (pgs_nil))))
      (pss_one (ps_if (PW.pt (pw_and (pt_val (pe_f D_is_filled (hr.mono (by omega)) pass0 (pa_cons (pv 4) pa_nil))) (pw_and1 (pt_val (pe_f D_is_option (hr.mono (by omega)) pass0 (pa_cons (pv 0) (pa_cons (pv 3) (pa_cons (pv 4) pa_nil))))))))
          (pss_cons (ps_asg (pv 4) (pg_tup (by rfl) (pgs_cons (pg_name (i := 5) sc_made_recordings.nd rfl (Or.inl rfl)) (pgs_cons (pg_name (i := 6) sc_made_recordings.nd rfl (Or.inl rfl)) (pgs_nil)))))
          (pss_one (ps_expr (pe_bm PySem.F.plainAttrs_list PySem.F.slot_list_append PySem.F.type_list_append mt_append (pv 2) (pa_cons (pe_tup (pa_cons (pv 3) (pa_cons (pv 5) (pa_cons (pv 6) pa_nil)))) pa_nil)))))
          (pss_nil))))
  (pss_one (ps_ret (pv 2))))
    , ?_⟩
  refine ⟨Nat.zero_le _, fun D hD => ?_⟩
  have sD := same_new hD (.lst [])
  refine ⟨_, rfl, t, _, 0, _, rfl, rfl, Same.tup sD ht, rfl, tm, xm, rfl, Same.tup sD hm, ?_⟩
  refine for_it (walk_enumT (xs := xm)) (fun i σ H' => ∃ y3 y4 y5 y6, σ = [some (.ref ac), some (.ref t), some (.ref D), y3, y4, y5, y6] ∧ Same H H' ∧ DL K tripPy H' D (madeL W c i)) ⟨none, none, none, none, rfl, sD, DL.nil⟩ (fun i σ H' _ hI => ?_) (fun i v σ H1 H2 hi hI hy => ?_) (fun σ H1 hI => ?_)
  · obtain ⟨y3, y4, y5, y6, rfl, hs, _⟩ := hI
    exact Same.tup hs hm
  · obtain ⟨y3, y4, y5, y6, rfl, hs, hd⟩ := hI
    obtain ⟨tp, v, rfl, htp, rfl, hv⟩ := hy
    obtain ⟨e, he, hde⟩ := dpAll_get hxm hv
    obtain ⟨z, hz⟩ : ∃ z, W.recs[i]? = some z := ⟨_, List.getElem?_eq_getElem (by omega)⟩
    have sT := same_new htp (.tup [.int (0 + (i : Nat)), v])
    have sA := hs.trans sT
    have hdA := hd.same sT
    have hde := dp_same sA hde
    have eok := cg.mOk e (List.mem_of_getElem? he)
    have ll := madeL_len W c i
    have ms := madeL_succ W c i
    have ma : madeAt W c i = match W.recs[i]?, c.made[i]? with | some z, some (.at_ s p) => if optB W z s p = true then [(i, s, p)] else [] | _, _ => [] := rfl
    rw [hz, he] at ma
    refine ⟨tp, _, rfl, SqT.of upd_same, rfl, _, _, rfl, _, _, rfl, rfl, _, rfl, v, entM e, rfl, hde, lay_entM e, _, rfl, ?_⟩
    generalize (upd H1 tp (.tup [.int (0 + (i : Nat)), v])) = H3 at sA hdA hde
    cases e with
    | non =>
      refine iteF' rfl ⟨_, _, _, _, rfl, sA, ?_⟩
      rw [ms, ma]
      exact (List.append_nil _).symm ▸ hdA
    | opn =>
      refine iteF' rfl ⟨_, _, _, _, rfl, sA, ?_⟩
      rw [ms, ma]
      exact (List.append_nil _).symm ▸ hdA
    | at_ st p =>
      obtain ⟨h0, h1, h2, h3⟩ := eok
      obtain ⟨k, rfl⟩ : ∃ k : Nat, p = (k : Int) := ⟨p.toNat, by (clear T D_is_filled D_is_option B hr wok hW cg q hc ht hm htt hxm hxt lm lt nM nR hD sD hi hs hd htp hv hz sT ll ms sA hdA he ma hde h0 h1 h3; omega)⟩
      obtain ⟨y, hy⟩ : ∃ y, W.pass[k]? = some y := ⟨_, List.getElem?_eq_getElem (by (clear T D_is_filled D_is_option B hr wok hW cg q hc ht hm htt hxm hxt lm lt nM nR hD sD hi hs hd htp hv hz sT ll ms sA hdA h0 h1 he ma hde h2; omega))⟩
      obtain ⟨te, xe, rfl, hte, hxe⟩ := dp_tup hde
      have ex := dp_ints (ns := [st, (k : Int)]) hxe
      subst ex
      have eo : optB W z st (k : Int) = isOpt z st y := by
        unfold optB
        rw [Int.toNat_natCast, hy]
        dsimp only
        rw [decide_eq_true (Int.natCast_nonneg k), Bool.true_and]
      rw [show (match some z, some (EntM.at_ st (k : Int)) with | some z, some (.at_ s p) => if optB W z s p = true then [(i, s, p)] else [] | _, _ => []) = if optB W z st (k : Int) = true then [(i, st, (k : Int))] else [] from rfl, eo] at ma
      refine iteT' rfl ⟨_, rfl, _, rfl, _, rfl, ac, te, W, i, k, z, y, st, by rw [Int.zero_add]; rfl, hW.same sA, hz, hy, hte, _, rfl, ite2 (fun k1 => ?_) (fun k1 => ?_)⟩
      · refine ⟨_, rfl, te, _, rfl, hte, rfl, _, _, rfl, _, _, rfl, rfl, ?_⟩
        obtain ⟨xs0, hx0, _⟩ := id hdA
        refine ⟨_, rfl, .inl ⟨rfl, _, SqL.of hx0⟩, _, rfl, _, rfl, _, rfl, (by show 3 ≤ sizeLine; decide), fun t3 ht3 => ?_⟩
        have sB := same_new ht3 (.tup [.int (0 + (i : Nat)), .int st, .int (k : Int)])
        have tv : Dp K (upd H3 t3 (.tup [.int (0 + (i : Nat)), .int st, .int (k : Int)])) (.ref t3) (tripPy (i, st, (k : Int))) := .tup (SqT.of (by rw [upd_same, Int.zero_add])) (.cons (.int _) (.cons (.int _) (.cons (.int _) .nil)))
        obtain ⟨xs, g1, g2, g3⟩ := (hdA.same sB).push noL_trip tv (by (clear T D_is_filled D_is_option B hr wok hW cg q hc ht hm htt hxm hxt lt hD sD hs hd htp hz ms sA hdA h0 h1 he h2 h3 ma hy hv sT hde hte hxe eo k1 hx0 ht3 sB tv; omega))
        refine ⟨D, xs, _, rfl, rfl, g1, g2, _, _, _, _, rfl, same_at hD (sA.trans sB) _, ?_⟩
        rw [ms, ma, if_pos k1]
        exact g3
      · refine ⟨_, _, _, _, rfl, sA, ?_⟩
        rw [ms, ma, if_neg k1]
        exact (List.append_nil _).symm ▸ hdA
  · obtain ⟨y3, y4, y5, y6, rfl, hs, hd⟩ := hI
    rw [lm, nM] at hd
    exact ⟨_, rfl, q D _ hs hD hd⟩
def spTaken (K : PySem.W.Frag) (CS CT CR CP CW : Addr) : Sp := fun vs H Q _ => ∃ (ac : Addr) (v : V) (W : WorldD) (o : Bool) (c : CaseD), vs = [.ref ac, v] ∧ WorldOk W ∧ WorldAt K CS CT CR CP CW H ac W ∧ CaseG W o c ∧ Dp K H v (casePy c) ∧ ∀ D H', Same H H' → H D = none → H' D = some (.lst ((takL W c W.pass.length).map fun (p : Nat) => V.int (p : Int))) → Q (.ref D) H'
set_option maxHeartbeats 4000000 in
theorem d_taken (T : TxtW K mg CL CS CT CR CP CW aS aR fS fT fR fP) (D_is_filled : DefOk P w K mg base CX0 1 "is_filled" ["entry"] (spFilled K)) (D_has_antenna : DefOk P w K mg base CX0 1 "has_antenna" ["world", "p", "antenna"] (spHasAnt K CS CT CR CP CW))
    (A : At K mg "taken_passes" s_taken_passes ["world", "case"]) : DefOk P w K mg base CX0 2 "taken_passes" ["world", "case"] (spTaken K CS CT CR CP CW) := by
  have B := T.L.B
  refine A.ok sc_taken_passes (fun vs H Q E h => ?_) (fun f cdv A outer s H vs Q E hr h => ?_)
  · obtain ⟨ac, v, W, o, c, rfl, _⟩ := h
    rfl
  obtain ⟨ac, v, W, o, c, rfl, wok, hW, cg, hc, q⟩ := h
  obtain ⟨t, tm, tt, xm, xt, rfl, ht, hm, htt, hxm, hxt, lm, lt⟩ := case_two hc
  have nT := cg.nT
  have nP := wok.nPass
  refine ⟨_, pss_one (ps_ret (pe_lc (own := [("p", 2), ("entry", 3)])  rfl sc_taken_passes.nd (pi_enumT (by rfl) B.enumerate (pa_cons (pe_ix ix_tup (pv 1) pe_int (fun _ _ => rfl)) pa_nil)) (blkOk_by (own := [("p", 2), ("entry", 3)]) (N := ["world", "case", "p", "entry"]) (sc := defScope s_taken_passes) (by decide +kernel)) (fun _ _ _ _ _ => pg_tupK (K := K) (n := 2) rfl (by rfl) (pgs_cons (pg_name (i := 2) sc_taken_passes.nd rfl (Or.inl rfl)) (pgs_cons (pg_name (i := 3) sc_taken_passes.nd rfl (Or.inl rfl)) (pgs_nil)))) (fun _ _ _ _ _ => pts_one (PW.pt (pw_and (pt_val (pe_f D_is_filled (hr.mono (by omega)) pass0 (pa_cons (pv 3) pa_nil))) (pw_and1 (pt_val (pe_f D_has_antenna (hr.mono (by omega)) pass0 (pa_cons (pv 0) (pa_cons (pv 2) (pa_cons (pv 3) pa_nil))))))))) (fun _ _ _ _ _ => (pv 2))))
    , ?_⟩
  refine ⟨_, rfl, t, _, 1, _, rfl, rfl, ht, rfl, tt, xt, rfl, htt, fun D hD => lc_it (walk_enumT (K := K) (a := tt) (k := 0) (xs := xt)) (fun i H' => Same H H' ∧ H' D = some (.lst ((takL W c i).map fun (p : Nat) => V.int (p : Int)))) ⟨same_new hD _, upd_same⟩ (fun i H' _ hI => Same.tup hI.1 htt) (fun i x H1 H2 hi hI hy => ?_) (fun H1 hI => ?_)⟩
  · obtain ⟨hs, hd⟩ := hI
    obtain ⟨tp, v, rfl, htp, rfl, hv⟩ := hy
    obtain ⟨e, he, hde⟩ := dpAll_get hxt hv
    obtain ⟨z, hz⟩ : ∃ z, W.pass[i]? = some z := ⟨_, List.getElem?_eq_getElem (by (clear T D_is_filled D_has_antenna B hr wok hW cg q hc ht hm htt hxm hxt lm nP hD hs hd htp hv he hde; omega))⟩
    have zok := wok.pass z (List.mem_of_getElem? hz)
    obtain ⟨st, hst⟩ : ∃ st, W.stas[z.sta]? = some st := ⟨_, List.getElem?_eq_getElem zok.sta⟩
    have sT := same_new htp (.tup [.int (0 + (i : Nat)), v])
    have sA := hs.trans sT
    have hdA := sT _ _ hd
    have hde := dp_same sA hde
    have ll := takL_len W c i
    have ts := takL_succ W c i
    have an : antB W c i = match W.pass[i]?, c.taken[i]? with | some z, some (.ant n) => (match W.stas[z.sta]? with | some t => decide (0 ≤ n) && decide (n < t.antennas) | none => false) | _, _ => false := rfl
    rw [hz, he] at an
    refine ⟨tp, _, rfl, SqT.of upd_same, rfl, _, _, rfl, _, _, rfl, rfl, rfl, _, rfl, v, entT e, rfl, hde, lay_entT e, _, rfl, ?_⟩
    generalize (upd H1 tp (.tup [.int (0 + (i : Nat)), v])) = H3 at sA hdA hde
    cases e with
    | non =>
      refine iteF' rfl ⟨sA, ?_⟩
      rw [ts, show antB W c i = false from an, if_neg Bool.false_ne_true, List.append_nil]
      exact hdA
    | opn =>
      refine iteF' rfl ⟨sA, ?_⟩
      rw [ts, show antB W c i = false from an, if_neg Bool.false_ne_true, List.append_nil]
      exact hdA
    | ant n =>
      cases hde
      have an2 : antB W c i = (decide (0 ≤ n) && decide (n < st.antennas)) := by
        rw [an]
        dsimp only
        rw [hst]
      refine iteT' rfl ⟨_, rfl, _, rfl, _, rfl, ac, W, i, n, z, st, by rw [Int.zero_add]; rfl, hW.same sA, hz, hst, _, rfl, ?_⟩
      rw [← an2]
      refine ite2 (fun k1 => ?_) (fun k1 => ?_)
      · refine ⟨_, rfl, _, hdA, by rw [List.length_map]; exact small1000 (by (clear T D_is_filled D_has_antenna B hr wok hW cg q hc ht hm htt hxm hxt lm hD hs hd htp hz zok hst ts sA hdA he an hv sT hde an2 k1; omega)), same_at hD sA _, ?_⟩
        rw [upd_same, ts, if_pos k1, List.map_append, Int.zero_add]
        rfl
      · refine ⟨sA, ?_⟩
        rw [ts, if_neg k1, List.append_nil]
        exact hdA
  · obtain ⟨hs, hd⟩ := hI
    rw [lt, nT] at hd
    exact q D _ hs hD hd
end
end DP
namespace DP
open PySem PySem.Spec PyProof.Rows L2
theorem dp_thg {K : PySem.W.Frag} {H : Hp} {v : V} {k : Thing} (h : Dp K H v (thgPy k)) : ∃ t t1 t2, v = .ref t ∧ SqT K H t [.ref t1, .ref t2] ∧ SqT K H t1 [.str (sortN k.1), .int (k.2.1 : Int)] ∧ SqT K H t2 [.int k.2.2.1, .int k.2.2.2] := by
  obtain ⟨t, xs, rfl, ht, hx⟩ := dp_tup h
  cases hx with
  | cons a0 hx =>
  cases hx with
  | cons a1 hx =>
  cases hx
  obtain ⟨t1, x1, rfl, h1, g1⟩ := dp_tup a0
  obtain ⟨t2, x2, rfl, h2, g2⟩ := dp_tup a1
  have e2 := dp_ints (ns := [k.2.2.1, k.2.2.2]) g2
  subst e2
  cases g1 with
  | cons b0 g1 =>
  cases g1 with
  | cons b1 g1 =>
  cases g1
  cases b0
  cases b1
  exact ⟨t, t1, t2, rfl, ht, h1, h2⟩
theorem dp_trip {K : PySem.W.Frag} {H : Hp} {v : V} {q : Nat × Int × Int} (h : Dp K H v (tripPy q)) : ∃ t, v = .ref t ∧ SqT K H t [.int (q.1 : Int), .int q.2.1, .int q.2.2] := by
  obtain ⟨t, xs, rfl, ht, hx⟩ := dp_tup h
  have ex := dp_ints (ns := [(q.1 : Int), q.2.1, q.2.2]) hx
  subst ex
  exact ⟨t, rfl, ht⟩
theorem sqT_sx {K : PySem.W.Frag} {H H' : Hp} {D b : Addr} {xs ys : List V} (hD : H D = some (.lst ys)) (s : SameX D H H') (h : SqT K H b xs) : SqT K H' b xs := by
  rcases h with (h | ⟨o, h⟩) | h
  · exact .inl (.inl (s _ _ (fun z => by rw [z, hD] at h; cases h) h))
  · exact .inl (.inr ⟨o, s _ _ (fun z => by rw [z, hD] at h; cases h) h⟩)
  · exact .inr h
theorem dpAll_sx {K : PySem.W.Frag} {H H' : Hp} {D : Addr} {xs ys : List V} {ds : List PyData} (n : noLs ds) (hD : H D = some (.lst ys)) (s : SameX D H H') (h : DpAll K H xs ds) : DpAll K H' xs ds := dpTs_map (fun _ _ z => sqT_sx hD s z) n h
theorem sqT_sxd {K : PySem.W.Frag} {H H' : Hp} {D b : Addr} {xs : List V} {ys : List (Key × V)} (hD : H D = some (.dK ys)) (s : SameX D H H') (h : SqT K H b xs) : SqT K H' b xs := by
  rcases h with (h | ⟨o, h⟩) | h
  · exact .inl (.inl (s _ _ (fun z => by rw [z, hD] at h; cases h) h))
  · exact .inl (.inr ⟨o, s _ _ (fun z => by rw [z, hD] at h; cases h) h⟩)
  · exact .inr h
theorem dpAll_sxd {K : PySem.W.Frag} {H H' : Hp} {D : Addr} {xs : List V} {ys : List (Key × V)} {ds : List PyData} (n : noLs ds) (hD : H D = some (.dK ys)) (s : SameX D H H') (h : DpAll K H xs ds) : DpAll K H' xs ds := dpTs_map (fun _ _ z => sqT_sxd hD s z) n h
theorem sx_same {H H1 H' : Hp} {D : Addr} (s : Same H H1) (hD : H D = none) (x : SameX D H1 H') : Same H H' := fun b o h => x b o (ne_of_none h hD) (s b o h)
section
variable {P : Program} {w : World} {K : PySem.W.Frag} {mg : Str → Option Value} {base : Heap} {CL CS CT CR CP CW aS aR fS fT fR fP : Addr}
theorem rec_at {CR : Addr} {H : Hp} {x2 : List V} {l : List RecD} (q2 : Paired (RecAt CR H) x2 l) {i : Nat} {z : RecD} (hz : l[i]? = some z) : ∃ ob od, x2[i]? = some (.ref ob) ∧ H ob = some (.ins CR od (recF z)) := by
  have l2 := paired_len q2
  obtain ⟨x, hx⟩ : ∃ x, x2[i]? = some x := ⟨_, List.getElem?_eq_getElem (by have := (List.getElem?_eq_some_iff.mp hz).1; omega)⟩
  obtain ⟨z', hz', ob, od, rfl, o1⟩ := paired_at q2 hx
  rw [hz] at hz'
  cases hz'
  exact ⟨ob, od, hx, o1⟩
theorem pas_at {K : PySem.W.Frag} {CP : Addr} {H : Hp} {x3 : List V} {l : List PasD} (q3 : Paired (PasAt K CP H) x3 l) {i : Nat} {z : PasD} (hz : l[i]? = some z) : ∃ pb pd ts, x3[i]? = some (.ref pb) ∧ H pb = some (.ins CP pd (pasF z ts)) ∧ SqT K H ts [.int z.first, .int z.fin] := by
  have l2 := paired_len q3
  obtain ⟨x, hx⟩ : ∃ x, x3[i]? = some x := ⟨_, List.getElem?_eq_getElem (by have := (List.getElem?_eq_some_iff.mp hz).1; omega)⟩
  obtain ⟨z', hz', pb, pd, ts, rfl, c1, c2⟩ := paired_at q3 hx
  rw [hz] at hz'
  cases hz'
  exact ⟨pb, pd, ts, hx, c1, c2⟩
def spBusy (K : PySem.W.Frag) (CS CT CR CP CW : Addr) : Sp := fun vs H Q _ => ∃ (ac : Addr) (v : V) (W : WorldD) (o : Bool) (c : CaseD) (s : Nat), vs = [.ref ac, v, .int (s : Int)] ∧ WorldOk W ∧ WorldAt K CS CT CR CP CW H ac W ∧ CaseG W o c ∧ Dp K H v (casePy c) ∧ ∀ D H', Same H H' → H D = none → DL K thgPy H' D (busyL W c s) → Q (.ref D) H'
set_option maxHeartbeats 4000000 in
theorem d_busy (T : TxtW K mg CL CS CT CR CP CW aS aR fS fT fR fP) (D_made_recordings : DefOk P w K mg base CX0 2 "made_recordings" ["world", "case"] (spMade K CS CT CR CP CW)) (D_taken_passes : DefOk P w K mg base CX0 2 "taken_passes" ["world", "case"] (spTaken K CS CT CR CP CW))
    (A : At K mg "busy_things" s_busy_things ["world", "case", "number"]) : DefOk P w K mg base CX0 3 "busy_things" ["world", "case", "number"] (spBusy K CS CT CR CP CW) := by
  have B := T.L.B
  refine A.ok sc_busy_things (fun vs H Q E h => ?_) (fun f cdv A outer s H vs Q E hr h => ?_)
  · obtain ⟨ac, v, W, o, c, n, rfl, _⟩ := h
    rfl
  obtain ⟨ac, v, W, o, c, n, rfl, wok, hW, cg, hc, q⟩ := h
  have hW0 := hW
  obtain ⟨dx, t0, t1, t2, t3, x0, x1, x2, x3, gw, _, _, _, _, p2, q2, p3, q3⟩ := hW.ex
  have nR := wok.nRecs
  have nP := wok.nPass
  refine ⟨_, pss_cons (ps_set (i := 3) sc_busy_things.nd rfl (Or.inl rfl) (pe_lst pa_nil))
  (pss_cons (ps_for PassesOwn.never rfl (pi_list (pe_f D_made_recordings (hr.mono (by omega)) pass0 (pa_cons (pv 0) (pa_cons (pv 1) pa_nil)))) (pg_tup (by rfl) (pgs_cons (pg_name (i := 4) sc_busy_things.nd rfl (Or.inl rfl)) (pgs_cons (pg_name (i := 5) sc_busy_things.nd rfl (Or.inl rfl)) (pgs_cons (pg_name (i := 6) sc_busy_things.nd rfl (Or.inl rfl)) (pgs_nil)))))
      (pss_cons (ps_set (i := 7) sc_busy_things.nd rfl (Or.inl rfl) (pe_ix ix_tup (pe_fld (pv 0) rfl) (pv 4) (fun _ _ => rfl)))
      (pss_one (ps_if (pt_cmpR op_eq (pe_fld (pv 7) rfl) (pv 2) (nomark _))
          (pss_one (ps_expr (pe_bm PySem.F.plainAttrs_list PySem.F.slot_list_append PySem.F.type_list_append mt_append (pv 3) (pa_cons (pe_tup (pa_cons (pe_tup (pa_cons pe_str (pa_cons (pv 4) pa_nil))) (pa_cons (pe_tup (pa_cons (pv 5) (pa_cons (pe_op op_add (pv 5) (pe_fld (pv 7) rfl)) pa_nil))) pa_nil))) pa_nil))))
          (pss_nil)))))
  (pss_cons (ps_for PassesOwn.never rfl (pi_list (pe_f D_taken_passes (hr.mono (by omega)) pass0 (pa_cons (pv 0) (pa_cons (pv 1) pa_nil)))) (pg_name (i := 8) sc_busy_things.nd rfl (Or.inl rfl))
      (pss_cons (ps_set (i := 9) sc_busy_things.nd rfl (Or.inl rfl) (pe_ix ix_tup (pe_fld (pv 0) rfl) (pv 8) (fun _ _ => rfl)))
      (pss_one (ps_if (pt_cmpR op_eq (pe_fld (pv 9) rfl) (pv 2) (nomark _))
          (pss_one (ps_expr (pe_bm PySem.F.plainAttrs_list PySem.F.slot_list_append PySem.F.type_list_append mt_append (pv 3) (pa_cons (pe_tup (pa_cons (pe_tup (pa_cons pe_str (pa_cons (pv 8) pa_nil))) (pa_cons (pe_fld (pv 9) rfl) pa_nil))) pa_nil))))
          (pss_nil)))))
  (pss_one (ps_ret (pv 3)))))
    , ?_⟩
  refine ⟨Nat.zero_le _, fun D hD => ?_⟩
  have sD := same_new hD (.lst [])
  refine ⟨_, rfl, _, rfl, ac, v, W, o, c, rfl, wok, hW.same sD, cg, dp_same sD hc, fun M H1 s1 nM hM => ?_⟩
  have ml := madeL_len W c W.recs.length
  have hD1 := s1 _ _ (show (upd H D (.lst [])) D = some (.lst []) from upd_same)
  obtain ⟨xm, hM1, hM2⟩ := hM
  have lM := dpAll_len hM2
  rw [List.length_map] at lM
  refine ⟨M, rfl, ⟨_, SqL.of hM1⟩, ?_⟩
  have nDM : M ≠ D := fun z => by rw [z, upd_same] at nM; cases nM
  refine for_it (walk_list (K := K) (a := M) (xs := xm)) (fun i σ H' => ∃ y4 y5 y6 y7, σ = [some (.ref ac), some v, some (.int (n : Int)), some (.ref D), y4, y5, y6, y7, none, none] ∧ SameX D H1 H' ∧ DL K thgPy H' D (((madeL W c W.recs.length).take i).flatMap (recThg W n))) ⟨none, none, none, none, rfl, SameX.refl _ _, [], hD1, .nil⟩ (fun i σ H' _ hI => ?_) (fun i v' σ H2 H3 hi hI hy => ?_) (fun σ H2 hI => ?_)
  · obtain ⟨y4, y5, y6, y7, rfl, hs, _⟩ := hI
    exact SqL.of (hs _ _ nDM hM1)
  · obtain ⟨y4, y5, y6, y7, rfl, hs, hd⟩ := hI
    obtain ⟨rfl, hx⟩ := hy
    obtain ⟨q1, hq1, dq1⟩ := dpAll_get (dpAll_sx (noLs_map noL_trip _) hD1 hs hM2) hx
    obtain ⟨r0, z, y, hz, hy2, p0, ho⟩ := mem_made (List.mem_of_getElem? hq1)
    obtain ⟨tt, rfl, htt⟩ := dp_trip dq1
    have hsH := sx_same (sD.trans s1) hD hs
    obtain ⟨ob, od, hob, o1⟩ := rec_at q2 hz
    have ft := fm_take (g := recThg W n) hq1
    have fl := flat_len1 (recThg_len W n) ((madeL W c W.recs.length).take i)
    rw [List.length_take] at fl
    have rt : recThg W n q1 = if z.sat = n then [(false, q1.1, q1.2.1, q1.2.1 + z.length)] else [] := by
      unfold recThg
      rw [hz]
    refine ⟨tt, _, rfl, htt, rfl, _, _, rfl, _, _, rfl, _, _, rfl, rfl, ?_⟩
    refine ⟨_, rfl, ac, CW, dx, _, _, rfl, hsH _ _ gw, T.c_World.cl, T.n_World_recordings, lk_World_recordings, _, rfl, t2, x2, (q1.1 : Int), _, rfl, rfl, Same.tup hsH p2, atI_nat hob, ?_⟩
    refine ⟨_, rfl, ob, CR, od, _, _, rfl, hsH _ _ o1, T.c_Recording.cl, T.n_Recording_satellite, lk_Recording_satellite, _, rfl, rfl, _, rfl, ite2 (fun k1 => ?_) (fun k1 => ?_)⟩
    · have es : z.sat = n := by
        have := V.int.inj (of_decide_eq_true k1)
        (clear T D_made_recordings D_taken_passes B hr wok hW cg hc q hW0 gw p2 q2 p3 q3 nR nP hD sD s1 nM ml hD1 hM1 hM2 lM nDM hi hs hd hq1 r0 hz hy2 p0 ho htt hx dq1 hsH hob o1 ft fl rt k1; omega)
      obtain ⟨xs0, hx0, _⟩ := id hd
      refine ⟨_, rfl, .inl ⟨rfl, _, SqL.of hx0⟩, _, rfl, sz2_, fun a1 h1 => ⟨_, rfl, _, rfl, _, rfl, ob, CR, od, _, _, rfl, (hsH.trans (same_new h1 _)) _ _ o1, T.c_Recording.cl, T.n_Recording_length, lk_Recording_length, _, _, rfl, rfl, sz2_, fun a2 h2 => ⟨sz2_, fun a3 h3 => ?_⟩⟩⟩
      have b1 := same_new h1 (.tup [.str "recording", .int (q1.1 : Int)])
      have b2 := same_new h2 (.tup [.int q1.2.1, .int (q1.2.1 + z.length)])
      have b3 := same_new h3 (.tup [.ref a1, .ref a2])
      have b123 := b1.trans (b2.trans b3)
      have tv : Dp K (upd (upd (upd H3 a1 (.tup [.str "recording", .int (q1.1 : Int)])) a2 (.tup [.int q1.2.1, .int (q1.2.1 + z.length)])) a3 (.tup [.ref a1, .ref a2])) (.ref a3) (thgPy (false, q1.1, q1.2.1, q1.2.1 + z.length)) :=
        .tup (SqT.of upd_same) (.cons (.tup (SqT.of ((b2.trans b3) _ _ upd_same)) (.cons (.str _) (.cons (.int _) .nil))) (.cons (.tup (SqT.of (b3 _ _ upd_same)) (.cons (.int _) (.cons (.int _) .nil))) .nil))
      obtain ⟨xs, g1, g2, g3⟩ := (hd.same b123).push noL_thg tv (by omega)
      refine ⟨D, xs, _, rfl, rfl, g1, g2, _, _, _, _, rfl, (hs.trans (SameX.of b123)).at_, ?_⟩
      rw [ft, rt, if_pos es]
      exact g3
    · refine ⟨_, _, _, _, rfl, hs, ?_⟩
      rw [ft, rt, if_neg (fun e => k1 (decide_eq_true (by rw [e]))), List.append_nil]
      exact hd
  · obtain ⟨y4, y5, y6, y7, rfl, hs, hd⟩ := hI
    rw [lM, List.take_length] at hd
    have hsH := sx_same (sD.trans s1) hD hs
    refine ⟨_, rfl, _, rfl, ac, v, W, o, c, rfl, wok, hW.same hsH, cg, dp_same hsH hc, fun N H3 s3 nN hN => ?_⟩
    have hd3 := hd.same s3
    obtain ⟨ys3, hD3, _⟩ := id hd3
    have nDN : N ≠ D := fun z => by
      obtain ⟨ys2, hD2, _⟩ := id hd
      rw [z, hD2] at nN
      cases nN
    have tl := takL_len W c W.pass.length
    have hs3 := hsH.trans s3
    have f0 := flat_len1 (recThg_len W n) (madeL W c W.recs.length)
    refine ⟨N, rfl, ⟨_, SqL.of hN⟩, ?_⟩
    refine for_it (walk_list (K := K) (a := N) (xs := (takL W c W.pass.length).map fun (p : Nat) => V.int (p : Int))) (fun i σ H' => ∃ y8 y9, σ = [some (.ref ac), some v, some (.int (n : Int)), some (.ref D), y4, y5, y6, y7, y8, y9] ∧ SameX D H3 H' ∧ DL K thgPy H' D ((madeL W c W.recs.length).flatMap (recThg W n) ++ ((takL W c W.pass.length).take i).flatMap (pasThg W n))) ⟨none, none, rfl, SameX.refl _ _, (by show DL K thgPy H3 D (_ ++ []); rw [List.append_nil]; exact hd3)⟩ (fun i σ H' _ hI => ?_) (fun i v' σ H4 H5 hi hI hy => ?_) (fun σ H4 hI => ?_)
    · obtain ⟨y8, y9, rfl, hx, _⟩ := hI
      exact SqL.of (hx _ _ nDN hN)
    · obtain ⟨y8, y9, rfl, hx, hd⟩ := hI
      obtain ⟨rfl, hy⟩ := hy
      rw [List.getElem?_map] at hy
      cases hp : (takL W c W.pass.length)[i]? with
      | none => rw [hp] at hy; cases hy
      | some p =>
        rw [hp] at hy
        have ev : V.int (p : Int) = v' := Option.some.inj hy
        subst ev
        have hlt := (mem_tak (List.mem_of_getElem? hp)).1
        obtain ⟨z, hz⟩ : ∃ z, W.pass[p]? = some z := ⟨_, List.getElem?_eq_getElem hlt⟩
        have hsA := sx_same hs3 hD hx
        obtain ⟨pb, pd, ts, hpb, c1, c2⟩ := pas_at q3 hz
        have ft := fm_take (g := pasThg W n) hp
        have fl := flat_len1 (pasThg_len W n) ((takL W c W.pass.length).take i)
        rw [List.length_take] at fl
        have rt : pasThg W n p = if z.sat = n then [(true, p, z.first, z.fin)] else [] := by
          unfold pasThg
          rw [hz]
        refine ⟨_, rfl, ac, CW, dx, _, _, rfl, hsA _ _ gw, T.c_World.cl, T.n_World_passes, lk_World_passes, _, rfl, t3, x3, (p : Int), _, rfl, rfl, Same.tup hsA p3, atI_nat hpb, ?_⟩
        refine ⟨_, rfl, pb, CP, pd, _, _, rfl, hsA _ _ c1, T.c_Pass.cl, T.n_Pass_satellite, lk_Pass_satellite, _, rfl, rfl, _, rfl, ite2 (fun k1 => ?_) (fun k1 => ?_)⟩
        · have es : z.sat = n := by
            have := V.int.inj (of_decide_eq_true k1)
            (clear T D_made_recordings D_taken_passes B hr wok hW cg hc q hW0 gw p2 q2 p3 q3 nR nP hD sD s1 nM ml hD1 hM1 hM2 lM nDM hs hsH s3 nN hN hd3 hD3 nDN tl hs3 f0 hi hx hd hp hy hlt hz hsA hpb c1 c2 ft fl rt k1; omega)
          obtain ⟨xs0, hx0, _⟩ := id hd
          refine ⟨_, rfl, .inl ⟨rfl, _, SqL.of hx0⟩, _, rfl, sz2_, fun a1 h1 => ⟨_, rfl, pb, CP, pd, _, _, rfl, (hsA.trans (same_new h1 _)) _ _ c1, T.c_Pass.cl, T.n_Pass_span, lk_Pass_span, sz2_, fun a3 h3 => ?_⟩⟩
          have b1 := same_new h1 (.tup [.str "pass", .int (p : Int)])
          have b3 := same_new h3 (.tup [.ref a1, .ref ts])
          have b13 := b1.trans b3
          have tv : Dp K (upd (upd H5 a1 (.tup [.str "pass", .int (p : Int)])) a3 (.tup [.ref a1, .ref ts])) (.ref a3) (thgPy (true, p, z.first, z.fin)) :=
            .tup (SqT.of upd_same) (.cons (.tup (SqT.of (b3 _ _ upd_same)) (.cons (.str _) (.cons (.int _) .nil))) (.cons (.tup (Same.tup (hsA.trans b13) c2) (.cons (.int _) (.cons (.int _) .nil))) .nil))
          obtain ⟨xs, g1, g2, g3⟩ := (hd.same b13).push noL_thg tv (by rw [List.length_append]; omega)
          refine ⟨D, xs, _, rfl, rfl, g1, g2, _, _, rfl, (hx.trans (SameX.of b13)).at_, ?_⟩
          rw [ft, rt, if_pos es, ← List.append_assoc]
          exact g3
        · refine ⟨_, _, rfl, hx, ?_⟩
          rw [ft, rt, if_neg (fun e => k1 (decide_eq_true (by rw [e]))), List.append_nil]
          exact hd
    · obtain ⟨y8, y9, rfl, hx, hd⟩ := hI
      rw [List.length_map, List.take_length] at hd
      exact ⟨_, rfl, q D _ (sx_same hs3 hD hx) hD hd⟩
def spEnergy (K : PySem.W.Frag) (CS CT CR CP CW : Addr) : Sp := fun vs H Q _ => ∃ (ac t : Addr) (W : WorldD) (k : Thing), vs = [.ref ac, .ref t] ∧ WorldAt K CS CT CR CP CW H ac W ∧ SqT K H t [.str (sortN k.1), .int (k.2.1 : Int)] ∧ (if k.1 = true then ∃ z, W.pass[k.2.1]? = some z else ∃ z, W.recs[k.2.1]? = some z) ∧ Q (.int (energyT W k)) H
theorem d_energy_of (T : TxtW K mg CL CS CT CR CP CW aS aR fS fT fR fP) (A : At K mg "energy_of" s_energy_of ["world", "thing"]) : DefOk P w K mg base CX0 1 "energy_of" ["world", "thing"] (spEnergy K CS CT CR CP CW) := by
  have B := T.L.B
  refine A.ok sc_energy_of (fun vs H Q E h => ?_) (fun f cdv A outer s H vs Q E hr h => ?_)
  · obtain ⟨ac, t, W, k, rfl, _⟩ := h
    rfl
  obtain ⟨ac, t, W, ⟨b, k, f0, e0⟩, rfl, hW, ht, hk, q⟩ := h
  obtain ⟨dx, t0, t1, t2, t3, x0, x1, x2, x3, gw, _, _, _, _, p2, q2, p3, q3⟩ := hW.ex
  refine ⟨_, pss_cons (ps_asg (pv 1) (pg_tup (by rfl) (pgs_cons (pg_name (i := 2) sc_energy_of.nd rfl (Or.inl rfl)) (pgs_cons (pg_name (i := 3) sc_energy_of.nd rfl (Or.inl rfl)) (pgs_nil)))))
  (pss_cons (ps_if (pt_cmpR op_eq (pv 2) pe_str (nomark _))
      (pss_one (ps_ret (pe_fld (pe_ix ix_tup (pe_fld (pv 0) rfl) (pv 3) (fun _ _ => rfl)) rfl)))
      (pss_nil))
  (pss_one (ps_ret (pe_fld (pe_ix ix_tup (pe_fld (pv 0) rfl) (pv 3) (fun _ _ => rfl)) rfl))))
    , ?_⟩
  refine ⟨_, rfl, t, _, rfl, ht, rfl, _, _, rfl, _, _, rfl, rfl, ?_⟩
  cases b with
  | false =>
    rw [if_neg Bool.false_ne_true] at hk
    obtain ⟨z, hz⟩ := hk
    obtain ⟨ob, od, hob, o1⟩ := rec_at q2 hz
    refine ⟨_, rfl, rfl, _, rfl, iteT' (by show decide (V.str (sortN false) = V.str _) = true; decide +kernel) ?_⟩
    refine ⟨_, rfl, ac, CW, dx, _, _, rfl, gw, T.c_World.cl, T.n_World_recordings, lk_World_recordings, _, rfl, t2, x2, (k : Int), _, rfl, rfl, p2, atI_nat hob, ob, CR, od, _, _, rfl, o1, T.c_Recording.cl, T.n_Recording_energy, lk_Recording_energy, ?_⟩
    have e : energyT W (false, k, f0, e0) = z.energy := by
      unfold energyT
      rw [if_neg Bool.false_ne_true, hz]
      rfl
    rw [e] at q
    exact q
  | true =>
    rw [if_pos rfl] at hk
    obtain ⟨z, hz⟩ := hk
    obtain ⟨pb, pd, ts, hpb, c1, c2⟩ := pas_at q3 hz
    refine ⟨_, rfl, rfl, _, rfl, iteF' (by show decide (V.str (sortN true) = V.str _) = false; decide +kernel) ?_⟩
    refine ⟨_, rfl, ac, CW, dx, _, _, rfl, gw, T.c_World.cl, T.n_World_passes, lk_World_passes, _, rfl, t3, x3, (k : Int), _, rfl, rfl, p3, atI_nat hpb, pb, CP, pd, _, _, rfl, c1, T.c_Pass.cl, T.n_Pass_energy, lk_Pass_energy, ?_⟩
    have e : energyT W (true, k, f0, e0) = z.energy := by
      unfold energyT
      rw [if_pos rfl, hz]
      rfl
    rw [e] at q
    exact q
def spSpending (K : PySem.W.Frag) (CS CT CR CP CW : Addr) : Sp := fun vs H Q _ => ∃ (ac : Addr) (v : V) (W : WorldD) (o : Bool) (c : CaseD) (s : Nat), vs = [.ref ac, v, .int (s : Int)] ∧ WorldOk W ∧ WorldAt K CS CT CR CP CW H ac W ∧ CaseG W o c ∧ Dp K H v (casePy c) ∧ ∀ d H' kvs, Same H H' → H d = none → H' d = some (.dK kvs) → kvs.length ≤ 20 → SpK kvs (spentW W c s) W.horizon → Q (.ref d) H'
set_option maxHeartbeats 4000000 in
theorem d_spending (T : TxtW K mg CL CS CT CR CP CW aS aR fS fT fR fP) (D_busy_things : DefOk P w K mg base CX0 3 "busy_things" ["world", "case", "number"] (spBusy K CS CT CR CP CW)) (D_energy_of : DefOk P w K mg base CX0 1 "energy_of" ["world", "thing"] (spEnergy K CS CT CR CP CW))
    (A : At K mg "spending" s_spending ["world", "case", "number"]) : DefOk P w K mg base CX0 4 "spending" ["world", "case", "number"] (spSpending K CS CT CR CP CW) := by
  have B := T.L.B
  refine A.ok sc_spending (fun vs H Q E h => ?_) (fun f cdv A outer s H vs Q E hr h => ?_)
  · obtain ⟨ac, v, W, o, c, n, rfl, _⟩ := h
    rfl
  obtain ⟨ac, v, W, o, c, n, rfl, wok, hW, cg, hc, q⟩ := h
  have bl := busy_len wok c n
  refine ⟨_, pss_cons (ps_set (i := 3) sc_spending.nd rfl (Or.inl rfl) pe_dnewK)
  (pss_cons (ps_for PassesOwn.never rfl (pi_list (pe_f D_busy_things (hr.mono (by omega)) pass0 (pa_cons (pv 0) (pa_cons (pv 1) (pa_cons (pv 2) pa_nil))))) (pg_tup (by rfl) (pgs_cons (pg_name (i := 4) sc_spending.nd rfl (Or.inl rfl)) (pgs_cons (pg_name (i := 5) sc_spending.nd rfl (Or.inl rfl)) (pgs_nil))))
      (pss_cons (ps_asg (pv 5) (pg_tup (by rfl) (pgs_cons (pg_name (i := 6) sc_spending.nd rfl (Or.inl rfl)) (pgs_cons (pg_name (i := 7) sc_spending.nd rfl (Or.inl rfl)) (pgs_nil)))))
      (pss_one (ps_dput (hu_of hr) (pv 3) (pv 6) (pe_op op_add (pe_dget2 (hu_of hr) (pv 3) (pv 6) pe_int ⟨rfl, rfl, rfl, rfl⟩) (pe_f D_energy_of (hr.mono (by omega)) pass0 (pa_cons (pv 0) (pa_cons (pv 4) pa_nil)))) rfl))))
  (pss_one (ps_ret (pv 3))))
    , ?_⟩
  refine fun d hd => ?_
  have sd := same_new hd (.dK [])
  refine ⟨_, rfl, _, rfl, _, rfl, ac, v, W, o, c, n, rfl, wok, hW.same sd, cg, dp_same sd hc, fun M H1 s1 nM hM => ?_⟩
  obtain ⟨xm, hM1, hM2⟩ := hM
  have lM := dpAll_len hM2
  rw [List.length_map] at lM
  have hd1 := s1 _ _ (show (upd H d (.dK [])) d = some (.dK []) from upd_same)
  have nM : M ≠ d := fun z => by rw [z, upd_same] at nM; cases nM
  refine ⟨M, rfl, ⟨_, SqL.of hM1⟩, ?_⟩
  refine for_it (walk_list (K := K) (a := M) (xs := xm)) (fun i σ H' => ∃ y4 y5 y6 y7, σ = [some (.ref ac), some v, some (.int (n : Int)), some (.ref d), y4, y5, y6, y7] ∧ SameX d H1 H' ∧ ∃ kvs, H' d = some (.dK kvs) ∧ kvs.length ≤ i ∧ SpK kvs (spentL W ((busyL W c n).take i)) W.horizon)
    ⟨none, none, none, none, rfl, SameX.refl _ _, [], hd1, Nat.le_refl _, fun p hp => (nomatch hp), fun m _ => rfl, fun m v h => (by rw [valV_nil] at h; cases h), List.nodup_nil⟩ (fun i σ H' _ hI => ?_) (fun i v' σ H2 H3 hi hI hy => ?_) (fun σ H2 hI => ?_)
  · obtain ⟨y4, y5, y6, y7, rfl, hs, _⟩ := hI
    exact SqL.of (hs _ _ nM hM1)
  · obtain ⟨y4, y5, y6, y7, rfl, hs, kvs, hk, lk, sk⟩ := hI
    obtain ⟨rfl, hx⟩ := hy
    obtain ⟨k, hkq, dk⟩ := dpAll_get (dpAll_sxd (noLs_map noL_thg _) hd1 hs hM2) hx
    obtain ⟨m0, m1, m2, mk⟩ := mem_busy wok (List.mem_of_getElem? hkq)
    obtain ⟨t, a1, a2, rfl, ht, h1, h2⟩ := dp_thg dk
    have hsH := sx_same (sd.trans s1) hd hs
    have ll : i < 20 := by omega
    refine ⟨t, _, rfl, ht, rfl, _, _, rfl, _, _, rfl, rfl, ?_⟩
    refine ⟨_, rfl, a2, _, rfl, h2, rfl, _, _, rfl, _, _, rfl, rfl, ?_⟩
    refine ⟨_, rfl, d, rfl, .inl ⟨_, .inl hk⟩, _, rfl, _, DGet.k (k := Sum.inl k.2.2.1) hk, _, rfl, _, rfl, ac, a1, W, k, rfl, hW.same hsH, h1, mk, _, _, sk.get _, rfl, ?_⟩
    refine ⟨_, rfl, _, rfl, d, _, rfl, DPut.k (k := Sum.inl k.2.2.1) hk (small1000 (by (clear T D_busy_things D_energy_of B hr wok hW cg hc q bl hd sd s1 hM1 hM2 lM hd1 nM hi sk hs hk hkq m0 m1 m2 mk hx dk ht h1 h2 hsH; omega))), ?_⟩
    refine ⟨_, _, _, _, rfl, hs.at_, _, upd_same, Nat.le_trans putK_len (by (clear T D_busy_things D_energy_of B hr wok hW cg hc q bl hd sd s1 hM1 hM2 lM hd1 nM hi sk hs hk hkq m0 m1 m2 mk hx dk ht h1 h2 hsH ll; omega)), sk.put m0 m1 fun m => ?_⟩
    rw [List.take_add_one, hkq, Option.toList_some, spentL_snoc]
  · obtain ⟨y4, y5, y6, y7, rfl, hs, kvs, hk, lk, sk⟩ := hI
    rw [lM, List.take_length] at sk
    exact ⟨_, rfl, q d _ kvs (sx_same (sd.trans s1) hd hs) hd hk (by omega) sk⟩
end
end DP
namespace DP
open PySem PySem.Spec PyProof.Rows L2
theorem cr_range1 {X : Cx} : CallR X (.type "range") (fun vs H Q => ∃ n, vs = [V.int n] ∧ ∀ p, H p = none → Q (.ref p) (upd H p (.rng 0 n))) := by
  intro pins s σ H xs us Q I rv h
  obtain ⟨n, rfl, q⟩ := h
  cases rv with
  | cons r rv =>
  cases rv
  obtain ⟨t, rfl⟩ := r
  refine call_range_1 ⟨.ref s.heap.objs.size, upd H s.heap.objs.size (.rng 0 n), I.laid (t' := s.toks + 1 + 1) (fun b o e => Heap.get?_push_of_some _ e) (Nat.le_refl _) ?_, rfl, q _ (I.hok.fresh (Nat.le_refl _))⟩
  exact ⟨_, _, _, Heap.get?_push_size _ rfl⟩
def iRngV (te : TE) : TI := fun σ H R => te σ H fun x H1 => ∃ p lo hi, x = .ref p ∧ H1 p = some (.rng lo hi) ∧ (-(2 ^ 62) ≤ lo ∧ lo < 2 ^ 62 ∧ -(2 ^ 62) ≤ hi ∧ hi < 2 ^ 62) ∧ R (Itr lo (hi - lo).toNat) H1
theorem pi_rngV {X : Cx} {tg e : Expr} {te : TE} (he : PE X e te) : PI X tg e (iRngV te) := by
  refine ⟨fun pins s σ H R I h => ?_⟩
  refine thn (he.run pins s σ H _ I h) fun v s1 ⟨x, H1, I1, r1, p, lo, hi, ex, hp, ⟨h1, h2, h3, h4⟩, q⟩ => ?_
  subst ex
  cases r1
  obtain ⟨t, u, w', g⟩ := (show ObjOk X.prog X.w H1 s1.heap p (.rng lo hi) from I1.hok p _ hp)
  refine wpAny_pyIter_range g (small_one h1 h2 h3 h4) ?_
  refine ⟨s1.heap.objs.size, [s1.heap.objs.size], _, _, H1, rfl, I1.kept (t' := s1.toks) fun b o e => Heap.get?_push_of_some _ e, turn_range _ lo (hi - lo).toNat, ?_, fun b hb => ?_, q⟩
  · have e2 : (((hi - lo).toNat : Nat) : Int) - ((0 : Nat) : Int) = Builtin.Range.rangeSize lo hi 1 := by rw [rangeSize_one]; split <;> omega
    show IsRangeIter _ _ (lo + ((0 : Nat) : Int) * 1) ((((hi - lo).toNat : Nat) : Int) - ((0 : Nat) : Int)) 1
    rw [e2, show lo + ((0 : Nat) : Int) * 1 = lo by omega]
    exact Heap.get?_push_size _ rfl
  · have e : b = s1.heap.objs.size := by simpa using hb
    rw [e]
    exact I1.fpOk (Nat.le_refl _) (I1.hok.fresh (Nat.le_refl _))
end DP
namespace DP
open PySem PySem.Spec PyProof.Rows L2
theorem sat_at {K : PySem.W.Frag} {CS : Addr} {H : Hp} {x0 : List V} {l : List SatD} (q0 : Paired (SatAt K CS H) x0 l) {i : Nat} {z : SatD} (hz : l[i]? = some z) : ∃ sb sd ts ls, x0[i]? = some (.ref sb) ∧ H sb = some (.ins CS sd (satF z ts)) ∧ SqT K H ts ls ∧ Spans K H ls z.light := by
  have l2 := paired_len q0
  obtain ⟨x, hx⟩ : ∃ x, x0[i]? = some x := ⟨_, List.getElem?_eq_getElem (by have := (List.getElem?_eq_some_iff.mp hz).1; omega)⟩
  obtain ⟨z', hz', sb, sd, ts, ls, rfl, c1, c2, c3⟩ := paired_at q0 hx
  rw [hz] at hz'
  cases hz'
  exact ⟨sb, sd, ts, ls, hx, c1, c2, c3⟩
theorem light_in {h : Int} : ∀ {l : List (Int × Int)} {a : Int}, 0 ≤ a → LightOk a h l → ∀ q ∈ l, 0 ≤ q.1 ∧ q.1 < q.2 ∧ q.2 ≤ h
  | [], _, _, _, q, hq => absurd hq List.not_mem_nil
  | p :: r, a, ha, ⟨h1, h2, h3, h4⟩, q, hq => by
    rcases List.mem_cons.mp hq with rfl | hq
    · omega
    · exact light_in (by omega) h4 q hq
/-- what is added behind a minute, by the spans of light -/
def chgI (l : List (Int × Int)) (c : Int) (m : Nat) : Int := if l.any (hasM (m : Int)) = true then c else 0
/-- the battery ahead of a minute, at it -/
def aheadW (batt start : Int) (sp ch : Nat → Int) : Nat → Int
  | 0 => start
  | n + 1 => if aheadW batt start sp ch n - sp n + ch n < batt then aheadW batt start sp ch n - sp n + ch n else batt
def levelW (batt start : Int) (sp ch : Nat → Int) (n : Nat) : Int := aheadW batt start sp ch n - sp n
def levelsW (W : WorldD) (c : CaseD) (s : Nat) (z : SatD) (n : Nat) : List Int := (List.range n).map fun (m : Nat) => levelW z.battery z.level (fun m => spentW W c s (m : Int)) (chgI z.light z.charge) m
end DP
namespace DP
open PySem PySem.Spec PyProof.Rows L2
abbrev s__law_made : Stmt := topS 93
theorem sc__law_made : FnScope ["world", "case", "s", "found", "r", "entry"] ["world", "case", "s"] (defScope s__law_made) := ⟨rfl, rfl, rfl, by decide +kernel, rfl, by decide +kernel, by decide +kernel⟩
abbrev s__law_has_antenna : Stmt := topS 94
theorem sc__law_has_antenna : FnScope ["world", "case", "p", "entry"] ["world", "case", "p"] (defScope s__law_has_antenna) := ⟨rfl, rfl, rfl, by decide +kernel, rfl, by decide +kernel, by decide +kernel⟩
abbrev s__law_taken : Stmt := topS 95
theorem sc__law_taken : FnScope ["world", "case", "s", "p"] ["world", "case", "s"] (defScope s__law_taken) := ⟨rfl, rfl, rfl, by decide +kernel, rfl, by decide +kernel, by decide +kernel⟩
abbrev s__law_spent : Stmt := topS 97
theorem sc__law_spent : FnScope ["world", "case", "s", "found", "r", "start", "p", "minute"] ["world", "case", "s"] (defScope s__law_spent) := ⟨rfl, rfl, rfl, by decide +kernel, rfl, by decide +kernel, by decide +kernel⟩
/-- those of a satellite -/
def satOf (W : WorldD) (s : Nat) (r : Nat) : Bool := match W.recs[r]? with
  | some z => decide (z.sat = s)
  | none => false
def madeS (W : WorldD) (c : CaseD) (s : Nat) (n : Nat) : List (Nat × Int × Int) := (madeL W c n).filter fun q => satOf W s q.1
def takS (W : WorldD) (c : CaseD) (s : Nat) (n : Nat) : List Nat := (List.range n).filter fun p => (match W.pass[p]? with | some z => decide (z.sat = s) | none => false) && antB W c p
theorem madeS_succ (W : WorldD) (c : CaseD) (s : Nat) (n : Nat) : madeS W c s (n + 1) = madeS W c s n ++ (madeAt W c n).filter fun q => satOf W s q.1 := by
  unfold madeS
  rw [madeL_succ, List.filter_append]
/-- an option told by its parts -/
theorem opts_iff {W : WorldD} {z : RecD} (ok : RecOk W z) (s p : Int) : (s, p) ∈ optsW W z ↔ (0 ≤ p ∧ p < (W.pass.length : Int)) ∧ optB W z s p = true := by
  have k1 := ok.earliest
  have k2 := ok.latest
  unfold optsW optR
  rw [List.mem_flatMap]
  constructor
  · rintro ⟨i, hi, h⟩
    unfold optS at h
    obtain ⟨k, hk, h⟩ := List.mem_flatMap.mp h
    rw [List.mem_range] at hi hk
    have hc : W.pass[k]? = some W.pass[k] := List.getElem?_eq_getElem hk
    rw [optAt_some hc] at h
    split at h
    · rename_i ho
      have e := List.mem_singleton.mp h
      have e1 : s = z.earliest + (i : Int) := congrArg Prod.fst e
      have e2 : p = (k : Int) := congrArg Prod.snd e
      subst e1 e2
      refine ⟨by (clear ok k1 k2 hi hc ho h e; omega), ?_⟩
      unfold optB isOpt
      rw [Int.toNat_natCast, hc]
      dsimp only
      rw [ho, decide_eq_true (Int.natCast_nonneg k), decide_eq_true (by (clear ok k1 k2 hi hk hc ho h e; omega) : z.earliest ≤ z.earliest + (i : Int)), decide_eq_true (by omega : z.earliest + (i : Int) ≤ z.latest)]
      rfl
    · exact absurd h List.not_mem_nil
  · rintro ⟨⟨h0, h1⟩, ho⟩
    obtain ⟨k, rfl⟩ : ∃ k : Nat, p = (k : Int) := ⟨p.toNat, by (clear ok k1 k2 ho h1; omega)⟩
    have hc : W.pass[k]? = some W.pass[k] := List.getElem?_eq_getElem (by (clear ok k1 k2 ho h0; omega))
    unfold optB isOpt at ho
    rw [Int.toNat_natCast, hc] at ho
    obtain ⟨_, ho⟩ := Bool.and_eq_true_iff.mp ho
    obtain ⟨h2, ho⟩ := Bool.and_eq_true_iff.mp ho
    obtain ⟨h3, ho⟩ := Bool.and_eq_true_iff.mp ho
    have h2 := of_decide_eq_true h2
    have h3 := of_decide_eq_true h3
    refine ⟨(s - z.earliest).toNat, List.mem_range.mpr (by omega), List.mem_flatMap.mpr ⟨k, List.mem_range.mpr (by (clear ok k1 k2 h0 hc ho h2 h3; omega)), ?_⟩⟩
    rw [optAt_some hc, show z.earliest + ((s - z.earliest).toNat : Int) = s by omega, if_pos ho]
    exact List.mem_singleton.mpr rfl
theorem eqv_span (a b : Int × Int) : PyData.eqv (spanPy a) (spanPy b) = decide (a = b) := by
  show (a.1 == b.1 && (a.2 == b.2 && true)) = _
  rw [Bool.and_true]
  obtain ⟨a1, a2⟩ := a
  obtain ⟨b1, b2⟩ := b
  by_cases h1 : a1 = b1
  · by_cases h2 : a2 = b2
    · subst h1 h2; simp
    · simp [h2]
  · simp [h1]
theorem any_opt {W : WorldD} {z : RecD} (ok : RecOk W z) {s p : Int} (h0 : 0 ≤ p) (h1 : p < (W.pass.length : Int)) : ((optsW W z).map spanPy).any (fun d => PyData.eqv d (spanPy (s, p))) = optB W z s p := by
  rw [List.any_map]
  have e : ((fun d => PyData.eqv d (spanPy (s, p))) ∘ spanPy) = fun q => decide (q = (s, p)) := by funext q; exact eqv_span q (s, p)
  rw [e, Bool.eq_iff_iff, List.any_eq_true]
  constructor
  · rintro ⟨q, hq, e⟩
    have := of_decide_eq_true e
    subst this
    exact ((opts_iff ok s p).mp hq).2
  · exact fun h => ⟨(s, p), (opts_iff ok s p).mpr ⟨⟨h0, h1⟩, h⟩, decide_eq_true rfl⟩
theorem shp_spans (l : List (Int × Int)) : SeqAt.shaped (.list (l.map spanPy)) = true := by
  have h1 := lay_map (f := spanPy) (fun _ => rfl) l
  have h2 := depth_map (f := spanPy) (n := 1) (fun _ => Nat.le_refl _) l
  unfold SeqAt.shaped
  rw [show (PyData.list (l.map spanPy)).canLay0 = PyData.canLayAll0 (l.map spanPy) from rfl, h1, Bool.true_and]
  refine decide_eq_true ?_
  show PyData.depthAll (l.map spanPy) + 1 ≤ 64
  omega
section
variable {P : Program} {w : World} {K : PySem.W.Frag} {mg : Str → Option Value} {base : Heap} {CL CS CT CR CP CW aS aR fS fT fR fP : Addr}
def spLawMade (K : PySem.W.Frag) : Sp := fun vs H Q _ => ∃ (wd : Addr) (v : V) (W : WorldD) (o : Bool) (c : CaseD) (s : Nat), vs = [.ref wd, v, .int (s : Int)] ∧ WorldOk W ∧ WdAt K H wd W ∧ CaseG W o c ∧ Dp K H v (casePy c) ∧ ∀ D H', Same H H' → H D = none → DL K tripPy H' D (madeS W c s W.recs.length) → Q (.ref D) H'
set_option maxHeartbeats 4000000 in
theorem d_lmade (B : Bt mg) (D_law_options : DefOk P w K mg base CX0 1 "_law_options" ["world", "number"] (spLawOptions K)) (A : At K mg "_law_made" s__law_made ["world", "case", "s"]) : DefOk P w K mg base CX0 2 "_law_made" ["world", "case", "s"] (spLawMade K) := by
  refine A.ok sc__law_made (fun vs H Q E h => ?_) (fun f cdv A outer s H vs Q E hr h => ?_)
  · obtain ⟨wd, v, W, o, c, n, rfl, _⟩ := h
    rfl
  obtain ⟨wd, v, W, o, c, n, rfl, wok, hwd, cg, hc, q⟩ := h
  obtain ⟨t, tm, tt, xm, xt, rfl, ht, hm, htt, hxm, hxt, lm, lt⟩ := case_two hc
  obtain ⟨wa, wb, wc, we, xa, xb, xc, xd, g, a1, a2, b1, b2, c1, c2, e1, e2⟩ := hwd.ex
  have m2 := dpAll_len c2
  rw [List.length_map] at m2
  have nM := cg.nM
  have nR := wok.nRecs
  refine ⟨_, pss_cons (ps_set (i := 3) sc__law_made.nd rfl (Or.inl rfl) (pe_lst pa_nil))
  (pss_cons (ps_for PassesOwn.never rfl (pi_range1 (by rfl) B.range (pa_cons (pe_callB (call_len_seq) (by rfl) B.len (by decide +kernel) (pa_cons (pe_dget (hu_of hr) (pv 0) pe_str (fun _ _ => rfl)) pa_nil)) pa_nil)) (pg_name (i := 4) sc__law_made.nd rfl (Or.inl rfl))
      (pss_cons (ps_set (i := 5) sc__law_made.nd rfl (Or.inl rfl) (pe_ix ix_tup (pe_ix ix_tup (pv 1) pe_int (fun _ _ => rfl)) (pv 4) (fun _ _ => rfl)))
      (pss_one (ps_if (PW.pt (pw_and (pt_cmpR op_notN (pv 5) pe_non (nomark _)) (pw_and (pt_cmpR (op_neD (hu64 hr)) (pv 5) pe_str (nomark _)) (pw_and (pt_cmpR op_eq (pe_ix ix_tup (pe_ix ix_list (pe_dget (hu_of hr) (pv 0) pe_str (fun _ _ => rfl)) (pv 4) (fun _ _ => rfl)) pe_int (fun _ _ => rfl)) (pv 2) (nomark _)) (pw_and1 (pt_cmpR (op_inD (hu65 hr)) (pv 5) (pe_f D_law_options (hr.mono (by omega)) pass0 (pa_cons (pv 0) (pa_cons (pv 4) pa_nil))) (by rfl)))))))
          (pss_one (ps_expr (pe_bm PySem.F.plainAttrs_list PySem.F.slot_list_append PySem.F.type_list_append mt_append (pv 3) (pa_cons (pe_tup (pa_cons (pv 4) (pa_cons (pe_ix ix_tup (pv 5) pe_int (fun _ _ => rfl)) (pa_cons (pe_ix ix_tup (pv 5) pe_int (fun _ _ => rfl)) pa_nil)))) pa_nil))))
          (pss_nil)))))
  (pss_one (ps_ret (pv 3))))
    , ?_⟩
  refine ⟨Nat.zero_le _, fun D hD => ?_⟩
  have sD := same_new hD (.lst [])
  refine ⟨_, rfl, wd, _, rfl, get_r (sD _ _ g), wc, xc, rfl, .inl (SqL.of (sD _ _ c1)), _, rfl, by (clear B D_law_options hr wok hwd cg q hc ht hm htt hxm hxt lm lt g a1 a2 b1 b2 c1 c2 e1 e2 nM hD sD; omega), by (clear B D_law_options hr wok hwd cg q hc ht hm htt hxm hxt lm lt g a1 a2 b1 b2 c1 c2 e1 e2 nM hD sD; omega), ?_⟩
  refine for_range (lo := 0) (n := (xc.length : Int).toNat) (fun i σ H' => ∃ y4 y5, σ = [some (.ref wd), some (.ref t), some (.int (n : Int)), some (.ref D), y4, y5] ∧ Same H H' ∧ DL K tripPy H' D (madeS W c n i)) ⟨none, none, rfl, sD, DL.nil⟩ (fun i σ H1 hi hI => ?_) (fun σ H1 hI => ?_)
  · obtain ⟨y4, y5, rfl, hs, hd⟩ := hI
    have hi' : i < W.recs.length := by (clear B D_law_options hr wok hwd cg q hc ht hm htt hxm hxt lm lt g a1 a2 b1 b2 c1 c2 e1 e2 nM nR hD sD hs hd; omega)
    obtain ⟨z, hz⟩ : ∃ z, W.recs[i]? = some z := ⟨_, List.getElem?_eq_getElem hi'⟩
    obtain ⟨e, he⟩ : ∃ e, c.made[i]? = some e := ⟨_, List.getElem?_eq_getElem (by (clear B D_law_options hr wok hwd cg q hc ht hm htt hxm hxt lm lt g a1 a2 b1 b2 c1 c2 e1 e2 m2 nR hD sD hi hs hd hz; omega))⟩
    have ok := wok.recs z (List.mem_of_getElem? hz)
    obtain ⟨y, hy, dy⟩ := dpAll_get2 hxm he
    obtain ⟨x, ex, dx⟩ := dpAll_get2 c2 hz
    obtain ⟨rt, rt1, rt2, rfl, u1, u2, u3⟩ := rec_open dx
    have dy := dp_same hs dy
    have eok := cg.mOk e (List.mem_of_getElem? he)
    have ll : (madeS W c n i).length ≤ i := Nat.le_trans (List.length_filter_le _ _) (madeL_len W c i)
    have ms := madeS_succ W c n i
    have ma : madeAt W c i = match W.recs[i]?, c.made[i]? with | some z, some (.at_ s p) => if optB W z s p = true then [(i, s, p)] else [] | _, _ => [] := rfl
    rw [hz, he] at ma
    have skip : (madeAt W c i).filter (fun q => satOf W n q.1) = [] → ∃ y4 y5, ([some (.ref wd), some (.ref t), some (.int (n : Int)), some (.ref D), some (.int (0 + (i : Int))), some y] : L2.St) = [some (.ref wd), some (.ref t), some (.int (n : Int)), some (.ref D), y4, y5] ∧ Same H H1 ∧ DL K tripPy H1 D (madeS W c n (i + 1)) := fun e => by
      rw [ms, e, List.append_nil]
      exact ⟨_, _, rfl, hs, hd⟩
    refine ⟨_, rfl, t, _, 0, _, rfl, rfl, Same.tup hs ht, rfl, _, rfl, tm, xm, (i : Int), y, rfl, by rw [Int.zero_add], Same.tup hs hm, atI_nat hy, ?_⟩
    cases e with
    | non =>
      cases dy
      exact ⟨_, rfl, rfl, _, rfl, iteF' rfl (skip (by rw [ma]; rfl))⟩
    | opn =>
      cases dy
      exact ⟨_, rfl, rfl, _, rfl, iteT' rfl ⟨_, rfl, .str "open", .str "open", .str _, .str _, by decide +kernel, by decide +kernel, _, rfl, iteF' (by decide +kernel) (skip (by rw [ma]; rfl))⟩⟩
    | at_ st p =>
      obtain ⟨h0, h1, h2, h3⟩ := eok
      have dy0 := dy
      obtain ⟨te, xe, rfl, hte, hxe⟩ := dp_tup dy
      have exx := dp_ints (ns := [st, p]) hxe
      subst exx
      have sat1 : satOf W n i = decide (z.sat = n) := by
        unfold satOf
        rw [hz]
      rw [show (match some z, some (EntM.at_ st p) with | some z, some (.at_ s p) => if optB W z s p = true then [(i, s, p)] else [] | _, _ => []) = if optB W z st p = true then [(i, st, p)] else [] from rfl] at ma
      refine ⟨_, rfl, rfl, _, rfl, iteT' rfl ⟨_, rfl, entM (.at_ st p), .str "open", dy0, .str _, lay_entM _, by decide +kernel, _, rfl, iteT' rfl ?_⟩⟩
      refine ⟨_, rfl, wd, _, rfl, get_r (hs _ _ g), _, rfl, wc, xc, (i : Int), _, rfl, by rw [Int.zero_add], SqL.of (hs _ _ c1), atI_nat ex, rt, _, 1, _, rfl, rfl, Same.tup hs u1, rfl, _, rfl, rfl, _, rfl, ite2 (fun k1 => ?_) (fun k1 => ?_)⟩
      · have es : z.sat = n := by
          have := V.int.inj (of_decide_eq_true k1)
          (clear B D_law_options hr wok hwd cg q hc ht hm htt hxm hxt lm lt g a1 a2 b1 b2 c1 c2 e1 e2 m2 nM nR hD sD hi hs hd hi' hz ok ex dx u1 u2 u3 ll ms he ma h0 h1 h2 h3 hy skip dy dy0 hte hxe sat1 k1; omega)
        refine ⟨_, rfl, _, rfl, _, rfl, wd, W, i, z, by rw [Int.zero_add]; rfl, wok, hwd.same hs, hz, fun l ls H3 s3 hl0 hl3 hx => ?_⟩
        have hsA := hs.trans s3
        refine ⟨spanPy (st, p), (optsW W z).map spanPy, dp_same s3 dy0, .lst (SqL.of hl3) (spans_dp hx), lay_entM (.at_ st p), shp_spans _, _, rfl, ?_⟩
        rw [any_opt ok h2 h3]
        refine ite2 (fun k2 => ?_) (fun k2 => ?_)
        · have hd3 := hd.same s3
          obtain ⟨xs0, hx0, _⟩ := id hd3
          have hte := Same.tup s3 hte
          refine ⟨_, rfl, .inl ⟨rfl, _, SqL.of hx0⟩, _, rfl, _, rfl, te, _, 0, _, rfl, rfl, hte, rfl, _, rfl, te, _, 1, _, rfl, rfl, hte, rfl, (by show 3 ≤ sizeLine; decide), fun t3 ht3 => ?_⟩
          have sB := same_new ht3 (.tup [.int (0 + (i : Int)), .int st, .int p])
          have tv : Dp K (upd H3 t3 (.tup [.int (0 + (i : Int)), .int st, .int p])) (.ref t3) (tripPy (i, st, p)) := .tup (SqT.of (by rw [upd_same, Int.zero_add])) (.cons (.int _) (.cons (.int _) (.cons (.int _) .nil)))
          obtain ⟨xs, g1, g2, g3⟩ := (hd3.same sB).push noL_trip tv (by (clear B D_law_options hr wok hwd cg q hc ht hm htt hxm hxt lm lt g a1 a2 b1 b2 c1 c2 e1 e2 nM hD sD hi hs hd hz ok ex dx u1 u2 u3 ms he ma h0 h1 h2 h3 hy skip dy dy0 hxe sat1 k1 es s3 hl0 hl3 hx hsA k2 hd3 hx0 hte ht3 sB tv; omega))
          refine ⟨D, xs, _, rfl, rfl, g1, g2, _, _, rfl, same_at hD (hsA.trans sB) _, ?_⟩
          rw [ms, ma, if_pos k2, List.filter_cons, if_pos (by rw [sat1, decide_eq_true es]), List.filter_nil]
          exact g3
        · rw [ms, ma, if_neg k2, List.filter_nil, List.append_nil]
          exact ⟨_, _, rfl, hsA, hd.same s3⟩
      · refine skip ?_
        have ne : ¬ z.sat = n := fun e => k1 (decide_eq_true (by rw [e]))
        rw [ma]
        split
        · rw [List.filter_cons, if_neg (by rw [sat1, decide_eq_false ne]; exact Bool.false_ne_true), List.filter_nil]
        · rfl
  · obtain ⟨y4, y5, rfl, hs, hd⟩ := hI
    rw [show (xc.length : Int).toNat = W.recs.length by (clear B D_law_options hr wok hwd cg q hc ht hm htt hxm hxt lm lt g a1 a2 b1 b2 c1 c2 e1 e2 nM hD sD hs hd; omega)] at hd
    exact ⟨_, rfl, q D _ hs hD hd⟩
end
end DP
namespace DP
open PySem PySem.Spec PyProof.Rows L2
theorem fm_filter {α β : Type} {g : α → List β} {p : α → Bool} (h : ∀ a, p a = false → g a = []) : ∀ l : List α, l.flatMap g = (l.filter p).flatMap g
  | [] => rfl
  | a :: l => by
    rw [List.flatMap_cons, fm_filter h l, List.filter_cons]
    cases e : p a with
    | true => rw [if_pos rfl, List.flatMap_cons]
    | false => rw [if_neg Bool.false_ne_true, h a e, List.nil_append]
theorem recThg_off {W : WorldD} {s : Nat} {q : Nat × Int × Int} (h : satOf W s q.1 = false) : recThg W s q = [] := by
  unfold satOf at h
  unfold recThg
  split
  · rename_i z hz
    rw [hz] at h
    exact if_neg (of_decide_eq_false h)
  · rfl
def satP (W : WorldD) (s : Nat) (p : Nat) : Bool := match W.pass[p]? with
  | some z => decide (z.sat = s)
  | none => false
theorem pasThg_off {W : WorldD} {s : Nat} {p : Nat} (h : satP W s p = false) : pasThg W s p = [] := by
  unfold satP at h
  unfold pasThg
  split
  · rename_i z hz
    rw [hz] at h
    exact if_neg (of_decide_eq_false h)
  · rfl
theorem takS_filter (W : WorldD) (c : CaseD) (s n : Nat) : takS W c s n = (takL W c n).filter (satP W s) := by
  unfold takS takL
  rw [List.filter_filter]
  rfl
theorem busy_S (W : WorldD) (c : CaseD) (s : Nat) : busyL W c s = (madeS W c s W.recs.length).flatMap (recThg W s) ++ (takS W c s W.pass.length).flatMap (pasThg W s) := by
  unfold busyL madeS
  rw [takS_filter, fm_filter (p := fun q => satOf W s q.1) (fun q h => recThg_off h) (madeL W c W.recs.length), fm_filter (p := satP W s) (fun q h => pasThg_off h) (takL W c W.pass.length)]
theorem mem_madeS {W : WorldD} {c : CaseD} {s n : Nat} {q : Nat × Int × Int} (h : q ∈ madeS W c s n) : q.1 < n ∧ ∃ z y, W.recs[q.1]? = some z ∧ z.sat = s ∧ W.pass[q.2.2.toNat]? = some y ∧ 0 ≤ q.2.2 ∧ isOpt z q.2.1 y = true ∧ recThg W s q = [(false, q.1, q.2.1, q.2.1 + z.length)] := by
  obtain ⟨h1, h2⟩ := List.mem_filter.mp h
  obtain ⟨k, z, y, hz, hy, h0, ho⟩ := mem_made h1
  unfold satOf at h2
  rw [hz] at h2
  have es := of_decide_eq_true h2
  refine ⟨k, z, y, hz, es, hy, h0, ho, ?_⟩
  unfold recThg
  rw [hz]
  exact if_pos es
theorem mem_takS {W : WorldD} {c : CaseD} {s n p : Nat} (h : p ∈ takS W c s n) : p < n ∧ antB W c p = true ∧ ∃ z, W.pass[p]? = some z ∧ z.sat = s ∧ pasThg W s p = [(true, p, z.first, z.fin)] := by
  rw [takS_filter] at h
  obtain ⟨h1, h2⟩ := List.mem_filter.mp h
  obtain ⟨k, ha⟩ := mem_tak h1
  unfold satP at h2
  split at h2
  · rename_i z hz
    have es := of_decide_eq_true h2
    refine ⟨k, ha, z, hz, es, ?_⟩
    unfold pasThg
    rw [hz]
    exact if_pos es
  · cases h2
/-- what is spent, minute by minute -/
def spL (W : WorldD) (l : List Thing) (h : Nat) : List V := (List.range h).map fun (m : Nat) => V.int (spentL W l (m : Int))
theorem spL_len (W : WorldD) (l : List Thing) (h : Nat) : (spL W l h).length = h := by unfold spL; rw [List.length_map, List.length_range]
theorem spL_at {W : WorldD} {l : List Thing} {h i : Nat} (hi : i < h) : (spL W l h)[i]? = some (.int (spentL W l (i : Int))) := by
  unfold spL
  rw [List.getElem?_map, List.getElem?_range hi]
  rfl
theorem spL_set {W : WorldD} {l : List Thing} {h f : Nat} {k : Thing} {e : Int} (hf : f < h) (hk : k.2.2.1 = (f : Int)) (he : energyT W k = e) : (spL W l h).set f (.int (spentL W l (f : Int) + e)) = spL W (l ++ [k]) h := by
  refine List.ext_getElem? fun i => ?_
  by_cases c : i < h
  · rw [spL_at c, spentL_snoc, hk, he]
    by_cases e1 : f = i
    · subst e1
      rw [List.getElem?_set_self (by rw [spL_len]; exact c), if_pos rfl]
    · rw [List.getElem?_set_ne e1, spL_at c, if_neg (by (clear hf he c; omega)), Int.add_zero]
  · rw [List.getElem?_eq_none (by rw [List.length_set, spL_len]; (clear hf hk he; omega)), List.getElem?_eq_none (by rw [spL_len]; (clear hf hk he; omega))]
theorem spL_zero (W : WorldD) (h : Nat) : (List.replicate h [V.int 0]).flatten = spL W [] h := by
  rw [List.flatten_replicate_singleton]
  unfold spL
  have e : (fun (m : Nat) => V.int (spentL W [] (m : Int))) = fun _ => V.int 0 := by funext m; rfl
  rw [e, List.map_const', List.length_range]
section
variable {P : Program} {w : World} {K : PySem.W.Frag} {mg : Str → Option Value} {base : Heap} {CL CS CT CR CP CW aS aR fS fT fR fP : Addr}
def spLawAnt (K : PySem.W.Frag) : Sp := fun vs H Q _ => ∃ (wd : Addr) (v : V) (W : WorldD) (o : Bool) (c : CaseD) (p : Nat), vs = [.ref wd, v, .int (p : Int)] ∧ WorldOk W ∧ WdAt K H wd W ∧ CaseG W o c ∧ Dp K H v (casePy c) ∧ p < W.pass.length ∧ Q (.bl (antB W c p)) H
theorem d_lant (B : Bt mg) (A : At K mg "_law_has_antenna" s__law_has_antenna ["world", "case", "p"]) : DefOk P w K mg base CX0 1 "_law_has_antenna" ["world", "case", "p"] (spLawAnt K) := by
  refine A.ok sc__law_has_antenna (fun vs H Q E h => ?_) (fun f cdv A outer s H vs Q E hr h => ?_)
  · obtain ⟨wd, v, W, o, c, p, rfl, _⟩ := h
    rfl
  obtain ⟨wd, v, W, o, c, p, rfl, wok, hwd, cg, hc, hp, q⟩ := h
  obtain ⟨t, tm, tt, xm, xt, rfl, ht, hm, htt, hxm, hxt, lm, lt⟩ := case_two hc
  obtain ⟨wa, wb, wc, we, xa, xb, xc, xd, g, a1, a2, b1, b2, c1, c2, e1, e2⟩ := hwd.ex
  have nT := cg.nT
  obtain ⟨z, hz⟩ : ∃ z, W.pass[p]? = some z := ⟨_, List.getElem?_eq_getElem hp⟩
  have zok := wok.pass z (List.mem_of_getElem? hz)
  obtain ⟨st, hst⟩ : ∃ st, W.stas[z.sta]? = some st := ⟨_, List.getElem?_eq_getElem zok.sta⟩
  obtain ⟨e, he⟩ : ∃ e, c.taken[p]? = some e := ⟨_, List.getElem?_eq_getElem (by (clear B hr wok hwd cg q hc ht hm htt hxm hxt lm lt g a1 a2 b1 b2 c1 c2 e1 e2 hz zok hst; omega))⟩
  obtain ⟨y, hy, dy⟩ := dpAll_get2 hxt he
  obtain ⟨vp, evp, dvp⟩ := dpAll_get2 e2 hz
  obtain ⟨tp, tp1, tp2, rfl, w1, _, _⟩ := pas_open dvp
  obtain ⟨vt, evt, dvt⟩ := dpAll_get2 b2 hst
  obtain ⟨tst, rfl, w2⟩ := sta_open dvt
  have an : antB W c p = match W.pass[p]?, c.taken[p]? with | some z, some (.ant n) => (match W.stas[z.sta]? with | some t => decide (0 ≤ n) && decide (n < t.antennas) | none => false) | _, _ => false := rfl
  rw [hz, he] at an
  refine ⟨_, pss_cons (ps_set (i := 3) sc__law_has_antenna.nd rfl (Or.inl rfl) (pe_ix ix_tup (pe_ix ix_tup (pv 1) pe_int (fun _ _ => rfl)) (pv 2) (fun _ _ => rfl)))
  (pss_one (ps_ret (pe_and (pe_cmpR op_notN (pv 3) pe_non (nomark _)) (pe_and (pe_cmpR op_ne (pv 3) pe_str (nomark _)) (pe_one (pe_chain op_le op_lt pe_int (pv 3) (pe_ix ix_tup (pe_ix ix_list (pe_dget (hu_of hr) (pv 0) pe_str (fun _ _ => rfl)) (pe_ix ix_tup (pe_ix ix_list (pe_dget (hu_of hr) (pv 0) pe_str (fun _ _ => rfl)) (pv 2) (fun _ _ => rfl)) pe_int (fun _ _ => rfl)) (fun _ _ => rfl)) pe_int (fun _ _ => rfl))))))))
    , ?_⟩
  refine ⟨_, rfl, t, _, 1, _, rfl, rfl, ht, rfl, _, rfl, tt, xt, (p : Int), y, rfl, rfl, htt, atI_nat hy, ?_⟩
  cases e with
  | non =>
    cases dy
    rw [show antB W c p = false from an] at q
    exact ⟨_, rfl, rfl, _, rfl, iteF' rfl q⟩
  | opn =>
    cases dy
    rw [show antB W c p = false from an] at q
    exact ⟨_, rfl, rfl, _, rfl, iteT' rfl ⟨_, rfl, rfl, _, rfl, iteF' (by decide +kernel) q⟩⟩
  | ant n =>
    cases dy
    rw [show antB W c p = (match W.stas[z.sta]? with | some t => decide (0 ≤ n) && decide (n < t.antennas) | none => false) from an, hst] at q
    refine ⟨_, rfl, rfl, _, rfl, iteT' rfl ⟨_, rfl, rfl, _, rfl, iteT' rfl ⟨_, rfl, _, _, rfl, rfl, _, rfl, ite2 (fun k1 => ?_) (fun k1 => ?_)⟩⟩⟩
    · refine ⟨_, rfl, wd, _, rfl, get_t g, _, rfl, wd, _, rfl, get_p g, _, rfl, we, xd, (p : Int), _, rfl, rfl, SqL.of e1, atI_nat evp, tp, _, 2, _, rfl, rfl, w1, rfl, wb, xb, (z.sta : Int), _, rfl, rfl, SqL.of b1, atI_nat evt, tst, _, 1, _, rfl, rfl, w2, rfl, _, _, rfl, rfl, ?_⟩
      dsimp only at q
      rw [show decide (0 ≤ n) = true from k1, Bool.true_and] at q
      exact q
    · dsimp only at q
      rw [show decide (0 ≤ n) = false from Bool.eq_false_iff.mpr k1, Bool.false_and] at q
      exact q
def spLawTaken (K : PySem.W.Frag) : Sp := fun vs H Q _ => ∃ (wd : Addr) (v : V) (W : WorldD) (o : Bool) (c : CaseD) (s : Nat), vs = [.ref wd, v, .int (s : Int)] ∧ WorldOk W ∧ WdAt K H wd W ∧ CaseG W o c ∧ Dp K H v (casePy c) ∧ ∀ D H', Same H H' → H D = none → H' D = some (.lst ((takS W c s W.pass.length).map fun (p : Nat) => V.int (p : Int))) → Q (.ref D) H'
theorem d_ltaken (B : Bt mg) (D_law_has_antenna : DefOk P w K mg base CX0 1 "_law_has_antenna" ["world", "case", "p"] (spLawAnt K)) (A : At K mg "_law_taken" s__law_taken ["world", "case", "s"]) : DefOk P w K mg base CX0 2 "_law_taken" ["world", "case", "s"] (spLawTaken K) := by
  refine A.ok sc__law_taken (fun vs H Q E h => ?_) (fun f cdv A outer s H vs Q E hr h => ?_)
  · obtain ⟨wd, v, W, o, c, n, rfl, _⟩ := h
    rfl
  obtain ⟨wd, v, W, o, c, n, rfl, wok, hwd, cg, hc, q⟩ := h
  obtain ⟨wa, wb, wc, we, xa, xb, xc, xd, g, a1, a2, b1, b2, c1, c2, e1, e2⟩ := hwd.ex
  have m2 := dpAll_len e2
  rw [List.length_map] at m2
  have nP := wok.nPass
  refine ⟨_, pss_one (ps_ret (pe_lc (own := [("p", 3)])  rfl sc__law_taken.nd (pi_range1 (by rfl) B.range (pa_cons (pe_callB (call_len_seq) (by rfl) B.len (by decide +kernel) (pa_cons (pe_dget (hu_of hr) (pv 0) pe_str (fun _ _ => rfl)) pa_nil)) pa_nil)) (blkOk_by (own := [("p", 3)]) (N := ["world", "case", "s", "p"]) (sc := defScope s__law_taken) (by decide +kernel)) (fun _ _ _ _ _ => pg_name (i := 3) sc__law_taken.nd rfl (Or.inl rfl)) (fun _ _ _ _ _ => pts_one (PW.pt (pw_and (pt_cmpR op_eq (pe_ix (ix_tupK (K := K) rfl) (pe_ix (ix_listK (K := K) rfl) (pe_dget (hu_of hr) (pv 0) pe_str (fun _ _ => rfl)) (pv 3) (fun _ _ => rfl)) pe_int (fun _ _ => rfl)) (pv 2) (nomark _)) (pw_and1 (pt_val (pe_f D_law_has_antenna (hr.mono (by omega)) pass0 (pa_cons (pv 0) (pa_cons (pv 1) (pa_cons (pv 3) pa_nil))))))))) (fun _ _ _ _ _ => (pv 3))))
    , ?_⟩
  refine ⟨_, rfl, wd, _, rfl, get_p g, we, xd, rfl, .inl (SqL.of e1), _, rfl, by omega, by omega, fun D hD => lc_range (lo := 0) (n := (xd.length : Int).toNat) (fun i H' => Same H H' ∧ H' D = some (.lst ((takS W c n i).map fun (p : Nat) => V.int (p : Int)))) ⟨same_new hD _, upd_same⟩ (fun i H1 hi hI => ?_) (fun H1 hI => ?_)⟩
  · obtain ⟨hs, hd⟩ := hI
    obtain ⟨z, hz⟩ : ∃ z, W.pass[i]? = some z := ⟨_, List.getElem?_eq_getElem (by omega)⟩
    obtain ⟨vp, evp, dvp⟩ := dpAll_get2 e2 hz
    obtain ⟨tp, tp1, tp2, rfl, w1, _, _⟩ := pas_open dvp
    have ll : (takS W c n i).length ≤ i := by
      unfold takS
      refine Nat.le_trans (List.length_filter_le _ _) ?_
      rw [List.length_range]
      exact Nat.le_refl _
    have ts : takS W c n (i + 1) = takS W c n i ++ if (satP W n i && antB W c i) = true then [i] else [] := by
      unfold takS
      rw [List.range_succ, List.filter_append, List.filter_cons, List.filter_nil]
      rfl
    have sp : satP W n i = decide (z.sat = n) := by
      unfold satP
      rw [hz]
    refine ⟨rfl, _, rfl, wd, _, rfl, get_p (hs _ _ g), _, rfl, we, xd, (i : Int), _, rfl, by rw [Int.zero_add], SqL.of (hs _ _ e1), atI_nat evp, tp, _, 1, _, rfl, rfl, Same.tup hs w1, rfl, _, rfl, rfl, _, rfl, ite2 (fun k1 => ?_) (fun k1 => ?_)⟩
    · have es : z.sat = n := by
        have := V.int.inj (of_decide_eq_true k1)
        (clear B D_law_has_antenna hr wok hwd cg hc q g a1 a2 b1 b2 c1 c2 e1 e2 m2 nP hD hi hs hd hz evp dvp w1 ll ts sp k1; omega)
      refine ⟨_, rfl, _, rfl, _, rfl, wd, v, W, o, c, i, by rw [Int.zero_add]; rfl, wok, hwd.same hs, cg, dp_same hs hc, by omega, _, rfl, ite2 (fun k2 => ?_) (fun k2 => ?_)⟩
      · refine ⟨_, rfl, _, hd, by rw [List.length_map]; exact small1000 (by omega), same_at hD hs _, ?_⟩
        rw [upd_same, ts, sp, decide_eq_true es, k2, Bool.true_and, if_pos rfl, List.map_append, Int.zero_add]
        rfl
      · refine ⟨hs, ?_⟩
        rw [ts, Bool.eq_false_iff.mpr k2, Bool.and_false, if_neg Bool.false_ne_true, List.append_nil]
        exact hd
    · refine ⟨hs, ?_⟩
      rw [ts, sp, decide_eq_false (fun e => k1 (decide_eq_true (by rw [e]))), Bool.false_and, if_neg Bool.false_ne_true, List.append_nil]
      exact hd
  · obtain ⟨hs, hd⟩ := hI
    rw [show (xd.length : Int).toNat = W.pass.length by omega] at hd
    exact q D _ hs hD hd
def spLawSpent (K : PySem.W.Frag) : Sp := fun vs H Q _ => ∃ (wd : Addr) (v : V) (W : WorldD) (o : Bool) (c : CaseD) (s : Nat), vs = [.ref wd, v, .int (s : Int)] ∧ WorldOk W ∧ WdAt K H wd W ∧ CaseG W o c ∧ Dp K H v (casePy c) ∧ ∀ D H', Same H H' → H D = none → H' D = some (.lst (spL W (busyL W c s) W.horizon.toNat)) → Q (.ref D) H'
set_option maxHeartbeats 4000000 in
theorem d_lspent (B : Bt mg) (D_law_made : DefOk P w K mg base CX0 2 "_law_made" ["world", "case", "s"] (spLawMade K)) (D_law_taken : DefOk P w K mg base CX0 2 "_law_taken" ["world", "case", "s"] (spLawTaken K)) (A : At K mg "_law_spent" s__law_spent ["world", "case", "s"]) : DefOk P w K mg base CX0 3 "_law_spent" ["world", "case", "s"] (spLawSpent K) := by
  refine A.ok sc__law_spent (fun vs H Q E h => ?_) (fun f cdv A outer s H vs Q E hr h => ?_)
  · obtain ⟨wd, v, W, o, c, n, rfl, _⟩ := h
    rfl
  obtain ⟨wd, v, W, o, c, n, rfl, wok, hwd, cg, hc, q⟩ := h
  obtain ⟨wa, wb, wc, we, xa, xb, xc, xd, g, a1, a2, b1, b2, c1, c2, e1, e2⟩ := hwd.ex
  have hh := wok.horizon
  refine ⟨_, pss_cons (ps_set (i := 3) sc__law_spent.nd rfl (Or.inl rfl) (pe_op op_rep (pe_lst (pa_cons pe_int pa_nil)) (pe_dget (hu_of hr) (pv 0) pe_str (fun _ _ => rfl))))
  (pss_cons (ps_for PassesOwn.never rfl (pi_list (pe_f D_law_made (hr.mono (by omega)) pass0 (pa_cons (pv 0) (pa_cons (pv 1) (pa_cons (pv 2) pa_nil))))) (pg_tup (by rfl) (pgs_cons (pg_name (i := 4) sc__law_spent.nd rfl (Or.inl rfl)) (pgs_cons (pg_name (i := 5) sc__law_spent.nd rfl (Or.inl rfl)) (pgs_cons (pg_name (i := 6) sc__law_spent.nd rfl (Or.inl rfl)) (pgs_nil)))))
      (pss_one (ps_asg (pe_op op_add (pe_ix ix_list (pv 3) (pv 5) (fun _ _ => rfl)) (pe_ix ix_tup (pe_ix ix_tup (pe_ix ix_list (pe_dget (hu_of hr) (pv 0) pe_str (fun _ _ => rfl)) (pv 4) (fun _ _ => rfl)) pe_int (fun _ _ => rfl)) pe_int (fun _ _ => rfl))) (pg_sub (pv 3) (pv 5) set_list))))
  (pss_cons (ps_for PassesOwn.never rfl (pi_list (pe_f D_law_taken (hr.mono (by omega)) pass0 (pa_cons (pv 0) (pa_cons (pv 1) (pa_cons (pv 2) pa_nil))))) (pg_name (i := 6) sc__law_spent.nd rfl (Or.inl rfl))
      (pss_cons (ps_set (i := 7) sc__law_spent.nd rfl (Or.inl rfl) (pe_ix ix_tup (pe_ix ix_tup (pe_ix ix_list (pe_dget (hu_of hr) (pv 0) pe_str (fun _ _ => rfl)) (pv 6) (fun _ _ => rfl)) pe_int (fun _ _ => rfl)) pe_int (fun _ _ => rfl)))
      (pss_one (ps_asg (pe_op op_add (pe_ix ix_list (pv 3) (pv 7) (fun _ _ => rfl)) (pe_ix ix_tup (pe_ix ix_tup (pe_ix ix_list (pe_dget (hu_of hr) (pv 0) pe_str (fun _ _ => rfl)) (pv 6) (fun _ _ => rfl)) pe_int (fun _ _ => rfl)) pe_int (fun _ _ => rfl))) (pg_sub (pv 3) (pv 7) set_list)))))
  (pss_one (ps_ret (pv 3)))))
    , ?_⟩
  refine ⟨(by show 1 ≤ sizeLine; decide), fun p hp => ?_⟩
  have sp := same_new hp (.lst [.int 0])
  refine ⟨_, rfl, wd, _, rfl, get_h (sp _ _ g), p, W.horizon, [.int 0], rfl, rfl, upd_same, by omega, by omega, (by show 1 * _ ≤ _; rw [Nat.one_mul]; exact small (by omega)), fun D hD => ?_⟩
  rw [spL_zero W]
  have s1 := sp.trans (same_new hD (.lst (spL W [] W.horizon.toNat)))
  have nD := sp.free hD
  refine ⟨_, rfl, _, rfl, _, rfl, wd, v, W, o, c, n, rfl, wok, hwd.same s1, cg, dp_same s1 hc, fun M H1 s2 nM hM => ?_⟩
  obtain ⟨xm, hM1, hM2⟩ := hM
  have lM := dpAll_len hM2
  rw [List.length_map] at lM
  have nMD : M ≠ D := fun z => by rw [z, upd_same] at nM; cases nM
  have hD1 := s2 _ _ (show (upd (upd H p (.lst [.int 0])) D (.lst (spL W [] W.horizon.toNat))) D = some (.lst (spL W [] W.horizon.toNat)) from upd_same)
  refine ⟨M, rfl, ⟨_, SqL.of hM1⟩, ?_⟩
  refine for_it (walk_list (K := K) (a := M) (xs := xm)) (fun i σ H' => ∃ y4 y5 y6, σ = [some (.ref wd), some v, some (.int (n : Int)), some (.ref D), y4, y5, y6, none] ∧ SameX D H1 H' ∧ H' D = some (.lst (spL W (((madeS W c n W.recs.length).take i).flatMap (recThg W n)) W.horizon.toNat))) ⟨none, none, none, rfl, SameX.refl _ _, hD1⟩ (fun i σ H' _ hI => ?_) (fun i v' σ H2 H3 hi hI hy => ?_) (fun σ H2 hI => ?_)
  · obtain ⟨y4, y5, y6, rfl, hs, _⟩ := hI
    exact SqL.of (hs _ _ nMD hM1)
  · obtain ⟨y4, y5, y6, rfl, hs, hDD⟩ := hI
    obtain ⟨rfl, hx⟩ := hy
    obtain ⟨q1, hq1, dq1⟩ := dpAll_get (dpAll_sx (noLs_map noL_trip _) hD1 hs hM2) hx
    obtain ⟨r0, z, y, hz, es, hy2, p0, ho, rt⟩ := mem_madeS (List.mem_of_getElem? hq1)
    obtain ⟨tt, rfl, htt⟩ := dp_trip dq1
    have ok := wok.recs z (List.mem_of_getElem? hz)
    have k1 := ok.earliest
    have k2 := ok.latest
    have k3 := ok.length
    unfold isOpt at ho
    obtain ⟨o1, o2⟩ := Bool.and_eq_true_iff.mp ho
    obtain ⟨o2, _⟩ := Bool.and_eq_true_iff.mp o2
    have o1 := of_decide_eq_true o1
    have o2 := of_decide_eq_true o2
    obtain ⟨f, ef⟩ : ∃ f : Nat, q1.2.1 = (f : Int) := ⟨q1.2.1.toNat, by (clear B D_law_made D_law_taken hr wok hwd cg hc q g a1 a2 b1 b2 c1 c2 e1 e2 hp sp hD s1 nD s2 nM hM1 hM2 lM nMD hD1 hi hs hDD hq1 r0 hz es hy2 p0 ho rt htt hx dq1 ok k2 k3 o2; omega)⟩
    have hf : f < W.horizon.toNat := by (clear B D_law_made D_law_taken hr wok hwd cg hc q g a1 a2 b1 b2 c1 c2 e1 e2 hp sp hD s1 nD s2 nM hM1 hM2 lM nMD hD1 hi hs hDD hq1 r0 hz es hy2 p0 ho rt htt hx dq1 ok k1 k3 o1; omega)
    have hsH := sx_same (s1.trans s2) nD hs
    obtain ⟨x, ex, dx⟩ := dpAll_get2 c2 hz
    obtain ⟨rt', rt1, rt2, rfl, u1, u2, u3⟩ := rec_open dx
    have j : ixN (spL W (((madeS W c n W.recs.length).take i).flatMap (recThg W n)) W.horizon.toNat).length (f : Int) = some f := by
      unfold ixN
      rw [spL_len, if_pos (by (clear B D_law_made D_law_taken hr wok hwd cg hc q g a1 a2 b1 b2 c1 c2 e1 e2 hh hp sp hD s1 nD s2 nM hM1 hM2 lM nMD hD1 hi hs hDD hq1 r0 hz es hy2 p0 ho rt htt hx dq1 ok k1 k2 k3 o1 o2 ef hf hsH ex dx u1 u2 u3; omega)), if_pos (by (clear B D_law_made D_law_taken hr wok hwd cg hc q g a1 a2 b1 b2 c1 c2 e1 e2 hh hp sp hD s1 nD s2 nM hM1 hM2 lM nMD hD1 hi hs hDD hq1 r0 hz es hy2 p0 ho rt htt hx dq1 ok k1 k2 k3 o1 o2 ef hsH ex dx u1 u2 u3; omega))]
      congr 1
    refine ⟨tt, _, rfl, htt, rfl, _, _, rfl, _, _, rfl, _, _, rfl, rfl, ?_⟩
    rw [ef]
    refine ⟨_, rfl, _, rfl, D, _, _, _, rfl, rfl, SqL.of hDD, atI_nat (spL_at hf), ?_⟩
    refine ⟨_, rfl, wd, _, rfl, get_r (hsH _ _ g), _, rfl, wc, xc, (q1.1 : Int), _, rfl, rfl, SqL.of (hsH _ _ c1), atI_nat ex, rt', _, 2, _, rfl, rfl, Same.tup hsH u1, rfl, rt1, _, 4, _, rfl, rfl, Same.tup hsH u2, rfl, _, _, rfl, rfl, ?_⟩
    refine ⟨_, rfl, _, rfl, D, _, _, f, rfl, rfl, hDD, j, _, _, _, rfl, hs.at_, ?_⟩
    rw [upd_same, fm_take hq1, rt]
    refine congrArg (fun z => some (HO.lst z)) (spL_set hf ef ?_)
    unfold energyT
    rw [if_neg Bool.false_ne_true, hz]
    rfl
  · obtain ⟨y4, y5, y6, rfl, hs, hDD⟩ := hI
    rw [lM, List.take_length] at hDD
    have hsH := sx_same (s1.trans s2) nD hs
    refine ⟨_, rfl, _, rfl, _, rfl, wd, v, W, o, c, n, rfl, wok, hwd.same hsH, cg, dp_same hsH hc, fun N H3 s3 nN hN => ?_⟩
    have nND : N ≠ D := fun z => by rw [z, hDD] at nN; cases nN
    have hD3 := s3 _ _ hDD
    have hs3 := hsH.trans s3
    refine ⟨N, rfl, ⟨_, SqL.of hN⟩, ?_⟩
    refine for_it (walk_list (K := K) (a := N) (xs := (takS W c n W.pass.length).map fun (p : Nat) => V.int (p : Int))) (fun i σ H' => ∃ y6 y7, σ = [some (.ref wd), some v, some (.int (n : Int)), some (.ref D), y4, y5, y6, y7] ∧ SameX D H3 H' ∧ H' D = some (.lst (spL W ((madeS W c n W.recs.length).flatMap (recThg W n) ++ ((takS W c n W.pass.length).take i).flatMap (pasThg W n)) W.horizon.toNat))) ⟨y6, none, rfl, SameX.refl _ _, (by show _ = some (HO.lst (spL W (_ ++ []) _)); rw [List.append_nil]; exact hD3)⟩ (fun i σ H' _ hI => ?_) (fun i v' σ H4 H5 hi hI hy => ?_) (fun σ H4 hI => ?_)
    · obtain ⟨y6, y7, rfl, hx, _⟩ := hI
      exact SqL.of (hx _ _ nND hN)
    · obtain ⟨y6, y7, rfl, hx, hDD⟩ := hI
      obtain ⟨rfl, hy⟩ := hy
      rw [List.getElem?_map] at hy
      cases hp : (takS W c n W.pass.length)[i]? with
      | none => rw [hp] at hy; cases hy
      | some p =>
        rw [hp] at hy
        have ev : V.int (p : Int) = v' := Option.some.inj hy
        subst ev
        obtain ⟨hlt, _, z, hz, es, rt⟩ := mem_takS (List.mem_of_getElem? hp)
        have ok := wok.pass z (List.mem_of_getElem? hz)
        have k1 := ok.first
        have k2 := ok.fin
        obtain ⟨f, ef⟩ : ∃ f : Nat, z.first = (f : Int) := ⟨z.first.toNat, by omega⟩
        have hf : f < W.horizon.toNat := by (clear B D_law_made D_law_taken hr wok hwd cg hc q g a1 a2 b1 b2 c1 c2 e1 e2 sp hD s1 nD s2 nM hM1 hM2 lM nMD hD1 hs hsH s3 nN hN nND hD3 hs3 hi hx hDD hp hy hlt hz es rt ok k2; omega)
        have hsA := sx_same hs3 nD hx
        obtain ⟨vp, evp, dvp⟩ := dpAll_get2 e2 hz
        obtain ⟨tp, tp1, tp2, rfl, w1, w2, w3⟩ := pas_open dvp
        rw [ef] at w2
        have j : ixN (spL W ((madeS W c n W.recs.length).flatMap (recThg W n) ++ ((takS W c n W.pass.length).take i).flatMap (pasThg W n)) W.horizon.toNat).length (f : Int) = some f := by
          unfold ixN
          rw [spL_len, if_pos (by (clear B D_law_made D_law_taken hr wok hwd cg hc q g a1 a2 b1 b2 c1 c2 e1 e2 hh sp hD s1 nD s2 nM hM1 hM2 lM nMD hD1 hs hsH s3 nN hN nND hD3 hs3 hi hx hDD hp hy hlt hz es rt ok k2 hf hsA evp dvp w1 w2 w3; omega)), if_pos (by (clear B D_law_made D_law_taken hr wok hwd cg hc q g a1 a2 b1 b2 c1 c2 e1 e2 hh sp hD s1 nD s2 nM hM1 hM2 lM nMD hD1 hs hsH s3 nN hN nND hD3 hs3 hi hx hDD hp hy hlt hz es rt ok k1 k2 ef hsA evp dvp w1 w2 w3; omega))]
          congr 1
        refine ⟨_, rfl, wd, _, rfl, get_p (hsA _ _ g), _, rfl, we, xd, (p : Int), _, rfl, rfl, SqL.of (hsA _ _ e1), atI_nat evp, tp, _, 3, _, rfl, rfl, Same.tup hsA w1, rfl, tp1, _, 0, _, rfl, rfl, Same.tup hsA w2, rfl, ?_⟩
        refine ⟨_, rfl, _, rfl, D, _, _, _, rfl, rfl, SqL.of hDD, atI_nat (spL_at hf), ?_⟩
        refine ⟨_, rfl, wd, _, rfl, get_p (hsA _ _ g), _, rfl, we, xd, (p : Int), _, rfl, rfl, SqL.of (hsA _ _ e1), atI_nat evp, tp, _, 4, _, rfl, rfl, Same.tup hsA w1, rfl, tp2, _, 1, _, rfl, rfl, Same.tup hsA w3, rfl, _, _, rfl, rfl, ?_⟩
        refine ⟨_, rfl, _, rfl, D, _, _, f, rfl, rfl, hDD, j, _, _, rfl, hx.at_, ?_⟩
        rw [upd_same, fm_take hp, rt, ← List.append_assoc]
        refine congrArg (fun z => some (HO.lst z)) (spL_set hf ef ?_)
        unfold energyT
        rw [if_pos rfl, hz]
        rfl
    · obtain ⟨y6, y7, rfl, hx, hDD⟩ := hI
      rw [List.length_map, List.take_length, ← busy_S] at hDD
      exact ⟨_, rfl, q D _ (sx_same hs3 nD hx) nD hDD⟩
end
end DP
namespace DP
open PySem PySem.Spec PyProof.Rows L2
def rGetL (K : PySem.W.Frag) : R2 := fun x y H Q => ∃ (p : Addr) (xs : List V) (i : Nat) (z : V), x = .ref p ∧ y = .int (i : Int) ∧ SqL K H p xs ∧ xs[i]? = some z ∧ Q z H
theorem pget_list {X : Cx} : PGet X (rGetL X.K) := by
  intro pins s σ H x y v u Q I rx ry h
  obtain ⟨p, xs, i, z, rfl, rfl, hq, he, q⟩ := h
  cases rx
  obtain ⟨t, rfl⟩ := ry
  obtain ⟨its, r, pl, hz⟩ := I.list hq
  obtain ⟨w, ew, rw'⟩ := r.get he
  have hl := r.length
  have hi := (List.getElem?_eq_some_iff.mp he).1
  have hn := line63
  exact wpAny_getItem_list pl.isList (by (clear I hq he q r pl hz ew rw' hl hi hn; omega)) (by omega) (by simpa using ew) ⟨z, H, I, rw', q⟩
end DP
namespace DP
open PySem PySem.Spec PyProof.Rows L2
abbrev Trip := Nat × Int × Int
def sizeT (W : WorldD) (q : Trip) : Int := ((W.recs[q.1]?).map (·.size)).getD 0
def finT (W : WorldD) (q : Trip) : Int := ((W.pass[q.2.2.toNat]?).map (·.fin)).getD 0
def usedL (W : WorldD) (l : List Trip) (m : Int) : Int := (l.map fun q => if q.2.1 ≤ m ∧ m < finT W q then sizeT W q else 0).sum
def usedW (W : WorldD) (c : CaseD) (s : Nat) (m : Int) : Int := usedL W (madeS W c s W.recs.length) m
/-- each starts at a minute, and ends behind it -/
def TripsOk (W : WorldD) (l : List Trip) : Prop := ∀ q ∈ l, 0 ≤ q.2.1 ∧ q.2.1 < finT W q ∧ finT W q ≤ W.horizon
theorem trips_made {W : WorldD} (wok : WorldOk W) (c : CaseD) (s n : Nat) : TripsOk W (madeS W c s n) := fun q hq => by
  obtain ⟨h1, _⟩ := List.mem_filter.mp hq
  obtain ⟨_, z, y, hz, hy, h0, ho⟩ := mem_made h1
  have zok := wok.recs z (List.mem_of_getElem? hz)
  have yok := wok.pass y (List.mem_of_getElem? hy)
  have k1 := zok.earliest
  have k2 := zok.length
  have k3 := yok.first
  have k4 := yok.fin
  have ef : finT W q = y.fin := by
    unfold finT
    rw [hy]
    rfl
  unfold isOpt okP at ho
  obtain ⟨o1, ho⟩ := Bool.and_eq_true_iff.mp ho
  obtain ⟨_, ho⟩ := Bool.and_eq_true_iff.mp ho
  obtain ⟨_, ho⟩ := Bool.and_eq_true_iff.mp ho
  obtain ⟨o2, _⟩ := Bool.and_eq_true_iff.mp ho
  have o1 := of_decide_eq_true o1
  have o2 := of_decide_eq_true o2
  rw [ef]
  omega
def usedsW (W : WorldD) (c : CaseD) (s : Nat) (n : Nat) : List Int := (List.range n).map fun (m : Nat) => usedW W c s (m : Int)
end DP
namespace DP
open PySem PySem.Spec PyProof.Rows L2
abbrev s_minutes_within : Stmt := topS 19
theorem sc_minutes_within : FnScope ["spans", "first", "end", "span"] ["spans", "first", "end"] (defScope s_minutes_within) := ⟨rfl, rfl, rfl, by decide +kernel, rfl, by decide +kernel, by decide +kernel⟩
abbrev s_light_minutes : Stmt := topS 39
theorem sc_light_minutes : FnScope ["satellite", "first", "end"] ["satellite", "first", "end"] (defScope s_light_minutes) := ⟨rfl, rfl, rfl, by decide +kernel, rfl, by decide +kernel, by decide +kernel⟩
abbrev s__law_is_light : Stmt := topS 98
theorem sc__law_is_light : FnScope ["world", "s", "minute", "span"] ["world", "s", "minute"] (defScope s__law_is_light) := ⟨rfl, rfl, rfl, by decide +kernel, rfl, by decide +kernel, by decide +kernel⟩
section
variable {P : Program} {w : World} {K : PySem.W.Frag} {mg : Str → Option Value} {base : Heap} {CL CS CT CR CP CW aS aR fS fT fR fP : Addr}
def spWithin (K : PySem.W.Frag) : Sp := fun vs H Q _ => ∃ (t : Addr) (xs : List V) (qs : List (Int × Int)) (f e : Int), vs = [.ref t, .int f, .int e] ∧ SqT K H t xs ∧ Spans K H xs qs ∧ qs.length ≤ 1000 ∧ ∀ H', Same H H' → Q (.int (mw qs f e)) H'
theorem d_minutes_within (B : Bt mg) (A : At K mg "minutes_within" s_minutes_within ["spans", "first", "end"]) : DefOk P w K mg base CX0 1 "minutes_within" ["spans", "first", "end"] (spWithin K) := by
  refine A.ok sc_minutes_within (fun vs H Q E h => ?_) (fun f cdv A outer s H vs Q E hr h => ?_)
  · obtain ⟨t, xs, qs, f, e, rfl, _⟩ := h
    rfl
  obtain ⟨t, xs, qs, f, e, rfl, h1, h2, hl, q⟩ := h
  refine ⟨_, pss_one (ps_ret (pe_callB (cr_sum rfl) (by rfl) B.sum (by decide +kernel) (pa_cons (pe_lc (own := [("span", 3)])  rfl sc_minutes_within.nd (pi_tup (pv 0)) (blkOk_by (own := [("span", 3)]) (N := ["spans", "first", "end", "span"]) (sc := defScope s_minutes_within) (by decide +kernel)) (fun _ _ _ _ _ => pg_name (i := 3) sc_minutes_within.nd rfl (Or.inl rfl)) (fun _ _ _ _ _ => pts_nil) (fun _ _ _ _ _ => (pe_callB (call_max2 rfl) (by rfl) B.max (by decide +kernel) (pa_cons pe_int (pa_cons (pe_op op_sub (pe_callB (call_min2 rfl) (by rfl) B.min (by decide +kernel) (pa_cons (pv 2) (pa_cons (pe_ix (ix_tupK (K := K) rfl) (pv 3) pe_int (fun _ _ => rfl)) pa_nil))) (pe_callB (call_max2 rfl) (by rfl) B.max (by decide +kernel) (pa_cons (pv 1) (pa_cons (pe_ix (ix_tupK (K := K) rfl) (pv 3) pe_int (fun _ _ => rfl)) pa_nil)))) pa_nil))))) pa_nil)))
    , ?_⟩
  have hlen := paired_len h2
  refine ⟨_, rfl, t, rfl, ⟨_, h1⟩, fun D hD => lc_tup (K := K) (a := t) (xs := xs) (fun i H' => i ≤ xs.length ∧ Same H H' ∧ H' D = some (.lst (((qs.take i).map (mwOne f e)).map V.int))) ⟨Nat.zero_le _, same_new hD _, upd_same⟩ (fun i H' _ h => Same.tup h.2.1 h1) (fun i x H1 hx hI => ?_) (fun H1 hI => ?_)⟩
  · obtain ⟨_, hs, hDD⟩ := hI
    obtain ⟨y, hy, p, rfl, hp⟩ := paired_at h2 hx
    have hi : i < xs.length := (List.getElem?_eq_some_iff.mp hx).1
    have hp1 := Same.tup hs hp
    refine ⟨rfl, ?_⟩
    refine ⟨_, rfl, _, rfl, p, _, 1, .int y.2, rfl, rfl, hp1, rfl, _, _, rfl, _, rfl, _, rfl, p, _, 0, .int y.1, rfl, rfl, hp1, rfl, _, _, rfl, _, _, rfl, rfl, _, _, rfl, ?_⟩
    refine ⟨_, hDD, ?_, hi, same_at hD hs _, ?_⟩
    · rw [List.length_map, List.length_map, List.length_take]
      exact small1000 (by omega)
    · rw [upd_same, List.take_add_one, hy, List.map_append, List.map_append]
      rfl
  · obtain ⟨_, hs, hDD⟩ := hI
    rw [hlen, List.take_length] at hDD
    exact ⟨D, _, rfl, SqL.of hDD, q H1 hs⟩
def spLightM (K : PySem.W.Frag) (CS : Addr) : Sp := fun vs H Q _ => ∃ (x : V) (z : SatD) (f e : Int), vs = [x, .int f, .int e] ∧ SatAt K CS H x z ∧ z.light.length ≤ 1000 ∧ ∀ H', Same H H' → Q (.int (mw z.light f e)) H'
theorem d_light_minutes (T : TxtW K mg CL CS CT CR CP CW aS aR fS fT fR fP) (D_minutes_within : DefOk P w K mg base CX0 1 "minutes_within" ["spans", "first", "end"] (spWithin K)) (A : At K mg "light_minutes" s_light_minutes ["satellite", "first", "end"]) :
    DefOk P w K mg base CX0 2 "light_minutes" ["satellite", "first", "end"] (spLightM K CS) := by
  refine A.ok sc_light_minutes (fun vs H Q E h => ?_) (fun f cdv A outer s H vs Q E hr h => ?_)
  · obtain ⟨x, z, f, e, rfl, _⟩ := h
    rfl
  obtain ⟨x, z, f, e, rfl, hx, hl, q⟩ := h
  obtain ⟨a, dx, t, ls, rfl, g1, g2, g3⟩ := hx
  refine ⟨_, pss_one (ps_ret (pe_f D_minutes_within (hr.mono (by omega)) pass0 (pa_cons (pe_fld (pv 0) rfl) (pa_cons (pv 1) (pa_cons (pv 2) pa_nil)))))
    , ?_⟩
  refine ⟨_, rfl, a, CS, dx, _, _, rfl, g1, T.c_Satellite.cl, T.n_Satellite_light, (show List.lookup ("light" : Str) (satF z t) = some (.ref t) from by unfold satF; repeat (first | exact lk_hit | rw [lk_miss (by decide +kernel)])), _, rfl, _, rfl, t, ls, z.light, f, e, rfl, g2, g3, hl, fun H' s' => q H' s'⟩
def spIsLight (K : PySem.W.Frag) : Sp := fun vs H Q _ => ∃ (wd : Addr) (W : WorldD) (i : Nat) (z : SatD) (m : Int), vs = [.ref wd, .int (i : Int), .int m] ∧ WdAt K H wd W ∧ W.sats[i]? = some z ∧ Q (.bl (z.light.any (hasM m))) H
theorem d_is_light (B : Bt mg) (A : At K mg "_law_is_light" s__law_is_light ["world", "s", "minute"]) : DefOk P w K mg base CX0 1 "_law_is_light" ["world", "s", "minute"] (spIsLight K) := by
  refine A.ok sc__law_is_light (fun vs H Q E h => ?_) (fun f cdv A outer s H vs Q E hr h => ?_)
  · obtain ⟨wd, W, i, z, m, rfl, _⟩ := h
    rfl
  obtain ⟨wd, W, i, z, m, rfl, hwd, hz, q⟩ := h
  obtain ⟨a, b, c, d, xa, xb, xc, xd, g, a1, a2, _⟩ := hwd.ex
  obtain ⟨x, ex, dx⟩ := dpAll_get2 a2 hz
  obtain ⟨t, t1, t2, ls, rfl, k1, _, k3, k4⟩ := sat_open dx
  have hlen := paired_len k4
  refine ⟨_, pss_cons (ps_for PassesOwn.never rfl (pi_tup (pe_ix ix_tup (pe_ix ix_list (pe_dget (hu_of hr) (pv 0) pe_str (fun _ _ => rfl)) (pv 1) (fun _ _ => rfl)) pe_int (fun _ _ => rfl))) (pg_name (i := 3) sc__law_is_light.nd rfl (Or.inl rfl))
      (pss_one (ps_if (pt_chain op_le op_lt (pe_ix ix_tup (pv 3) pe_int (fun _ _ => rfl)) (pv 2) (pe_ix ix_tup (pv 3) pe_int (fun _ _ => rfl)))
          (pss_one (ps_ret pe_bl))
          (pss_nil))))
  (pss_one (ps_ret pe_bl))
    , ?_⟩
  refine ⟨_, rfl, wd, _, rfl, get_s g, _, rfl, a, _, _, _, rfl, rfl, SqL.of a1, atI_nat ex, t, _, 2, _, rfl, rfl, k1, rfl, t2, rfl, ⟨_, k3⟩, for_tup (K := K) (a := t2) (xs := ls) (fun j σ H' => H' = H ∧ ∃ y3, σ = [some (.ref wd), some (.int (i : Int)), some (.int m), y3] ∧ (z.light.take j).any (hasM m) = false)
    ⟨rfl, none, rfl, rfl⟩ (fun j σ H' _ hI => ?_) (fun j x σ H' hx hI => ?_) (fun σ H' hI => ?_)⟩
  · obtain ⟨rfl, y3, rfl, _⟩ := hI
    exact k3
  · obtain ⟨rfl, y3, rfl, hn⟩ := hI
    obtain ⟨p, hp, u, rfl, hu⟩ := paired_at k4 hx
    have tk : (z.light.take (j + 1)).any (hasM m) = hasM m p := by
      rw [take_snoc hp, List.any_append, hn, Bool.false_or, List.any_cons, List.any_nil, Bool.or_false]
    refine ⟨_, rfl, u, _, 0, .int p.1, rfl, rfl, hu, rfl, _, rfl, _, _, rfl, rfl, _, rfl, ite2 (fun c => ?_) (fun c => ?_)⟩
    · refine ⟨_, rfl, u, _, 1, .int p.2, rfl, rfl, hu, rfl, _, _, rfl, rfl, _, rfl, ite2 (fun c2 => ?_) (fun c2 => ?_)⟩
      · have e : z.light.any (hasM m) = true := List.any_eq_true.mpr ⟨p, List.mem_of_getElem? hp, by unfold hasM; rw [show decide (p.1 ≤ m) = true from c, show decide (m < p.2) = true from c2]; rfl⟩
        rw [e] at q
        exact q
      · refine ⟨rfl, _, rfl, ?_⟩
        rw [tk]
        unfold hasM
        rw [show decide (m < p.2) = false from Bool.eq_false_iff.mpr c2, Bool.and_false]
    · refine ⟨_, rfl, iteF ?_⟩
      refine ⟨rfl, _, rfl, ?_⟩
      rw [tk]
      unfold hasM
      rw [show decide (p.1 ≤ m) = false from Bool.eq_false_iff.mpr c, Bool.false_and]
  · obtain ⟨rfl, y3, rfl, hn⟩ := hI
    rw [hlen, List.take_length] at hn
    rw [hn] at q
    exact q
/-- spans that do not meet: a minute is in one of them or in none -/
theorem any_one {m h : Int} : ∀ {l : List (Int × Int)} {a : Int}, LightOk a h l → (m < a → l.any (hasM m) = false) ∧ ((l.filter (hasM m)).length : Int) = if l.any (hasM m) = true then 1 else 0
  | [], a, _ => ⟨fun _ => rfl, rfl⟩
  | q :: r, a, ⟨h1, h2, h3, h4⟩ => by
    obtain ⟨i1, i2⟩ := any_one (m := m) h4
    constructor
    · intro hm
      rw [List.any_cons, i1 (by omega), Bool.or_false]
      unfold hasM
      rw [decide_eq_false (by (clear h2 h3 h4 i1 i2; omega) : ¬ q.1 ≤ m), Bool.false_and]
    · rw [List.any_cons, List.filter_cons]
      by_cases c : hasM m q = true
      · have hm : m < q.2 := by
          unfold hasM at c
          rw [Bool.and_eq_true] at c
          exact of_decide_eq_true c.2
        rw [i1 hm, if_neg Bool.false_ne_true] at i2
        rw [c, if_pos rfl, Bool.true_or, if_pos rfl, List.length_cons]
        (clear h1 h2 h3 h4 i1 c hm; omega)
      · rw [if_neg c, Bool.eq_false_iff.mpr c, Bool.false_or]
        exact i2
end
end DP
namespace DP
open PySem PySem.Spec PyProof.Rows L2
theorem energy_pos {W : WorldD} (wok : WorldOk W) (k : Thing) : 0 ≤ energyT W k := by
  unfold energyT
  split
  · cases h : W.pass[k.2.1]? with
    | none => exact Int.le_refl _
    | some z => exact (wok.pass z (List.mem_of_getElem? h)).energy.1
  · cases h : W.recs[k.2.1]? with
    | none => exact Int.le_refl _
    | some z => exact (wok.recs z (List.mem_of_getElem? h)).energy.1
theorem spent_pos {W : WorldD} (wok : WorldOk W) (m : Int) : ∀ l : List Thing, 0 ≤ spentL W l m
  | [] => Int.le_refl _
  | k :: l => by
    have ih := spent_pos wok m l
    have h := energy_pos wok k
    show 0 ≤ ((k :: l).map fun k => if k.2.2.1 = m then energyT W k else 0).sum
    rw [List.map_cons, List.sum_cons]
    have ih' : 0 ≤ (l.map fun k => if k.2.2.1 = m then energyT W k else 0).sum := ih
    split <;> omega
theorem ahead_le {batt start : Int} {sp ch : Nat → Int} (h0 : start ≤ batt) : ∀ n, aheadW batt start sp ch n ≤ batt
  | 0 => h0
  | n + 1 => by
    show (if _ < batt then _ else batt) ≤ batt
    split <;> omega
theorem levels_at {W : WorldD} {c : CaseD} {s : Nat} {z : SatD} {n i : Nat} (h : i < n) : ((levelsW W c s z n).map V.int)[i]? = some (.int (levelW z.battery z.level (fun m => spentW W c s (m : Int)) (chgI z.light z.charge) i)) := by
  unfold levelsW
  rw [List.getElem?_map, List.getElem?_map, List.getElem?_range h]
  rfl
end DP
namespace DP
open PySem PySem.Spec PyProof.Rows L2
abbrev s__law_used : Stmt := topS 96
theorem sc__law_used : FnScope ["world", "case", "s", "made", "found", "minute", "total", "r", "start", "p"] ["world", "case", "s"] (defScope s__law_used) := ⟨rfl, rfl, rfl, by decide +kernel, rfl, by decide +kernel, by decide +kernel⟩
abbrev s__law_levels : Stmt := topS 99
theorem sc__law_levels : FnScope ["world", "case", "s", "numbers", "spent", "level", "found", "minute"] ["world", "case", "s"] (defScope s__law_levels) := ⟨rfl, rfl, rfl, by decide +kernel, rfl, by decide +kernel, by decide +kernel⟩
theorem used_take {W : WorldD} {l : List Trip} {i : Nat} {q : Trip} (h : l[i]? = some q) (m : Int) : usedL W (l.take (i + 1)) m = usedL W (l.take i) m + if q.2.1 ≤ m ∧ m < finT W q then sizeT W q else 0 := by
  unfold usedL
  rw [List.take_add_one, h, Option.toList_some, List.map_append, List.sum_append]
  simp
/-- no light: min(battery, level) is the level -/
theorem ahead_stay {batt start : Int} {sp ch : Nat → Int} (h0 : start ≤ batt) (hs : ∀ n, 0 ≤ sp n) (n : Nat) : aheadW batt start sp ch (n + 1) = if ch n = 0 then levelW batt start sp ch n else (if levelW batt start sp ch n + ch n < batt then levelW batt start sp ch n + ch n else batt) := by
  have h1 := ahead_le (sp := sp) (ch := ch) h0 n
  have h2 := hs n
  show (if aheadW batt start sp ch n - sp n + ch n < batt then aheadW batt start sp ch n - sp n + ch n else batt) = _
  unfold levelW
  by_cases c : ch n = 0
  · rw [if_pos c, c]
    split <;> omega
  · rw [if_neg c]
section
variable {P : Program} {w : World} {K : PySem.W.Frag} {mg : Str → Option Value} {base : Heap} {CL CS CT CR CP CW aS aR fS fT fR fP : Addr}
def spLawUsed (K : PySem.W.Frag) : Sp := fun vs H Q _ => ∃ (wd : Addr) (v : V) (W : WorldD) (o : Bool) (c : CaseD) (s : Nat), vs = [.ref wd, v, .int (s : Int)] ∧ WorldOk W ∧ WdAt K H wd W ∧ CaseG W o c ∧ Dp K H v (casePy c) ∧ ∀ t H', Same H H' → SqT K H' t ((usedsW W c s W.horizon.toNat).map V.int) → Q (.ref t) H'
set_option maxHeartbeats 8000000 in
theorem d_lused (B : Bt mg) (D_law_made : DefOk P w K mg base CX0 2 "_law_made" ["world", "case", "s"] (spLawMade K)) (A : At K mg "_law_used" s__law_used ["world", "case", "s"]) : DefOk P w K mg base CX0 3 "_law_used" ["world", "case", "s"] (spLawUsed K) := by
  refine A.ok sc__law_used (fun vs H Q E h => ?_) (fun f cdv A outer s H vs Q E hr h => ?_)
  · obtain ⟨wd, v, W, o, c, n, rfl, _⟩ := h
    rfl
  obtain ⟨wd, v, W, o, c, n, rfl, wok, hwd, cg, hc, q⟩ := h
  obtain ⟨wa, wb, wc, we, xa, xb, xc, xd, g, a1, a2, b1, b2, c1, c2, e1, e2⟩ := hwd.ex
  have hh := wok.horizon
  refine ⟨_, pss_cons (ps_set (i := 3) sc__law_used.nd rfl (Or.inl rfl) (pe_f D_law_made (hr.mono (by omega)) pass0 (pa_cons (pv 0) (pa_cons (pv 1) (pa_cons (pv 2) pa_nil)))))
  (pss_cons (ps_set (i := 4) sc__law_used.nd rfl (Or.inl rfl) (pe_lst pa_nil))
  (pss_cons (ps_for PassesOwn.never rfl (pi_range1 (by rfl) B.range (pa_cons (pe_dget (hu_of hr) (pv 0) pe_str (fun _ _ => rfl)) pa_nil)) (pg_name (i := 5) sc__law_used.nd rfl (Or.inl rfl))
      (pss_cons (ps_set (i := 6) sc__law_used.nd rfl (Or.inl rfl) pe_int)
      (pss_cons (ps_for PassesOwn.never rfl (pi_list (pv 3)) (pg_tup (by rfl) (pgs_cons (pg_name (i := 7) sc__law_used.nd rfl (Or.inl rfl)) (pgs_cons (pg_name (i := 8) sc__law_used.nd rfl (Or.inl rfl)) (pgs_cons (pg_name (i := 9) sc__law_used.nd rfl (Or.inl rfl)) (pgs_nil)))))
          (pss_one (ps_if (pt_chain op_le op_lt (pv 8) (pv 5) (pe_ix ix_tup (pe_ix ix_tup (pe_ix ix_list (pe_dget (hu_of hr) (pv 0) pe_str (fun _ _ => rfl)) (pv 9) (fun _ _ => rfl)) pe_int (fun _ _ => rfl)) pe_int (fun _ _ => rfl)))
              (pss_one (ps_set (i := 6) sc__law_used.nd rfl (Or.inl rfl) (pe_op op_add (pv 6) (pe_ix ix_tup (pe_ix ix_tup (pe_ix ix_list (pe_dget (hu_of hr) (pv 0) pe_str (fun _ _ => rfl)) (pv 7) (fun _ _ => rfl)) pe_int (fun _ _ => rfl)) pe_int (fun _ _ => rfl)))))
              (pss_nil))))
      (pss_one (ps_expr (pe_bm PySem.F.plainAttrs_list PySem.F.slot_list_append PySem.F.type_list_append mt_append (pv 4) (pa_cons (pv 6) pa_nil)))))))
  (pss_one (ps_ret (pe_callTy (call_tuple_of) (by rfl) B.tuple (by decide +kernel) (pa_cons (pv 4) pa_nil))))))
    , ?_⟩
  refine ⟨_, rfl, _, rfl, _, rfl, wd, v, W, o, c, n, rfl, wok, hwd, cg, hc, fun M H1 s1 nM hM => ?_⟩
  obtain ⟨xm, hM1, hM2⟩ := hM
  have lM := dpAll_len hM2
  rw [List.length_map] at lM
  refine ⟨Nat.zero_le _, fun D hD => ?_⟩
  have nD := s1.free hD
  have nMD : M ≠ D := ne_of_none hM1 hD
  have sD := s1.trans (same_new hD (.lst []))
  have hM3 := same_new hD (.lst []) _ _ hM1
  have hM4 := dpAll_same (same_new hD (.lst [])) hM2
  refine ⟨_, rfl, wd, _, rfl, get_h (sD _ _ g), W.horizon, rfl, by omega, by omega, for_range (lo := 0) (n := W.horizon.toNat) (fun i σ H' => ∃ y5 y6 y7 y8 y9, σ = [some (.ref wd), some v, some (.int (n : Int)), some (.ref M), some (.ref D), y5, y6, y7, y8, y9] ∧ SameX D (upd H1 D (.lst [])) H' ∧ H' D = some (.lst ((usedsW W c n i).map V.int)))
    ⟨none, none, none, none, none, rfl, SameX.refl _ _, upd_same⟩ (fun i σ H' hi hI => ?_) (fun σ H' hI => ?_)⟩
  · obtain ⟨y5, y6, y7, y8, y9, rfl, hs, hDD⟩ := hI
    have hMM := hs _ _ nMD hM3
    have hMd := dpAll_sx (noLs_map noL_trip _) upd_same hs hM4
    have hsH := sx_same sD nD hs
    refine ⟨_, rfl, M, rfl, ⟨_, SqL.of hMM⟩, ?_⟩
    refine for_it (walk_list (K := K) (a := M) (xs := xm)) (fun j σ H2 => ∃ y7 y8 y9, σ = [some (.ref wd), some v, some (.int (n : Int)), some (.ref M), some (.ref D), some (.int (0 + (i : Int))), some (.int (usedL W ((madeS W c n W.recs.length).take j) (i : Int))), y7, y8, y9] ∧ H2 = H') ⟨_, _, _, rfl, rfl⟩ (fun j σ H2 _ hI => ?_) (fun j v' σ H3 H4 hj hI hy => ?_) (fun σ H2 hI => ?_)
    · obtain ⟨y7, y8, y9, rfl, rfl⟩ := hI
      exact SqL.of hMM
    · obtain ⟨y7, y8, y9, rfl, rfl⟩ := hI
      obtain ⟨rfl, hx⟩ := hy
      obtain ⟨q1, hq1, dq1⟩ := dpAll_get hMd hx
      have mS := List.mem_of_getElem? hq1
      obtain ⟨r0, z, y, hz, es, hy2, p0, ho, _⟩ := mem_madeS mS
      obtain ⟨tt, rfl, htt⟩ := dp_trip dq1
      obtain ⟨x, ex, dx⟩ := dpAll_get2 c2 hz
      obtain ⟨rt', rt1, rt2, rfl, u1, u2, u3⟩ := rec_open dx
      obtain ⟨vp, evp, dvp⟩ := dpAll_get2 e2 hy2
      obtain ⟨tp, tp1, tp2, rfl, w1, w2, w3⟩ := pas_open dvp
      have ut := used_take (W := W) hq1 (i : Int)
      have ef : finT W q1 = y.fin := by
        unfold finT
        rw [hy2]
        rfl
      have ez : sizeT W q1 = z.size := by
        unfold sizeT
        rw [hz]
        rfl
      have ep : q1.2.2 = ((q1.2.2.toNat : Nat) : Int) := by (clear B D_law_made hr wok hwd cg hc q g a1 a2 b1 b2 c1 c2 e1 e2 hh s1 nM hM1 hM2 lM hD nD nMD sD hM3 hM4 hi hj hs hDD hMM hMd hsH hq1 mS r0 hz es hy2 ho htt hx dq1 ex dx u1 u2 u3 evp dvp w1 w2 w3 ut ef ez; omega)
      have z0 : (0 + (i : Int)) = (i : Int) := Int.zero_add _
      refine ⟨tt, _, rfl, htt, rfl, _, _, rfl, _, _, rfl, _, _, rfl, rfl, ?_⟩
      refine ⟨_, rfl, _, rfl, _, _, rfl, rfl, _, rfl, ite2 (fun k1 => ?_) (fun k1 => ?_)⟩
      · refine ⟨_, rfl, wd, _, rfl, get_p (hsH _ _ g), _, rfl, we, xd, _, _, rfl, rfl, SqL.of (hsH _ _ e1), (by rw [ep]; exact atI_nat evp), tp, _, 3, _, rfl, rfl, Same.tup hsH w1, rfl, tp1, _, 1, _, rfl, rfl, Same.tup hsH w2, rfl, _, _, rfl, rfl, _, rfl, ite2 (fun k2 => ?_) (fun k2 => ?_)⟩
        · have k1 : q1.2.1 ≤ 0 + (i : Int) := of_decide_eq_true k1
          have k2 : 0 + (i : Int) < y.fin := of_decide_eq_true k2
          refine ⟨_, rfl, _, rfl, wd, _, rfl, get_r (hsH _ _ g), _, rfl, wc, xc, (q1.1 : Int), _, rfl, rfl, SqL.of (hsH _ _ c1), atI_nat ex, rt', _, 2, _, rfl, rfl, Same.tup hsH u1, rfl, rt1, _, 3, _, rfl, rfl, Same.tup hsH u2, rfl, _, _, rfl, rfl, ?_⟩
          refine ⟨some (.int (q1.1 : Int)), some (.int q1.2.1), some (.int q1.2.2), ?_, rfl⟩
          rw [ut, ef, ez, if_pos ⟨by (clear B D_law_made hr wok hwd cg hc q g a1 a2 b1 b2 c1 c2 e1 e2 hh s1 nM hM1 hM2 lM hD nD nMD sD hM3 hM4 hi hj hs hDD hMM hMd hsH hq1 mS r0 hz es hy2 p0 ho htt hx dq1 ex dx u1 u2 u3 evp dvp w1 w2 w3 ut ef ez ep z0 k2; omega), by (clear B D_law_made hr wok hwd cg hc q g a1 a2 b1 b2 c1 c2 e1 e2 hh s1 nM hM1 hM2 lM hD nD nMD sD hM3 hM4 hi hj hs hDD hMM hMd hsH hq1 mS r0 hz es hy2 p0 ho htt hx dq1 ex dx u1 u2 u3 evp dvp w1 w2 w3 ut ef ez ep z0 k1; omega)⟩]
          rfl
        · have k2 : ¬ 0 + (i : Int) < y.fin := fun z => k2 (decide_eq_true z)
          refine ⟨some (.int (q1.1 : Int)), some (.int q1.2.1), some (.int q1.2.2), ?_, rfl⟩
          rw [ut, ef, ez, if_neg (fun z => k2 (by (clear B D_law_made hr wok hwd cg hc q g a1 a2 b1 b2 c1 c2 e1 e2 hh s1 nM hM1 hM2 lM hD nD nMD sD hM3 hM4 hi hj hs hDD hMM hMd hsH hq1 mS r0 hz es hy2 p0 ho htt hx dq1 ex dx u1 u2 u3 evp dvp w1 w2 w3 ut ef ez ep z0 k1; omega))), Int.add_zero]
          rfl
      · have k1 : ¬ q1.2.1 ≤ 0 + (i : Int) := fun z => k1 (decide_eq_true z)
        refine ⟨_, rfl, iteF' rfl ⟨some (.int (q1.1 : Int)), some (.int q1.2.1), some (.int q1.2.2), ?_, rfl⟩⟩
        rw [ut, ef, ez, if_neg (fun z => k1 (by (clear B D_law_made hr wok hwd cg hc q g a1 a2 b1 b2 c1 c2 e1 e2 hh s1 nM hM1 hM2 lM hD nD nMD sD hM3 hM4 hi hj hs hDD hMM hMd hsH hq1 mS r0 hz es hy2 p0 ho htt hx dq1 ex dx u1 u2 u3 evp dvp w1 w2 w3 ut ef ez ep z0; omega))), Int.add_zero]
        rfl
    · obtain ⟨y7, y8, y9, rfl, rfl⟩ := hI
      rw [lM, List.take_length]
      refine ⟨_, rfl, .inl ⟨rfl, _, SqL.of hDD⟩, _, rfl, D, _, _, rfl, rfl, hDD, (by rw [List.length_map]; unfold usedsW; rw [List.length_map, List.length_range]; exact small1000 (by omega)), ?_⟩
      refine ⟨_, _, _, _, _, rfl, hs.at_, ?_⟩
      rw [upd_same]
      unfold usedsW
      rw [List.range_succ, List.map_append, List.map_append]
      rfl
  · obtain ⟨y5, y6, y7, y8, y9, rfl, hs, hDD⟩ := hI
    refine ⟨_, rfl, D, _, rfl, .inl ⟨SqL.of hDD, fun t ht => ?_⟩⟩
    exact q t _ ((sx_same sD nD hs).trans (same_new ht _)) (SqT.of upd_same)
def spLawLevels (K : PySem.W.Frag) : Sp := fun vs H Q _ => ∃ (wd : Addr) (v : V) (W : WorldD) (o : Bool) (c : CaseD) (s : Nat) (z : SatD), vs = [.ref wd, v, .int (s : Int)] ∧ WorldOk W ∧ WdAt K H wd W ∧ CaseG W o c ∧ Dp K H v (casePy c) ∧ W.sats[s]? = some z ∧ ∀ t H', Same H H' → SqT K H' t ((levelsW W c s z W.horizon.toNat).map V.int) → Q (.ref t) H'
set_option maxHeartbeats 8000000 in
theorem d_llevels (B : Bt mg) (D_law_spent : DefOk P w K mg base CX0 3 "_law_spent" ["world", "case", "s"] (spLawSpent K)) (D_law_is_light : DefOk P w K mg base CX0 1 "_law_is_light" ["world", "s", "minute"] (spIsLight K)) (A : At K mg "_law_levels" s__law_levels ["world", "case", "s"]) : DefOk P w K mg base CX0 4 "_law_levels" ["world", "case", "s"] (spLawLevels K) := by
  refine A.ok sc__law_levels (fun vs H Q E h => ?_) (fun f cdv A outer s H vs Q E hr h => ?_)
  · obtain ⟨wd, v, W, o, c, n, z, rfl, _⟩ := h
    rfl
  obtain ⟨wd, v, W, o, c, n, z, rfl, wok, hwd, cg, hc, hz, q⟩ := h
  obtain ⟨wa, wb, wc, we, xa, xb, xc, xd, g, a1, a2, b1, b2, c1, c2, e1, e2⟩ := hwd.ex
  have hh := wok.horizon
  have zok := wok.sats z (List.mem_of_getElem? hz)
  have k2 := zok.level
  have k4 := zok.charge
  have sp0 : ∀ m : Nat, 0 ≤ spentW W c n (m : Int) := fun m => spent_pos wok _ _
  obtain ⟨x, ex, dx⟩ := dpAll_get2 a2 hz
  obtain ⟨ts, t1, t2, ls, rfl, v1, v2, v3, v4⟩ := sat_open dx
  refine ⟨_, pss_cons (ps_set (i := 3) sc__law_levels.nd rfl (Or.inl rfl) (pe_ix ix_tup (pe_ix ix_list (pe_dget (hu_of hr) (pv 0) pe_str (fun _ _ => rfl)) (pv 2) (fun _ _ => rfl)) pe_int (fun _ _ => rfl)))
  (pss_cons (ps_set (i := 4) sc__law_levels.nd rfl (Or.inl rfl) (pe_f D_law_spent (hr.mono (by omega)) pass0 (pa_cons (pv 0) (pa_cons (pv 1) (pa_cons (pv 2) pa_nil)))))
  (pss_cons (ps_set (i := 5) sc__law_levels.nd rfl (Or.inl rfl) (pe_ix ix_tup (pv 3) pe_int (fun _ _ => rfl)))
  (pss_cons (ps_set (i := 6) sc__law_levels.nd rfl (Or.inl rfl) (pe_lst pa_nil))
  (pss_cons (ps_for PassesOwn.never rfl (pi_range1 (by rfl) B.range (pa_cons (pe_dget (hu_of hr) (pv 0) pe_str (fun _ _ => rfl)) pa_nil)) (pg_name (i := 7) sc__law_levels.nd rfl (Or.inl rfl))
      (pss_cons (ps_set (i := 5) sc__law_levels.nd rfl (Or.inl rfl) (pe_op op_sub (pv 5) (pe_ix ix_list (pv 4) (pv 7) (fun _ _ => rfl))))
      (pss_cons (ps_expr (pe_bm PySem.F.plainAttrs_list PySem.F.slot_list_append PySem.F.type_list_append mt_append (pv 6) (pa_cons (pv 5) pa_nil)))
      (pss_one (ps_if (pt_val (pe_f D_law_is_light (hr.mono (by omega)) pass0 (pa_cons (pv 0) (pa_cons (pv 2) (pa_cons (pv 7) pa_nil)))))
          (pss_one (ps_set (i := 5) sc__law_levels.nd rfl (Or.inl rfl) (pe_callB (call_min2 rfl) (by rfl) B.min (by decide +kernel) (pa_cons (pe_ix ix_tup (pv 3) pe_int (fun _ _ => rfl)) (pa_cons (pe_op op_add (pv 5) (pe_ix ix_tup (pv 3) pe_int (fun _ _ => rfl))) pa_nil)))))
          (pss_nil))))))
  (pss_one (ps_ret (pe_callTy (call_tuple_of) (by rfl) B.tuple (by decide +kernel) (pa_cons (pv 6) pa_nil))))))))
    , ?_⟩
  refine ⟨_, rfl, wd, _, rfl, get_s g, _, rfl, wa, xa, (n : Int), _, rfl, rfl, SqL.of a1, atI_nat ex, ts, _, 1, _, rfl, rfl, v1, rfl, ?_⟩
  refine ⟨_, rfl, _, rfl, _, rfl, wd, v, W, o, c, n, rfl, wok, hwd, cg, hc, fun M H1 s1 nM hM => ?_⟩
  refine ⟨_, rfl, t1, _, 2, _, rfl, rfl, Same.tup s1 v2, rfl, ?_⟩
  refine ⟨Nat.zero_le _, fun D hD => ?_⟩
  have nD := s1.free hD
  have nMD : M ≠ D := ne_of_none hM hD
  have sD := s1.trans (same_new hD (.lst []))
  have hM3 := same_new hD (.lst []) _ _ hM
  let sp : Nat → Int := fun m => spentW W c n (m : Int)
  let ch : Nat → Int := chgI z.light z.charge
  refine ⟨_, rfl, wd, _, rfl, get_h (sD _ _ g), W.horizon, rfl, by omega, by omega, for_range (lo := 0) (n := W.horizon.toNat) (fun i σ H' => ∃ y7, σ = [some (.ref wd), some v, some (.int (n : Int)), some (.ref t1), some (.ref M), some (.int (aheadW z.battery z.level sp ch i)), some (.ref D), y7] ∧ SameX D (upd H1 D (.lst [])) H' ∧ H' D = some (.lst ((levelsW W c n z i).map V.int)))
    ⟨none, rfl, SameX.refl _ _, upd_same⟩ (fun i σ H' hi hI => ?_) (fun σ H' hI => ?_)⟩
  · obtain ⟨y7, rfl, hs, hDD⟩ := hI
    have hMM := hs _ _ nMD hM3
    have hsH := sx_same sD nD hs
    have z0 : (0 + (i : Int)) = (i : Int) := Int.zero_add _
    have hi' : i < W.horizon.toNat := hi
    refine ⟨_, rfl, _, rfl, _, rfl, M, _, _, _, rfl, rfl, SqL.of hMM, (by rw [z0]; exact atI_nat (spL_at hi')), _, _, rfl, rfl, ?_⟩
    refine ⟨_, rfl, .inl ⟨rfl, _, SqL.of hDD⟩, _, rfl, D, _, _, rfl, rfl, hDD, (by rw [List.length_map]; unfold levelsW; rw [List.length_map, List.length_range]; exact small1000 (by (clear B D_law_spent D_law_is_light hr wok hwd cg hc hz q g a1 a2 b1 b2 c1 c2 e1 e2 zok k2 k4 sp0 ex dx v1 v2 v3 v4 s1 nM hM hD nD nMD sD hM3 hs hDD hMM hsH z0 hi'; omega))), ?_⟩
    have hs2 := hs.at_ (o := .lst ((levelsW W c n z i).map V.int ++ [.int (aheadW z.battery z.level sp ch i - spentL W (busyL W c n) (i : Int))]))
    have hsH2 := sx_same sD nD hs2
    have put : (upd H' D (.lst ((levelsW W c n z i).map V.int ++ [.int (aheadW z.battery z.level sp ch i - spentL W (busyL W c n) (i : Int))]))) D = some (.lst ((levelsW W c n z (i + 1)).map V.int)) := by
      rw [upd_same]
      unfold levelsW
      rw [List.range_succ, List.map_append, List.map_append]
      rfl
    have st := ahead_stay (batt := z.battery) (sp := sp) (ch := ch) k2.2 sp0 i
    refine ⟨_, rfl, _, rfl, _, rfl, wd, W, n, z, (i : Int), by rw [z0]; rfl, hwd.same hsH2, hz, _, rfl, ite2 (fun k1 => ?_) (fun k1 => ?_)⟩
    · refine ⟨_, rfl, t1, _, 1, _, rfl, rfl, Same.tup hsH2 v2, rfl, _, rfl, _, rfl, t1, _, 4, _, rfl, rfl, Same.tup hsH2 v2, rfl, _, _, rfl, rfl, _, _, rfl, ?_⟩
      refine ⟨some (.int (0 + (i : Int))), ?_, hs2, put⟩
      have ec : ch i = z.charge := by
        show chgI z.light z.charge i = z.charge
        unfold chgI
        exact if_pos k1
      have e : aheadW z.battery z.level sp ch (i + 1) = if aheadW z.battery z.level sp ch i - sp i + z.charge < z.battery then aheadW z.battery z.level sp ch i - sp i + z.charge else z.battery := by
        show (if aheadW z.battery z.level sp ch i - sp i + ch i < z.battery then aheadW z.battery z.level sp ch i - sp i + ch i else z.battery) = _
        rw [ec]
      rw [e]
      rfl
    · refine ⟨some (.int (0 + (i : Int))), ?_, hs2, put⟩
      have ec : ch i = 0 := by
        show chgI z.light z.charge i = 0
        unfold chgI
        exact if_neg k1
      rw [if_pos ec] at st
      rw [st]
      rfl
  · obtain ⟨y7, rfl, hs, hDD⟩ := hI
    refine ⟨_, rfl, D, _, rfl, .inl ⟨SqL.of hDD, fun t ht => ?_⟩⟩
    exact q t _ ((sx_same sD nD hs).trans (same_new ht _)) (SqT.of upd_same)
end
end DP
namespace DP
open PySem PySem.Spec PyProof.Rows L2
abbrev s_is_tuple_of : Stmt := topS 5
theorem sc_is_tuple_of : FnScope ["thing", "many"] ["thing", "many"] (defScope s_is_tuple_of) := ⟨rfl, rfl, rfl, by decide +kernel, rfl, by decide +kernel, by decide +kernel⟩
section
variable {P : Program} {w : World} {K : PySem.W.Frag} {mg : Str → Option Value} {base : Heap}
def spIsTup (K : PySem.W.Frag) : Sp := fun vs H Q _ => ∃ (t : Addr) (xs : List V) (m : Int), vs = [.ref t, .int m] ∧ SqT K H t xs ∧ Q (.bl (decide (V.int (xs.length : Int) = V.int m))) H
theorem d_is_tuple_of (B : Bt mg) (A : At K mg "is_tuple_of" s_is_tuple_of ["thing", "many"]) : DefOk P w K mg base CX0 1 "is_tuple_of" ["thing", "many"] (spIsTup K) := by
  refine A.ok sc_is_tuple_of (fun vs H Q E h => ?_) (fun f cdv A outer s H vs Q E hr h => ?_)
  · obtain ⟨t, xs, m, rfl, _⟩ := h
    rfl
  obtain ⟨t, xs, m, rfl, ht, q⟩ := h
  refine ⟨_, pss_one (ps_ret (pe_and (pe_callB (call_isi) (by rfl) B.isinstance (by decide +kernel) (pa_cons (pv 0) (pa_cons (pe_bltn (v := .ty "tuple") (u := .type "tuple") (by rfl) B.tuple (by decide +kernel) rfl) pa_nil))) (pe_one (pe_cmpR op_eq (pe_callB (call_len_seq) (by rfl) B.len (by decide +kernel) (pa_cons (pv 0) pa_nil)) (pv 1) (nomark _)))))
    , ?_⟩
  exact ⟨_, rfl, _, .ty "tuple", _, _, true, rfl, .ty "tuple", tyx_tup ht, kit_ty (by decide +kernel), true, rfl, iteT' rfl ⟨_, rfl, t, xs, rfl, .inr ht, _, rfl, rfl, q⟩⟩
end
end DP
namespace DP
open PySem PySem.Spec PyProof.Rows L2
abbrev s_is_made_entry : Stmt := topS 55
theorem sc_is_made_entry : FnScope ["world", "entry", "start", "p"] ["world", "entry"] (defScope s_is_made_entry) := ⟨rfl, rfl, rfl, by decide +kernel, rfl, by decide +kernel, by decide +kernel⟩
abbrev s_is_taken_entry : Stmt := topS 56
theorem sc_is_taken_entry : FnScope ["entry"] ["entry"] (defScope s_is_taken_entry) := ⟨rfl, rfl, rfl, by decide +kernel, rfl, by decide +kernel, by decide +kernel⟩
abbrev s_check_case : Stmt := topS 54
theorem sc_check_case : FnScope ["world", "case", "made", "taken", "entry"] ["world", "case"] (defScope s_check_case) := ⟨rfl, rfl, rfl, by decide +kernel, rfl, by decide +kernel, by decide +kernel⟩
section
variable {P : Program} {w : World} {K : PySem.W.Frag} {mg : Str → Option Value} {base : Heap} {CL CS CT CR CP CW aS aR fS fT fR fP : Addr}
def spIsMade (K : PySem.W.Frag) (CS CT CR CP CW : Addr) : Sp := fun vs H Q _ => ∃ (ac : Addr) (W : WorldD) (v : V) (e : EntM), vs = [.ref ac, v] ∧ WorldAt K CS CT CR CP CW H ac W ∧ MOk W true e ∧ Dp K H v (entM e) ∧ Q (.bl true) H
theorem d_is_made_entry (T : TxtW K mg CL CS CT CR CP CW aS aR fS fT fR fP) (TP : TxtO mg) (D_is_tuple_of : DefOk P w K mg base CX0 1 "is_tuple_of" ["thing", "many"] (spIsTup K)) (A : At K mg "is_made_entry" s_is_made_entry ["world", "entry"]) :
    DefOk P w K mg base CX0 2 "is_made_entry" ["world", "entry"] (spIsMade K CS CT CR CP CW) := by
  have B := T.L.B
  have TW := T
  refine A.ok sc_is_made_entry (fun vs H Q E h => ?_) (fun f cdv A outer s H vs Q E hr h => ?_)
  · obtain ⟨ac, W, v, e, rfl, _⟩ := h
    rfl
  obtain ⟨ac, W, v, e, rfl, hW, hok, hd, q⟩ := h
  obtain ⟨dx, t0, t1, t2, t3, x0, x1, x2, x3, gw, _, _, _, _, _, _, p3, q3⟩ := hW.ex
  have l3 := paired_len q3
  have T := TP
  refine ⟨_, pss_cons (ps_if (PW.pt (pw_or (pt_cmpR op_isN (pv 1) pe_non (nomark _)) (pw_or1 (pt_cmpR (op_eqD hr.units) (pv 1) (pe_gs T.g_OPEN) (nomark _)))))
      (pss_one (ps_ret pe_bl))
      (pss_nil))
  (pss_cons (ps_if (pt_not (pt_val (pe_f D_is_tuple_of (hr.mono (by omega)) pass0 (pa_cons (pv 1) (pa_cons pe_int pa_nil)))))
      (pss_one (ps_ret pe_bl))
      (pss_nil))
  (pss_cons (ps_asg (pv 1) (pg_tup (by rfl) (pgs_cons (pg_name (i := 2) sc_is_made_entry.nd rfl (Or.inl rfl)) (pgs_cons (pg_name (i := 3) sc_is_made_entry.nd rfl (Or.inl rfl)) (pgs_nil)))))
  (pss_one (ps_ret (pe_and (pe_callB (call_isi) (by rfl) B.isinstance (by decide +kernel) (pa_cons (pv 2) (pa_cons (pe_bltn (v := .ty "int") (u := .type "int") (by rfl) B.int (by decide +kernel) rfl) pa_nil))) (pe_and (pe_callB (call_isi) (by rfl) B.isinstance (by decide +kernel) (pa_cons (pv 3) (pa_cons (pe_bltn (v := .ty "int") (u := .type "int") (by rfl) B.int (by decide +kernel) rfl) pa_nil))) (pe_one (pe_chain op_le op_lt pe_int (pv 3) (pe_callB (call_len_seq) (by rfl) B.len (by decide +kernel) (pa_cons (pe_fld (pv 0) rfl) pa_nil))))))))))
    , ?_⟩
  have T := TW
  cases e with
  | non =>
    cases hd
    exact ⟨_, rfl, rfl, _, rfl, iteT' (decide_eq_true rfl) (iteT' rfl q)⟩
  | opn =>
    cases hd
    exact ⟨_, rfl, rfl, _, rfl, iteF' (decide_eq_false fun z => nomatch z) ⟨_, rfl, .str "open", .str "open", .str _, .str _, by decide +kernel, by decide +kernel, _, rfl, iteT' (by decide +kernel) q⟩⟩
  | at_ a p =>
    obtain ⟨t, xs, rfl, ht, hx⟩ := dp_tup hd
    have ex := dp_ints (ns := [a, p]) hx
    subst ex
    obtain ⟨_, _, p0, p1⟩ := hok
    refine ⟨_, rfl, rfl, _, rfl, iteF' (decide_eq_false fun z => nomatch z) ⟨_, rfl, entM (.at_ a p), .str "open", hd, .str _, rfl, by decide +kernel, _, rfl, iteF' rfl ?_⟩⟩
    refine ⟨_, rfl, t, _, 2, rfl, ht, _, rfl, iteF' (by show (!decide (V.int 2 = V.int 2)) = false; rw [decide_eq_true rfl]; rfl) ?_⟩
    refine ⟨_, rfl, t, _, rfl, ht, rfl, _, _, rfl, _, _, rfl, rfl, ?_⟩
    refine ⟨_, rfl, _, .ty "int", _, _, true, rfl, .ty "int", .base (.int a), kit_ty (by decide +kernel), true, rfl, iteT' rfl ⟨_, rfl, _, .ty "int", _, _, true, rfl, .ty "int", .base (.int p), kit_ty (by decide +kernel), true, rfl, iteT' rfl ?_⟩⟩
    refine ⟨_, rfl, _, _, rfl, rfl, _, rfl, iteT' (decide_eq_true p0) ⟨_, rfl, ac, CW, dx, _, _, rfl, gw, T.c_World.cl, T.n_World_passes, lk_World_passes, t3, x3, rfl, .inr p3, _, _, rfl, rfl, ?_⟩⟩
    show Q (.bl (decide (p < (x3.length : Int)))) H
    rw [decide_eq_true (by omega : p < (x3.length : Int))]
    exact q
def spIsTaken (K : PySem.W.Frag) : Sp := fun vs H Q _ => ∃ (v : V) (e : EntT), vs = [v] ∧ Dp K H v (entT e) ∧ Q (.bl true) H
theorem d_is_taken_entry (B : Bt mg) (TP : TxtO mg) (A : At K mg "is_taken_entry" s_is_taken_entry ["entry"]) : DefOk P w K mg base CX0 1 "is_taken_entry" ["entry"] (spIsTaken K) := by
  have T := TP
  refine A.ok sc_is_taken_entry (fun vs H Q E h => ?_) (fun f cdv A outer s H vs Q E hr h => ?_)
  · obtain ⟨v, e, rfl, _⟩ := h
    rfl
  obtain ⟨v, e, rfl, hd, q⟩ := h
  refine ⟨_, pss_one (ps_ret (pe_or (pe_cmpR op_isN (pv 0) pe_non (nomark _)) (pe_or (pe_cmpR (op_eqD hr.units) (pv 0) (pe_gs T.g_OPEN) (nomark _)) (pe_one (pe_callB (call_isi) (by rfl) B.isinstance (by decide +kernel) (pa_cons (pv 0) (pa_cons (pe_bltn (v := .ty "int") (u := .type "int") (by rfl) B.int (by decide +kernel) rfl) pa_nil)))))))
    , ?_⟩
  cases e with
  | non =>
    cases hd
    exact ⟨_, rfl, rfl, _, rfl, iteT' (decide_eq_true rfl) q⟩
  | opn =>
    cases hd
    exact ⟨_, rfl, rfl, _, rfl, iteF' (decide_eq_false fun z => nomatch z) ⟨_, rfl, .str "open", .str "open", .str _, .str _, by decide +kernel, by decide +kernel, _, rfl, iteT' (by decide +kernel) q⟩⟩
  | ant n =>
    cases hd
    exact ⟨_, rfl, rfl, _, rfl, iteF' (decide_eq_false fun z => nomatch z) ⟨_, rfl, .int n, .str "open", .int _, .str _, rfl, by decide +kernel, _, rfl, iteF' rfl ⟨_, rfl, _, .ty "int", _, _, true, rfl, .ty "int", .base (.int n), kit_ty (by decide +kernel), q⟩⟩⟩
def spCheckCase (K : PySem.W.Frag) (CS CT CR CP CW : Addr) : Sp := fun vs H Q _ => ∃ (ac : Addr) (W : WorldD) (v : V) (o : Bool) (c : CaseD), vs = [.ref ac, v] ∧ WorldOk W ∧ WorldAt K CS CT CR CP CW H ac W ∧ CaseG W o c ∧ Dp K H v (casePy c) ∧ ∀ H', Same H H' → Q .non H'
theorem mok_true {W : WorldD} {o : Bool} {e : EntM} (h : MOk W o e) : MOk W true e := by
  cases e with
  | non => trivial
  | opn => rfl
  | at_ s p => exact h
set_option maxHeartbeats 4000000 in
theorem d_check_case (T : TxtW K mg CL CS CT CR CP CW aS aR fS fT fR fP) (D_is_tuple_of : DefOk P w K mg base CX0 1 "is_tuple_of" ["thing", "many"] (spIsTup K)) (D_is_made_entry : DefOk P w K mg base CX0 2 "is_made_entry" ["world", "entry"] (spIsMade K CS CT CR CP CW))
    (D_is_taken_entry : DefOk P w K mg base CX0 1 "is_taken_entry" ["entry"] (spIsTaken K)) (A : At K mg "check_case" s_check_case ["world", "case"]) : DefOk P w K mg base CX0 3 "check_case" ["world", "case"] (spCheckCase K CS CT CR CP CW) := by
  have B := T.L.B
  refine A.ok sc_check_case (fun vs H Q E h => ?_) (fun f cdv A outer s H vs Q E hr h => ?_)
  · obtain ⟨ac, W, v, o, c, rfl, _⟩ := h
    rfl
  obtain ⟨ac, W, v, o, c, rfl, wok, hW, cg, hd, q⟩ := h
  obtain ⟨dx, t0, t1, t2, t3, x0, x1, x2, x3, gw, _, _, _, _, p2, q2, p3, q3⟩ := hW.ex
  have l2 := paired_len q2
  have l3 := paired_len q3
  obtain ⟨t, xs, rfl, ht, hx⟩ := dp_tup hd
  cases hx with
  | cons a0 hx =>
  cases hx with
  | cons a1 hx =>
  cases hx
  obtain ⟨tm, xm, rfl, hm, hxm⟩ := dp_tup a0
  obtain ⟨tt, xt, rfl, htt, hxt⟩ := dp_tup a1
  have lm := dpAll_len hxm
  have lt := dpAll_len hxt
  rw [List.length_map] at lm lt
  have nM := cg.nM
  have nT := cg.nT
  have nR := wok.nRecs
  have nP := wok.nPass
  refine ⟨_, pss_cons (ps_if (pt_not (pt_val (pe_f D_is_tuple_of (hr.mono (by omega)) pass0 (pa_cons (pv 1) (pa_cons pe_int pa_nil)))))
      (pss_one (ps_never))
      (pss_nil))
  (pss_cons (ps_asg (pv 1) (pg_tup (by rfl) (pgs_cons (pg_name (i := 2) sc_check_case.nd rfl (Or.inl rfl)) (pgs_cons (pg_name (i := 3) sc_check_case.nd rfl (Or.inl rfl)) (pgs_nil)))))
  (pss_cons (ps_if (pt_not (pt_val (pe_f D_is_tuple_of (hr.mono (by omega)) pass0 (pa_cons (pv 2) (pa_cons (pe_callB (call_len_seq) (by rfl) B.len (by decide +kernel) (pa_cons (pe_fld (pv 0) rfl) pa_nil)) pa_nil)))))
      (pss_one (ps_never))
      (pss_nil))
  (pss_cons (ps_if (pt_not (pt_val (pe_f D_is_tuple_of (hr.mono (by omega)) pass0 (pa_cons (pv 3) (pa_cons (pe_callB (call_len_seq) (by rfl) B.len (by decide +kernel) (pa_cons (pe_fld (pv 0) rfl) pa_nil)) pa_nil)))))
      (pss_one (ps_never))
      (pss_nil))
  (pss_cons (ps_if (pt_not (pt_val (pe_callB (cr_all rfl) (by rfl) B.all (by decide +kernel) (pa_cons (pe_lc (own := [("entry", 4)])  rfl sc_check_case.nd (pi_tup (pv 2)) (blkOk_by (own := [("entry", 4)]) (N := ["world", "case", "made", "taken", "entry"]) (sc := defScope s_check_case) (by decide +kernel)) (fun _ _ _ _ _ => pg_name (i := 4) sc_check_case.nd rfl (Or.inl rfl)) (fun _ _ _ _ _ => pts_nil) (fun _ _ _ _ _ => (pe_f D_is_made_entry (hr.mono (by omega)) pass0 (pa_cons (pv 0) (pa_cons (pv 4) pa_nil))))) pa_nil))))
      (pss_one (ps_never))
      (pss_nil))
  (pss_one (ps_if (pt_not (pt_val (pe_callB (cr_all rfl) (by rfl) B.all (by decide +kernel) (pa_cons (pe_lc (own := [("entry", 4)])  rfl sc_check_case.nd (pi_tup (pv 3)) (blkOk_by (own := [("entry", 4)]) (N := ["world", "case", "made", "taken", "entry"]) (sc := defScope s_check_case) (by decide +kernel)) (fun _ _ _ _ _ => pg_name (i := 4) sc_check_case.nd rfl (Or.inl rfl)) (fun _ _ _ _ _ => pts_nil) (fun _ _ _ _ _ => (pe_f D_is_taken_entry (hr.mono (by omega)) pass0 (pa_cons (pv 4) pa_nil)))) pa_nil))))
      (pss_one (ps_never))
      (pss_nil)))))))
    , ?_⟩
  refine ⟨_, rfl, t, _, 2, rfl, ht, _, rfl, iteF' (by show (!decide (V.int 2 = V.int 2)) = false; rw [decide_eq_true rfl]; rfl) ?_⟩
  refine ⟨_, rfl, t, _, rfl, ht, rfl, _, _, rfl, _, _, rfl, rfl, ?_⟩
  refine ⟨_, rfl, _, rfl, ac, CW, dx, _, _, rfl, gw, T.c_World.cl, T.n_World_recordings, lk_World_recordings, t2, x2, rfl, .inr p2, tm, xm, _, rfl, hm, _, rfl, iteF' (by rw [decide_eq_true (by rw [lm, l2, nM])]; rfl) ?_⟩
  refine ⟨_, rfl, _, rfl, ac, CW, dx, _, _, rfl, gw, T.c_World.cl, T.n_World_passes, lk_World_passes, t3, x3, rfl, .inr p3, tt, xt, _, rfl, htt, _, rfl, iteF' (by rw [decide_eq_true (by rw [lt, l3, nT])]; rfl) ?_⟩
  have allT : ∀ n : Nat, (!(List.replicate n true).all id) = false := fun n => by simp
  refine ⟨_, rfl, tm, rfl, ⟨_, hm⟩, fun D hD => lc_tup (K := K) (a := tm) (xs := xm) (fun i H' => Same H H' ∧ H' D = some (.lst ((List.replicate i true).map V.bl))) ⟨same_new hD _, upd_same⟩ (fun i H' _ h => Same.tup h.1 hm) (fun i x H1 hx hI => ?_) (fun H1 hI => ?_)⟩
  · obtain ⟨hs, hDD⟩ := hI
    obtain ⟨e, he, hde⟩ := dpAll_get hxm hx
    have hi : i < xm.length := (List.getElem?_eq_some_iff.mp hx).1
    refine ⟨rfl, _, rfl, _, rfl, ac, W, x, e, rfl, hW.same hs, mok_true (cg.mOk e (List.mem_of_getElem? he)), dp_same hs hde, _, hDD, ?_, same_at hD hs _, ?_⟩
    · rw [List.length_map, List.length_replicate]
      exact small1000 (by (clear T D_is_tuple_of D_is_made_entry D_is_taken_entry B hr wok hW cg q gw p2 q2 p3 q3 l2 l3 hd a0 hm hxm a1 ht htt hxt lt nT nP allT hD hx hs hDD he hde; omega))
    · rw [upd_same, List.replicate_succ', List.map_append]
      rfl
  obtain ⟨s1, hDD⟩ := hI
  refine ⟨D, _, rfl, SqL.of hDD, _, rfl, iteF' (allT _) ?_⟩
  refine ⟨_, rfl, tt, rfl, ⟨_, Same.tup s1 htt⟩, fun D2 hD2 => lc_tup (K := K) (a := tt) (xs := xt) (fun i H' => Same H1 H' ∧ H' D2 = some (.lst ((List.replicate i true).map V.bl))) ⟨same_new hD2 _, upd_same⟩ (fun i H' _ h => Same.tup (s1.trans h.1) htt) (fun i x H2 hx hI => ?_) (fun H2 hI => ?_)⟩
  · obtain ⟨hs, hDD⟩ := hI
    obtain ⟨e, he, hde⟩ := dpAll_get hxt hx
    have hi : i < xt.length := (List.getElem?_eq_some_iff.mp hx).1
    refine ⟨rfl, _, rfl, x, e, rfl, dp_same (s1.trans hs) hde, _, hDD, ?_, same_at hD2 hs _, ?_⟩
    · rw [List.length_map, List.length_replicate]
      exact small1000 (by (clear T D_is_tuple_of D_is_made_entry D_is_taken_entry B hr wok hW cg q gw p2 q2 p3 q3 l2 l3 hd a0 hm hxm a1 ht htt hxt lm nM nR allT hD s1 hD2 hx hs hDD he hde; omega))
    · rw [upd_same, List.replicate_succ', List.map_append]
      rfl
  obtain ⟨s2, hDD2⟩ := hI
  exact ⟨D2, _, rfl, SqL.of hDD2, _, rfl, iteF' (allT _) (q _ (s1.trans s2))⟩
end
end DP
namespace DP
open PySem PySem.Spec PyProof.Rows L2
abbrev s_has_minute : Stmt := topS 18
theorem sc_has_minute : FnScope ["span", "minute"] ["span", "minute"] (defScope s_has_minute) := ⟨rfl, rfl, rfl, by decide +kernel, rfl, by decide +kernel, by decide +kernel⟩
def inM (m a b : Int) : Bool := decide (a ≤ m) && decide (m < b)
section
variable {P : Program} {w : World} {K : PySem.W.Frag} {mg : Str → Option Value} {base : Heap} {CL CS CT CR CP CW aS aR fS fT fR fP : Addr}
def spHasM (K : PySem.W.Frag) : Sp := fun vs H Q _ => ∃ (a : Addr) (x : Int × Int) (m : Int), vs = [.ref a, .int m] ∧ SqT K H a [.int x.1, .int x.2] ∧ Q (.bl (inM m x.1 x.2)) H
theorem d_has_minute (B : Bt mg) (A : At K mg "has_minute" s_has_minute ["span", "minute"]) : DefOk P w K mg base CX0 1 "has_minute" ["span", "minute"] (spHasM K) := by
  refine A.ok sc_has_minute (fun vs H Q E h => ?_) (fun f cdv A outer s H vs Q E hr h => ?_)
  · obtain ⟨a, x, m, rfl, _⟩ := h
    rfl
  obtain ⟨a, x, m, rfl, ha, q⟩ := h
  refine ⟨_, pss_one (ps_ret (pe_chain op_le op_lt (pe_ix ix_tup (pv 0) pe_int (fun _ _ => rfl)) (pv 1) (pe_ix ix_tup (pv 0) pe_int (fun _ _ => rfl))))
    , ?_⟩
  refine ⟨_, rfl, a, _, 0, _, rfl, rfl, ha, rfl, _, rfl, _, _, rfl, rfl, _, rfl, ite2 (fun k => ?_) (fun k => ?_)⟩
  · unfold inM at q
    rw [show decide (x.1 ≤ m) = true from k, Bool.true_and] at q
    exact ⟨_, rfl, a, _, 1, _, rfl, rfl, ha, rfl, _, _, rfl, rfl, q⟩
  · unfold inM at q
    rw [show decide (x.1 ≤ m) = false from Bool.eq_false_iff.mpr k, Bool.false_and] at q
    exact q
end
end DP
namespace DP
open PySem PySem.Spec PyProof.Rows L2
abbrev s_meet : Stmt := topS 16
theorem sc_meet : FnScope ["one", "other"] ["one", "other"] (defScope s_meet) := ⟨rfl, rfl, rfl, by decide +kernel, rfl, by decide +kernel, by decide +kernel⟩
abbrev s_lengthened : Stmt := topS 17
theorem sc_lengthened : FnScope ["span", "minutes", "first", "end"] ["span", "minutes"] (defScope s_lengthened) := ⟨rfl, rfl, rfl, by decide +kernel, rfl, by decide +kernel, by decide +kernel⟩
abbrev s_too_close : Stmt := topS 76
theorem sc_too_close : FnScope ["span", "other", "minutes"] ["span", "other", "minutes"] (defScope s_too_close) := ⟨rfl, rfl, rfl, by decide +kernel, rfl, by decide +kernel, by decide +kernel⟩
abbrev s_recording_breaches : Stmt := topS 70
theorem sc_recording_breaches : FnScope ["world", "case", "made", "taken", "found", "r", "entry", "_", "p"] ["world", "case"] (defScope s_recording_breaches) := ⟨rfl, rfl, rfl, by decide +kernel, rfl, by decide +kernel, by decide +kernel⟩
abbrev s_sent_sizes : Stmt := topS 72
theorem sc_sent_sizes : FnScope ["world", "case", "sizes", "r", "_", "p"] ["world", "case"] (defScope s_sent_sizes) := ⟨rfl, rfl, rfl, by decide +kernel, rfl, by decide +kernel, by decide +kernel⟩
abbrev s_pass_breaches : Stmt := topS 71
theorem sc_pass_breaches : FnScope ["world", "case", "sizes", "found", "p", "entry"] ["world", "case"] (defScope s_pass_breaches) := ⟨rfl, rfl, rfl, by decide +kernel, rfl, by decide +kernel, by decide +kernel⟩
inductive Br where
  | opt (r : Nat) : Br
  | unt (r : Nat) : Br
  | ant (p : Nat) : Br
  | room (p : Nat) : Br
  | turn (p q : Nat) : Br
  | busy (x y : Bool × Nat) : Br
  | store (s m : Nat) : Br
  | energy (s m : Nat) : Br
def sthPy (x : Bool × Nat) : PyData := .tuple [.str (sortN x.1), .int (x.2 : Int)]
def brPy : Br → PyData
  | .opt r => .tuple [.str "option", .int (r : Int)]
  | .unt r => .tuple [.str "untaken", .int (r : Int)]
  | .ant p => .tuple [.str "antenna", .int (p : Int)]
  | .room p => .tuple [.str "room", .int (p : Int)]
  | .turn p q => .tuple [.str "turn", .int (p : Int), .int (q : Int)]
  | .busy x y => .tuple [.str "busy", sthPy x, sthPy y]
  | .store s m => .tuple [.str "store", .int (s : Int), .int (m : Int)]
  | .energy s m => .tuple [.str "energy", .int (s : Int), .int (m : Int)]
theorem noL_br (b : Br) : noL (brPy b) := by cases b <;> simp [brPy, sthPy, noL, noLs]
def closeB (a b : Int × Int) (n : Int) : Bool := decide (a.1 < b.2 + n) && decide (b.1 < a.2 + n)
def recBAt (W : WorldD) (c : CaseD) (r : Nat) : List Br := match W.recs[r]?, c.made[r]? with
  | some z, some (.at_ s p) => if optB W z s p = true then (match c.taken[p.toNat]? with | some .non => [.unt r] | _ => []) else [.opt r]
  | _, _ => []
def recB (W : WorldD) (c : CaseD) (n : Nat) : List Br := (List.range n).flatMap (recBAt W c)
def sentL (W : WorldD) (l : List Trip) (p : Int) : Int := (l.map fun q => if q.2.2 = p then sizeT W q else 0).sum
def pasBAt (W : WorldD) (c : CaseD) (p : Nat) : List Br := match W.pass[p]?, c.taken[p]? with
  | some z, some (.ant _) => if antB W c p = true then (if z.room < sentL W (madeL W c W.recs.length) (p : Int) then [.room p] else []) else [.ant p]
  | _, _ => []
def pasB (W : WorldD) (c : CaseD) (n : Nat) : List Br := (List.range n).flatMap (pasBAt W c)
theorem rg_succ {β : Type} (g : Nat → List β) (n : Nat) : (List.range (n + 1)).flatMap g = (List.range n).flatMap g ++ g n := by
  rw [List.range_succ, List.flatMap_append, List.flatMap_cons, List.flatMap_nil, List.append_nil]
theorem rg_len {β : Type} {g : Nat → List β} (h : ∀ i, (g i).length ≤ 1) (n : Nat) : ((List.range n).flatMap g).length ≤ n := by
  have := flat_len1 h (List.range n)
  rw [List.length_range] at this
  exact this
theorem recBAt_len (W : WorldD) (c : CaseD) (r : Nat) : (recBAt W c r).length ≤ 1 := by
  unfold recBAt
  split
  · split
    · split <;> simp
    · simp
  · exact Nat.zero_le _
theorem pasBAt_len (W : WorldD) (c : CaseD) (r : Nat) : (pasBAt W c r).length ≤ 1 := by
  unfold pasBAt
  split
  · split
    · split <;> simp
    · simp
  · exact Nat.zero_le _
def snL (W : WorldD) (l : List Trip) (h : Nat) : List V := (List.range h).map fun (m : Nat) => V.int (sentL W l (m : Int))
theorem snL_len (W : WorldD) (l : List Trip) (h : Nat) : (snL W l h).length = h := by unfold snL; rw [List.length_map, List.length_range]
theorem snL_at {W : WorldD} {l : List Trip} {h i : Nat} (hi : i < h) : (snL W l h)[i]? = some (.int (sentL W l (i : Int))) := by
  unfold snL
  rw [List.getElem?_map, List.getElem?_range hi]
  rfl
theorem sent_take {W : WorldD} {l : List Trip} {i : Nat} {q : Trip} (h : l[i]? = some q) (p : Int) : sentL W (l.take (i + 1)) p = sentL W (l.take i) p + if q.2.2 = p then sizeT W q else 0 := by
  unfold sentL
  rw [List.take_add_one, h, Option.toList_some, List.map_append, List.sum_append]
  simp
theorem snL_set {W : WorldD} {l : List Trip} {h f i : Nat} {q : Trip} (hq : l[i]? = some q) (hf : f < h) (k : q.2.2 = (f : Int)) : (snL W (l.take i) h).set f (.int (sentL W (l.take i) (f : Int) + sizeT W q)) = snL W (l.take (i + 1)) h := by
  refine List.ext_getElem? fun j => ?_
  by_cases c : j < h
  · rw [snL_at c, sent_take hq, k]
    by_cases e1 : f = j
    · subst e1
      rw [List.getElem?_set_self (by rw [snL_len]; exact c), if_pos rfl]
    · rw [List.getElem?_set_ne e1, snL_at c, if_neg (by (clear hq hf c; omega)), Int.add_zero]
  · rw [List.getElem?_eq_none (by rw [List.length_set, snL_len]; (clear hq hf k; omega)), List.getElem?_eq_none (by rw [snL_len]; (clear hq hf k; omega))]
theorem snL_zero (W : WorldD) (h : Nat) : (List.replicate h [V.int 0]).flatten = snL W [] h := by
  rw [List.flatten_replicate_singleton]
  unfold snL
  have e : (fun (m : Nat) => V.int (sentL W [] (m : Int))) = fun _ => V.int 0 := by funext m; rfl
  rw [e, List.map_const', List.length_range]
section
variable {P : Program} {w : World} {K : PySem.W.Frag} {mg : Str → Option Value} {base : Heap} {CL CS CT CR CP CW aS aR fS fT fR fP : Addr}
def spMeet (K : PySem.W.Frag) : Sp := fun vs H Q _ => ∃ (a b : Addr) (x y : Int × Int), vs = [.ref a, .ref b] ∧ SqT K H a [.int x.1, .int x.2] ∧ SqT K H b [.int y.1, .int y.2] ∧ Q (.bl (decide (x.1 < y.2) && decide (y.1 < x.2))) H
theorem d_meet (B : Bt mg) (A : At K mg "meet" s_meet ["one", "other"]) : DefOk P w K mg base CX0 1 "meet" ["one", "other"] (spMeet K) := by
  refine A.ok sc_meet (fun vs H Q E h => ?_) (fun f cdv A outer s H vs Q E hr h => ?_)
  · obtain ⟨a, b, x, y, rfl, _⟩ := h
    rfl
  obtain ⟨a, b, x, y, rfl, ha, hb, q⟩ := h
  refine ⟨_, pss_one (ps_ret (pe_and (pe_cmpR op_lt (pe_ix ix_tup (pv 0) pe_int (fun _ _ => rfl)) (pe_ix ix_tup (pv 1) pe_int (fun _ _ => rfl)) (nomark _)) (pe_one (pe_cmpR op_lt (pe_ix ix_tup (pv 1) pe_int (fun _ _ => rfl)) (pe_ix ix_tup (pv 0) pe_int (fun _ _ => rfl)) (nomark _)))))
    , ?_⟩
  refine ⟨_, rfl, a, _, 0, _, rfl, rfl, ha, rfl, _, rfl, b, _, 1, _, rfl, rfl, hb, rfl, _, _, rfl, rfl, _, rfl, ite2 (fun k1 => ?_) (fun k1 => ?_)⟩
  · rw [show decide (x.1 < y.2) = true from k1, Bool.true_and] at q
    exact ⟨_, rfl, b, _, 0, _, rfl, rfl, hb, rfl, _, rfl, a, _, 1, _, rfl, rfl, ha, rfl, _, _, rfl, rfl, q⟩
  · rw [show decide (x.1 < y.2) = false from Bool.eq_false_iff.mpr k1, Bool.false_and] at q
    exact q
def spLength (K : PySem.W.Frag) : Sp := fun vs H Q _ => ∃ (a : Addr) (x : Int × Int) (n : Int), vs = [.ref a, .int n] ∧ SqT K H a [.int x.1, .int x.2] ∧ ∀ t H', Same H H' → SqT K H' t [.int x.1, .int (x.2 + n)] → Q (.ref t) H'
theorem d_lengthened (B : Bt mg) (A : At K mg "lengthened" s_lengthened ["span", "minutes"]) : DefOk P w K mg base CX0 1 "lengthened" ["span", "minutes"] (spLength K) := by
  refine A.ok sc_lengthened (fun vs H Q E h => ?_) (fun f cdv A outer s H vs Q E hr h => ?_)
  · obtain ⟨a, x, n, rfl, _⟩ := h
    rfl
  obtain ⟨a, x, n, rfl, ha, q⟩ := h
  refine ⟨_, pss_cons (ps_asg (pv 0) (pg_tup (by rfl) (pgs_cons (pg_name (i := 2) sc_lengthened.nd rfl (Or.inl rfl)) (pgs_cons (pg_name (i := 3) sc_lengthened.nd rfl (Or.inl rfl)) (pgs_nil)))))
  (pss_one (ps_ret (pe_tup (pa_cons (pv 2) (pa_cons (pe_op op_add (pv 3) (pv 1)) pa_nil)))))
    , ?_⟩
  refine ⟨_, rfl, a, _, rfl, ha, rfl, _, _, rfl, _, _, rfl, rfl, ?_⟩
  exact ⟨_, rfl, _, rfl, _, rfl, _, _, rfl, rfl, sz2_, fun t ht => q t _ (same_new ht _) (SqT.of upd_same)⟩
def spClose (K : PySem.W.Frag) : Sp := fun vs H Q _ => ∃ (a b : Addr) (x y : Int × Int) (n : Int), vs = [.ref a, .ref b, .int n] ∧ SqT K H a [.int x.1, .int x.2] ∧ SqT K H b [.int y.1, .int y.2] ∧ ∀ H', Same H H' → Q (.bl (closeB x y n)) H'
theorem d_too_close (B : Bt mg) (D_meet : DefOk P w K mg base CX0 1 "meet" ["one", "other"] (spMeet K)) (D_lengthened : DefOk P w K mg base CX0 1 "lengthened" ["span", "minutes"] (spLength K)) (A : At K mg "too_close" s_too_close ["span", "other", "minutes"]) : DefOk P w K mg base CX0 2 "too_close" ["span", "other", "minutes"] (spClose K) := by
  refine A.ok sc_too_close (fun vs H Q E h => ?_) (fun f cdv A outer s H vs Q E hr h => ?_)
  · obtain ⟨a, b, x, y, n, rfl, _⟩ := h
    rfl
  obtain ⟨a, b, x, y, n, rfl, ha, hb, q⟩ := h
  refine ⟨_, pss_one (ps_ret (pe_f D_meet (hr.mono (by omega)) pass0 (pa_cons (pe_f D_lengthened (hr.mono (by omega)) pass0 (pa_cons (pv 0) (pa_cons (pv 2) pa_nil))) (pa_cons (pe_f D_lengthened (hr.mono (by omega)) pass0 (pa_cons (pv 1) (pa_cons (pv 2) pa_nil))) pa_nil))))
    , ?_⟩
  refine ⟨_, rfl, _, rfl, a, x, n, rfl, ha, fun t H1 s1 h1 => ⟨_, rfl, _, rfl, b, y, n, rfl, Same.tup s1 hb, fun u H2 s2 h2 => ⟨t, u, (x.1, x.2 + n), (y.1, y.2 + n), rfl, Same.tup s2 h1, h2, q _ (s1.trans s2)⟩⟩⟩
def spBr (K : PySem.W.Frag) (CS CT CR CP CW : Addr) (g : WorldD → CaseD → List Br) : Sp := fun vs H Q _ => ∃ (ac : Addr) (v : V) (W : WorldD) (o : Bool) (c : CaseD), vs = [.ref ac, v] ∧ WorldOk W ∧ WorldAt K CS CT CR CP CW H ac W ∧ CaseG W o c ∧ Dp K H v (casePy c) ∧ ∀ D H', Same H H' → H D = none → DL K brPy H' D (g W c) → Q (.ref D) H'
set_option maxHeartbeats 8000000 in
theorem d_recbr (T : TxtW K mg CL CS CT CR CP CW aS aR fS fT fR fP) (D_is_filled : DefOk P w K mg base CX0 1 "is_filled" ["entry"] (spFilled K)) (D_is_option : DefOk P w K mg base CX0 1 "is_option" ["world", "number", "pair"] (spIsOption K CS CT CR CP CW))
    (A : At K mg "recording_breaches" s_recording_breaches ["world", "case"]) : DefOk P w K mg base CX0 2 "recording_breaches" ["world", "case"] (spBr K CS CT CR CP CW fun W c => recB W c W.recs.length) := by
  have B := T.L.B
  refine A.ok sc_recording_breaches (fun vs H Q E h => ?_) (fun f cdv A outer s H vs Q E hr h => ?_)
  · obtain ⟨ac, v, W, o, c, rfl, _⟩ := h
    rfl
  obtain ⟨ac, v, W, o, c, rfl, wok, hW, cg, hc, q⟩ := h
  obtain ⟨t, tm, tt, xm, xt, rfl, ht, hm, htt, hxm, hxt, lm, lt⟩ := case_two hc
  have nM := cg.nM
  have nT := cg.nT
  have nR := wok.nRecs
  refine ⟨_, pss_cons (ps_asg (pv 1) (pg_tup (by rfl) (pgs_cons (pg_name (i := 2) sc_recording_breaches.nd rfl (Or.inl rfl)) (pgs_cons (pg_name (i := 3) sc_recording_breaches.nd rfl (Or.inl rfl)) (pgs_nil)))))
  (pss_cons (ps_set (i := 4) sc_recording_breaches.nd rfl (Or.inl rfl) (pe_lst pa_nil))
  (pss_cons (ps_for PassesOwn.never rfl (pi_enumT (by rfl) B.enumerate (pa_cons (pv 2) pa_nil)) (pg_tup (by rfl) (pgs_cons (pg_name (i := 5) sc_recording_breaches.nd rfl (Or.inl rfl)) (pgs_cons (pg_name (i := 6) sc_recording_breaches.nd rfl (Or.inl rfl)) (pgs_nil))))
      (pss_cons (ps_if (pt_not (pt_val (pe_f D_is_filled (hr.mono (by omega)) pass0 (pa_cons (pv 6) pa_nil))))
          (pss_one (ps_continue))
          (pss_nil))
      (pss_cons (ps_asg (pv 6) (pg_tup (by rfl) (pgs_cons (pg_name (i := 7) sc_recording_breaches.nd rfl (Or.inl rfl)) (pgs_cons (pg_name (i := 8) sc_recording_breaches.nd rfl (Or.inl rfl)) (pgs_nil)))))
      (pss_one (ps_if (pt_not (pt_val (pe_f D_is_option (hr.mono (by omega)) pass0 (pa_cons (pv 0) (pa_cons (pv 5) (pa_cons (pv 6) pa_nil))))))
          (pss_one (ps_expr (pe_bm PySem.F.plainAttrs_list PySem.F.slot_list_append PySem.F.type_list_append mt_append (pv 4) (pa_cons (pe_tup (pa_cons pe_str (pa_cons (pv 5) pa_nil))) pa_nil))))
          (pss_one (ps_if (pt_cmpR op_isN (pe_ix ix_tup (pv 3) (pv 8) (fun _ _ => rfl)) pe_non (nomark _))
              (pss_one (ps_expr (pe_bm PySem.F.plainAttrs_list PySem.F.slot_list_append PySem.F.type_list_append mt_append (pv 4) (pa_cons (pe_tup (pa_cons pe_str (pa_cons (pv 5) pa_nil))) pa_nil))))
              (pss_nil))))))))
  (pss_one (ps_ret (pv 4)))))
    , ?_⟩
  refine ⟨_, rfl, t, _, rfl, ht, rfl, _, _, rfl, _, _, rfl, rfl, ?_⟩
  refine ⟨Nat.zero_le _, fun D hD => ?_⟩
  have sD := same_new hD (.lst [])
  refine ⟨_, rfl, tm, xm, rfl, Same.tup sD hm, ?_⟩
  refine for_it (walk_enumT (xs := xm)) (fun i σ H' => ∃ y5 y6 y7 y8, σ = [some (.ref ac), some (.ref t), some (.ref tm), some (.ref tt), some (.ref D), y5, y6, y7, y8] ∧ Same H H' ∧ DL K brPy H' D (recB W c i)) ⟨none, none, none, none, rfl, sD, DL.nil⟩ (fun i σ H' _ hI => ?_) (fun i v σ H1 H2 hi hI hy => ?_) (fun σ H1 hI => ?_)
  · obtain ⟨y5, y6, y7, y8, rfl, hs, _⟩ := hI
    exact Same.tup hs hm
  · obtain ⟨y5, y6, y7, y8, rfl, hs, hd⟩ := hI
    obtain ⟨tp, v, rfl, htp, rfl, hv⟩ := hy
    obtain ⟨e, he, hde⟩ := dpAll_get hxm hv
    obtain ⟨z, hz⟩ : ∃ z, W.recs[i]? = some z := ⟨_, List.getElem?_eq_getElem (by omega)⟩
    have sT := same_new htp (.tup [.int (0 + (i : Nat)), v])
    have sA := hs.trans sT
    have hdA := hd.same sT
    have hde := dp_same sA hde
    have eok := cg.mOk e (List.mem_of_getElem? he)
    have ll : (recB W c i).length ≤ i := rg_len (recBAt_len W c) i
    have ms : recB W c (i + 1) = recB W c i ++ recBAt W c i := rg_succ _ i
    have ma : recBAt W c i = match W.recs[i]?, c.made[i]? with | some z, some (.at_ s p) => if optB W z s p = true then (match c.taken[p.toNat]? with | some .non => [Br.unt i] | _ => []) else [.opt i] | _, _ => [] := rfl
    rw [hz, he] at ma
    refine ⟨tp, _, rfl, SqT.of upd_same, rfl, _, _, rfl, _, _, rfl, rfl, _, rfl, v, entM e, rfl, hde, lay_entM e, _, rfl, ?_⟩
    generalize (upd H1 tp (.tup [.int (0 + (i : Nat)), v])) = H3 at sA hdA hde
    cases e with
    | non =>
      refine iteT' rfl ⟨_, _, _, _, rfl, sA, ?_⟩
      rw [ms, ma]
      exact (List.append_nil _).symm ▸ hdA
    | opn =>
      refine iteT' rfl ⟨_, _, _, _, rfl, sA, ?_⟩
      rw [ms, ma]
      exact (List.append_nil _).symm ▸ hdA
    | at_ st p =>
      obtain ⟨h0, h1, h2, h3⟩ := eok
      obtain ⟨k, rfl⟩ : ∃ k : Nat, p = (k : Int) := ⟨p.toNat, by (clear T D_is_filled D_is_option B hr wok hW cg q hc ht hm htt hxm hxt lm lt nM nT nR hD sD hi hs hd htp hv hz sT ll ms sA hdA he ma hde h0 h1 h3; omega)⟩
      obtain ⟨y, hy⟩ : ∃ y, W.pass[k]? = some y := ⟨_, List.getElem?_eq_getElem (by (clear T D_is_filled D_is_option B hr wok hW cg q hc ht hm htt hxm hxt lm lt nM nT nR hD sD hi hs hd htp hv hz sT ll ms sA hdA h0 h1 he ma hde h2; omega))⟩
      obtain ⟨te, xe, rfl, hte, hxe⟩ := dp_tup hde
      have ex := dp_ints (ns := [st, (k : Int)]) hxe
      subst ex
      have eo : optB W z st (k : Int) = isOpt z st y := by
        unfold optB
        rw [Int.toNat_natCast, hy]
        dsimp only
        rw [decide_eq_true (Int.natCast_nonneg k), Bool.true_and]
      obtain ⟨et, het⟩ : ∃ et, c.taken[k]? = some et := ⟨_, List.getElem?_eq_getElem (by (clear T D_is_filled D_is_option B hr wok hW cg q hc ht hm htt hxm hxt lm lt nM nR hD sD hi hs hd htp hz ll ms sA hdA h0 h1 he ma h2 hy hv sT hde hte hxe eo; omega))⟩
      obtain ⟨yt, hyt, dyt⟩ := dpAll_get2 hxt het
      rw [show (match some z, some (EntM.at_ st (k : Int)) with | some z, some (.at_ s p) => if optB W z s p = true then (match c.taken[p.toNat]? with | some .non => [Br.unt i] | _ => []) else [.opt i] | _, _ => []) = if optB W z st (k : Int) = true then (match c.taken[(k : Int).toNat]? with | some .non => [Br.unt i] | _ => []) else [.opt i] from rfl, eo, Int.toNat_natCast, het] at ma
      refine iteF' rfl ⟨_, rfl, te, _, rfl, hte, rfl, _, _, rfl, _, _, rfl, rfl, ?_⟩
      obtain ⟨xs0, hx0, _⟩ := id hdA
      refine ⟨_, rfl, _, rfl, _, rfl, ac, te, W, i, k, z, y, st, by rw [Int.zero_add]; rfl, hW.same sA, hz, hy, hte, _, rfl, ?_⟩
      cases g : isOpt z st y with
      | false =>
        refine iteT' rfl ⟨_, rfl, .inl ⟨rfl, _, SqL.of hx0⟩, _, rfl, sz2_, fun a1 b1 => ?_⟩
        have sB := same_new b1 (.tup [.str "option", .int (0 + (i : Nat))])
        have tv : Dp K (upd H3 a1 (.tup [.str "option", .int (0 + (i : Nat))])) (.ref a1) (brPy (.opt i)) := .tup (SqT.of (by rw [upd_same, Int.zero_add])) (.cons (.str _) (.cons (.int _) .nil))
        obtain ⟨xs, g1, g2, g3⟩ := (hdA.same sB).push noL_br tv (by (clear T D_is_filled D_is_option B hr wok hW cg q hc ht hm htt hxm hxt lt nT hD sD hs hd htp hz ms sA hdA h0 h1 he h2 h3 hy hv sT hde hte hxe eo ma het hyt dyt hx0 g b1 sB tv; omega))
        refine ⟨D, xs, _, rfl, rfl, g1, g2, _, _, _, _, rfl, same_at hD (sA.trans sB) _, ?_⟩
        rw [ms, ma, g, if_neg Bool.false_ne_true]
        exact g3
      | true =>
        refine iteF' rfl ?_
        rw [g, if_pos rfl] at ma
        refine ⟨_, rfl, _, rfl, tt, xt, (k : Int), yt, rfl, rfl, Same.tup sA htt, atI_nat hyt, rfl, _, rfl, ?_⟩
        have dyt := dp_same sA dyt
        cases et with
        | non =>
          cases dyt
          refine iteT' rfl ⟨_, rfl, .inl ⟨rfl, _, SqL.of hx0⟩, _, rfl, sz2_, fun a1 b1 => ?_⟩
          have sB := same_new b1 (.tup [.str "untaken", .int (0 + (i : Nat))])
          have tv : Dp K (upd H3 a1 (.tup [.str "untaken", .int (0 + (i : Nat))])) (.ref a1) (brPy (.unt i)) := .tup (SqT.of (by rw [upd_same, Int.zero_add])) (.cons (.str _) (.cons (.int _) .nil))
          obtain ⟨xs, g1, g2, g3⟩ := (hdA.same sB).push noL_br tv (by (clear T D_is_filled D_is_option B hr wok hW cg q hc ht hm htt hxm hxt lt nT hD sD hs hd htp hz ms sA hdA h0 h1 he h2 h3 hy hv sT hde hte hxe eo hx0 g ma het hyt dyt b1 sB tv; omega))
          refine ⟨D, xs, _, rfl, rfl, g1, g2, _, _, _, _, rfl, same_at hD (sA.trans sB) _, ?_⟩
          rw [ms, ma]
          exact g3
        | opn =>
          cases dyt
          refine iteF' rfl ⟨_, _, _, _, rfl, sA, ?_⟩
          rw [ms, ma]
          exact (List.append_nil _).symm ▸ hdA
        | ant n =>
          cases dyt
          refine iteF' rfl ⟨_, _, _, _, rfl, sA, ?_⟩
          rw [ms, ma]
          exact (List.append_nil _).symm ▸ hdA
  · obtain ⟨y5, y6, y7, y8, rfl, hs, hd⟩ := hI
    rw [lm, nM] at hd
    exact ⟨_, rfl, q D _ hs hD hd⟩
def spSizes (K : PySem.W.Frag) (CS CT CR CP CW : Addr) : Sp := fun vs H Q _ => ∃ (ac : Addr) (v : V) (W : WorldD) (o : Bool) (c : CaseD), vs = [.ref ac, v] ∧ WorldOk W ∧ WorldAt K CS CT CR CP CW H ac W ∧ CaseG W o c ∧ Dp K H v (casePy c) ∧ ∀ D H', Same H H' → H D = none → H' D = some (.lst (snL W (madeL W c W.recs.length) W.pass.length)) → Q (.ref D) H'
set_option maxHeartbeats 8000000 in
theorem d_sizes (T : TxtW K mg CL CS CT CR CP CW aS aR fS fT fR fP) (D_made_recordings : DefOk P w K mg base CX0 2 "made_recordings" ["world", "case"] (spMade K CS CT CR CP CW)) (A : At K mg "sent_sizes" s_sent_sizes ["world", "case"]) : DefOk P w K mg base CX0 3 "sent_sizes" ["world", "case"] (spSizes K CS CT CR CP CW) := by
  have B := T.L.B
  refine A.ok sc_sent_sizes (fun vs H Q E h => ?_) (fun f cdv A outer s H vs Q E hr h => ?_)
  · obtain ⟨ac, v, W, o, c, rfl, _⟩ := h
    rfl
  obtain ⟨ac, v, W, o, c, rfl, wok, hW, cg, hc, q⟩ := h
  obtain ⟨dx, t0, t1, t2, t3, x0, x1, x2, x3, gw, _, _, _, _, p2, q2, p3, q3⟩ := hW.ex
  have l3 := paired_len q3
  have nP := wok.nPass
  refine ⟨_, pss_cons (ps_set (i := 2) sc_sent_sizes.nd rfl (Or.inl rfl) (pe_op op_rep (pe_lst (pa_cons pe_int pa_nil)) (pe_callB (call_len_seq) (by rfl) B.len (by decide +kernel) (pa_cons (pe_fld (pv 0) rfl) pa_nil))))
  (pss_cons (ps_for PassesOwn.never rfl (pi_list (pe_f D_made_recordings (hr.mono (by omega)) pass0 (pa_cons (pv 0) (pa_cons (pv 1) pa_nil)))) (pg_tup (by rfl) (pgs_cons (pg_name (i := 3) sc_sent_sizes.nd rfl (Or.inl rfl)) (pgs_cons (pg_name (i := 4) sc_sent_sizes.nd rfl (Or.inl rfl)) (pgs_cons (pg_name (i := 5) sc_sent_sizes.nd rfl (Or.inl rfl)) (pgs_nil)))))
      (pss_one (ps_augS (pv 2) (pv 5) pget_list (pe_fld (pe_ix ix_tup (pe_fld (pv 0) rfl) (pv 3) (fun _ _ => rfl)) rfl) ip_add set_list)))
  (pss_one (ps_ret (pv 2))))
    , ?_⟩
  refine ⟨(by show 1 ≤ sizeLine; decide), fun p hp => ?_⟩
  have sp := same_new hp (.lst [.int 0])
  refine ⟨_, rfl, ac, CW, dx, _, _, rfl, sp _ _ gw, T.c_World.cl, T.n_World_passes, lk_World_passes, t3, x3, rfl, .inr (Same.tup sp p3), p, (x3.length : Int), [.int 0], rfl, rfl, upd_same, by omega, by omega, (by show 1 * _ ≤ _; rw [Nat.one_mul]; exact small (by omega)), fun D hD => ?_⟩
  rw [Int.toNat_natCast, snL_zero W, l3]
  have s1 := sp.trans (same_new hD (.lst (snL W [] W.pass.length)))
  have nD := sp.free hD
  refine ⟨_, rfl, _, rfl, ac, v, W, o, c, rfl, wok, hW.same s1, cg, dp_same s1 hc, fun M H1 s2 nM hM => ?_⟩
  obtain ⟨xm, hM1, hM2⟩ := hM
  have lM := dpAll_len hM2
  rw [List.length_map] at lM
  have nMD : M ≠ D := fun z => by rw [z, upd_same] at nM; cases nM
  have hD1 := s2 _ _ (show (upd (upd H p (.lst [.int 0])) D (.lst (snL W [] W.pass.length))) D = some (.lst (snL W [] W.pass.length)) from upd_same)
  refine ⟨M, rfl, ⟨_, SqL.of hM1⟩, ?_⟩
  refine for_it (walk_list (K := K) (a := M) (xs := xm)) (fun i σ H' => ∃ y3 y4 y5, σ = [some (.ref ac), some v, some (.ref D), y3, y4, y5] ∧ SameX D H1 H' ∧ H' D = some (.lst (snL W ((madeL W c W.recs.length).take i) W.pass.length))) ⟨none, none, none, rfl, SameX.refl _ _, hD1⟩ (fun i σ H' _ hI => ?_) (fun i v' σ H2 H3 hi hI hy => ?_) (fun σ H2 hI => ?_)
  · obtain ⟨y3, y4, y5, rfl, hs, _⟩ := hI
    exact SqL.of (hs _ _ nMD hM1)
  · obtain ⟨y3, y4, y5, rfl, hs, hDD⟩ := hI
    obtain ⟨rfl, hx⟩ := hy
    obtain ⟨q1, hq1, dq1⟩ := dpAll_get (dpAll_sx (noLs_map noL_trip _) hD1 hs hM2) hx
    obtain ⟨r0, z, y, hz, hy2, p0, ho⟩ := mem_made (List.mem_of_getElem? hq1)
    obtain ⟨tt, rfl, htt⟩ := dp_trip dq1
    have hsH := sx_same (s1.trans s2) nD hs
    obtain ⟨ob, od, hob, o1⟩ := rec_at q2 hz
    have hlt := (List.getElem?_eq_some_iff.mp hy2).1
    obtain ⟨f, ef⟩ : ∃ f : Nat, q1.2.2 = (f : Int) := ⟨q1.2.2.toNat, by (clear T D_made_recordings B hr wok hW cg hc q gw p2 q2 p3 q3 l3 nP hp sp hD s1 nD s2 nM hM1 hM2 lM nMD hD1 hi hs hDD hq1 r0 hz hy2 ho htt hx dq1 hsH hob o1 hlt; omega)⟩
    have hf : f < W.pass.length := by (clear T D_made_recordings B hr wok hW cg hc q gw p2 q2 p3 q3 l3 nP hp sp hD s1 nD s2 nM hM1 hM2 lM nMD hD1 hi hs hDD hq1 r0 hz hy2 ho htt hx dq1 hsH hob o1; omega)
    have ez : sizeT W q1 = z.size := by
      unfold sizeT
      rw [hz]
      rfl
    have j1 : ixN (snL W ((madeL W c W.recs.length).take i) W.pass.length).length (f : Int) = some f := by
      unfold ixN
      rw [snL_len, if_pos (by (clear T D_made_recordings B hr wok hW cg hc q gw p2 q2 p3 q3 l3 nP hp sp hD s1 nD s2 nM hM1 hM2 lM nMD hD1 hi hs hDD hq1 r0 hz hy2 ho htt hx dq1 hsH hob o1 hlt hf ez; omega)), if_pos (by (clear T D_made_recordings B hr wok hW cg hc q gw p2 q2 p3 q3 l3 nP hp sp hD s1 nD s2 nM hM1 hM2 lM nMD hD1 hi hs hDD hq1 r0 hz hy2 p0 ho htt hx dq1 hsH hob o1 hlt ef ez; omega))]
      congr 1
    refine ⟨tt, _, rfl, htt, rfl, _, _, rfl, _, _, rfl, _, _, rfl, rfl, ?_⟩
    rw [ef]
    refine ⟨_, rfl, _, rfl, D, _, f, _, rfl, rfl, SqL.of hDD, snL_at hf, _, rfl, ac, CW, dx, _, _, rfl, hsH _ _ gw, T.c_World.cl, T.n_World_recordings, lk_World_recordings, _, rfl, t2, x2, (q1.1 : Int), _, rfl, rfl, Same.tup hsH p2, atI_nat hob, ob, CR, od, _, _, rfl, hsH _ _ o1, T.c_Recording.cl, T.n_Recording_size, lk_Recording_size, _, _, rfl, rfl, D, _, _, f, rfl, rfl, hDD, j1, ?_⟩
    refine ⟨_, _, _, rfl, hs.at_, ?_⟩
    rw [upd_same, ← snL_set hq1 hf ef, ez]
  · obtain ⟨y3, y4, y5, rfl, hs, hDD⟩ := hI
    rw [lM, List.take_length] at hDD
    exact ⟨_, rfl, q D _ (sx_same (s1.trans s2) nD hs) nD hDD⟩
set_option maxHeartbeats 8000000 in
theorem d_pasbr (T : TxtW K mg CL CS CT CR CP CW aS aR fS fT fR fP) (D_sent_sizes : DefOk P w K mg base CX0 3 "sent_sizes" ["world", "case"] (spSizes K CS CT CR CP CW)) (D_is_filled : DefOk P w K mg base CX0 1 "is_filled" ["entry"] (spFilled K)) (D_has_antenna : DefOk P w K mg base CX0 1 "has_antenna" ["world", "p", "antenna"] (spHasAnt K CS CT CR CP CW))
    (A : At K mg "pass_breaches" s_pass_breaches ["world", "case"]) : DefOk P w K mg base CX0 4 "pass_breaches" ["world", "case"] (spBr K CS CT CR CP CW fun W c => pasB W c W.pass.length) := by
  have B := T.L.B
  refine A.ok sc_pass_breaches (fun vs H Q E h => ?_) (fun f cdv A outer s H vs Q E hr h => ?_)
  · obtain ⟨ac, v, W, o, c, rfl, _⟩ := h
    rfl
  obtain ⟨ac, v, W, o, c, rfl, wok, hW, cg, hc, q⟩ := h
  obtain ⟨dx, t0, t1, t2, t3, x0, x1, x2, x3, gw, _, _, _, _, p2, q2, p3, q3⟩ := hW.ex
  obtain ⟨t, tm, tt, xm, xt, rfl, ht, hm, htt, hxm, hxt, lm, lt⟩ := case_two hc
  have nT := cg.nT
  have nP := wok.nPass
  refine ⟨_, pss_cons (ps_set (i := 2) sc_pass_breaches.nd rfl (Or.inl rfl) (pe_f D_sent_sizes (hr.mono (by omega)) pass0 (pa_cons (pv 0) (pa_cons (pv 1) pa_nil))))
  (pss_cons (ps_set (i := 3) sc_pass_breaches.nd rfl (Or.inl rfl) (pe_lst pa_nil))
  (pss_cons (ps_for PassesOwn.never rfl (pi_enumT (by rfl) B.enumerate (pa_cons (pe_ix ix_tup (pv 1) pe_int (fun _ _ => rfl)) pa_nil)) (pg_tup (by rfl) (pgs_cons (pg_name (i := 4) sc_pass_breaches.nd rfl (Or.inl rfl)) (pgs_cons (pg_name (i := 5) sc_pass_breaches.nd rfl (Or.inl rfl)) (pgs_nil))))
      (pss_cons (ps_if (pt_not (pt_val (pe_f D_is_filled (hr.mono (by omega)) pass0 (pa_cons (pv 5) pa_nil))))
          (pss_one (ps_continue))
          (pss_nil))
      (pss_one (ps_if (pt_not (pt_val (pe_f D_has_antenna (hr.mono (by omega)) pass0 (pa_cons (pv 0) (pa_cons (pv 4) (pa_cons (pv 5) pa_nil))))))
          (pss_one (ps_expr (pe_bm PySem.F.plainAttrs_list PySem.F.slot_list_append PySem.F.type_list_append mt_append (pv 3) (pa_cons (pe_tup (pa_cons pe_str (pa_cons (pv 4) pa_nil))) pa_nil))))
          (pss_one (ps_if (pt_cmpR op_gt (pe_ix ix_list (pv 2) (pv 4) (fun _ _ => rfl)) (pe_fld (pe_ix ix_tup (pe_fld (pv 0) rfl) (pv 4) (fun _ _ => rfl)) rfl) (nomark _))
              (pss_one (ps_expr (pe_bm PySem.F.plainAttrs_list PySem.F.slot_list_append PySem.F.type_list_append mt_append (pv 3) (pa_cons (pe_tup (pa_cons pe_str (pa_cons (pv 4) pa_nil))) pa_nil))))
              (pss_nil)))))))
  (pss_one (ps_ret (pv 3)))))
    , ?_⟩
  refine ⟨_, rfl, _, rfl, ac, _, W, o, c, rfl, wok, hW, cg, hc, fun M H1 s1 nM hM => ?_⟩
  refine ⟨Nat.zero_le _, fun D hD => ?_⟩
  have sD := s1.trans (same_new hD (.lst []))
  have nD := s1.free hD
  have nMD : M ≠ D := ne_of_none hM hD
  have hM2 := same_new hD (.lst []) _ _ hM
  have hD1 : (upd H1 D (.lst [])) D = some (.lst []) := upd_same
  generalize hG : upd H1 D (.lst []) = H2 at sD hM2 hD1
  refine ⟨_, rfl, t, _, 1, _, rfl, rfl, Same.tup sD ht, rfl, tt, xt, rfl, Same.tup sD htt, ?_⟩
  refine for_it (walk_enumT (xs := xt)) (fun i σ H' => ∃ y4 y5, σ = [some (.ref ac), some (.ref t), some (.ref M), some (.ref D), y4, y5] ∧ SameX D H2 H' ∧ DL K brPy H' D (pasB W c i)) ⟨none, none, rfl, SameX.refl _ _, [], hD1, .nil⟩ (fun i σ H' _ hI => ?_) (fun i v σ H3 H4 hi hI hy => ?_) (fun σ H3 hI => ?_)
  · obtain ⟨y4, y5, rfl, hs, _⟩ := hI
    exact Same.tup (sx_same sD nD hs) htt
  · obtain ⟨y4, y5, rfl, hs, hd⟩ := hI
    obtain ⟨tp, v, rfl, htp, rfl, hv⟩ := hy
    obtain ⟨e, he, hde⟩ := dpAll_get hxt hv
    have hi' : i < W.pass.length := by (clear T D_sent_sizes D_is_filled D_has_antenna B hr wok hW cg q gw p2 q2 p3 q3 hc ht hm htt hxm hxt lm nP s1 nM hM hD nD nMD hG sD hM2 hD1 hs hd htp hv he hde; omega)
    obtain ⟨z, hz⟩ : ∃ z, W.pass[i]? = some z := ⟨_, List.getElem?_eq_getElem hi'⟩
    have zok := wok.pass z (List.mem_of_getElem? hz)
    obtain ⟨st, hst⟩ : ∃ st, W.stas[z.sta]? = some st := ⟨_, List.getElem?_eq_getElem zok.sta⟩
    have sT := same_new htp (.tup [.int (0 + (i : Nat)), v])
    have hs2 := hs.trans (SameX.of sT)
    have sA := sx_same sD nD hs2
    have hdA := hd.same sT
    have hde := dp_same sA hde
    have hMA := hs2 _ _ nMD hM2
    have ll : (pasB W c i).length ≤ i := rg_len (pasBAt_len W c) i
    have ms : pasB W c (i + 1) = pasB W c i ++ pasBAt W c i := rg_succ _ i
    have ma : pasBAt W c i = match W.pass[i]?, c.taken[i]? with | some z, some (.ant _) => if antB W c i = true then (if z.room < sentL W (madeL W c W.recs.length) (i : Int) then [Br.room i] else []) else [.ant i] | _, _ => [] := rfl
    have an : antB W c i = match W.pass[i]?, c.taken[i]? with | some z, some (.ant n) => (match W.stas[z.sta]? with | some t => decide (0 ≤ n) && decide (n < t.antennas) | none => false) | _, _ => false := rfl
    rw [hz, he] at ma an
    refine ⟨tp, _, rfl, SqT.of upd_same, rfl, _, _, rfl, _, _, rfl, rfl, _, rfl, v, entT e, rfl, hde, lay_entT e, _, rfl, ?_⟩
    generalize (upd H3 tp (.tup [.int (0 + (i : Nat)), v])) = H5 at hs2 sA hdA hde hMA
    cases e with
    | non =>
      refine iteT' rfl ⟨_, _, rfl, hs2, ?_⟩
      rw [ms, ma]
      exact (List.append_nil _).symm ▸ hdA
    | opn =>
      refine iteT' rfl ⟨_, _, rfl, hs2, ?_⟩
      rw [ms, ma]
      exact (List.append_nil _).symm ▸ hdA
    | ant n =>
      cases hde
      have an2 : antB W c i = (decide (0 ≤ n) && decide (n < st.antennas)) := by
        rw [an]
        dsimp only
        rw [hst]
      obtain ⟨xs0, hx0, _⟩ := id hdA
      obtain ⟨pb, pd, ts, hpb, c1, c2⟩ := pas_at q3 hz
      refine iteF' rfl ⟨_, rfl, _, rfl, _, rfl, ac, W, i, n, z, st, by rw [Int.zero_add]; rfl, hW.same sA, hz, hst, _, rfl, ?_⟩
      rw [← an2]
      dsimp only at ma
      cases g : antB W c i with
      | false =>
        refine iteT' rfl ⟨_, rfl, .inl ⟨rfl, _, SqL.of hx0⟩, _, rfl, sz2_, fun a1 b1 => ?_⟩
        have sB := same_new b1 (.tup [.str "antenna", .int (0 + (i : Nat))])
        have tv : Dp K (upd H5 a1 (.tup [.str "antenna", .int (0 + (i : Nat))])) (.ref a1) (brPy (.ant i)) := .tup (SqT.of (by rw [upd_same, Int.zero_add])) (.cons (.str _) (.cons (.int _) .nil))
        obtain ⟨xs, g1, g2, g3⟩ := (hdA.same sB).push noL_br tv (by (clear T D_sent_sizes D_is_filled D_has_antenna B hr wok hW cg q gw p2 q2 p3 q3 hc ht hm htt hxm hxt lm s1 nM hM hD nD nMD hG sD hM2 hD1 hs hd htp hi' hz zok hst ms hs2 sA hdA hMA he ma an hv sT hde an2 hx0 hpb c1 c2 g b1 sB tv; omega))
        refine ⟨D, xs, _, rfl, rfl, g1, g2, _, _, rfl, (hs2.trans (SameX.of sB)).at_, ?_⟩
        rw [ms, ma, g, if_neg Bool.false_ne_true]
        exact g3
      | true =>
        rw [g, if_pos rfl] at ma
        refine iteF' rfl ⟨_, rfl, _, rfl, M, _, _, _, rfl, rfl, SqL.of hMA, (by rw [Int.zero_add]; exact atI_nat (snL_at hi')), _, rfl, ac, CW, dx, _, _, rfl, sA _ _ gw, T.c_World.cl, T.n_World_passes, lk_World_passes, _, rfl, t3, x3, (i : Int), _, rfl, by rw [Int.zero_add], Same.tup sA p3, atI_nat hpb, pb, CP, pd, _, _, rfl, sA _ _ c1, T.c_Pass.cl, T.n_Pass_room, lk_Pass_room, _, _, rfl, rfl, _, rfl, ite2 (fun k1 => ?_) (fun k1 => ?_)⟩
        · have k1 : z.room < sentL W (madeL W c W.recs.length) (i : Int) := of_decide_eq_true k1
          refine ⟨_, rfl, .inl ⟨rfl, _, SqL.of hx0⟩, _, rfl, sz2_, fun a1 b1 => ?_⟩
          have sB := same_new b1 (.tup [.str "room", .int (0 + (i : Nat))])
          have tv : Dp K (upd H5 a1 (.tup [.str "room", .int (0 + (i : Nat))])) (.ref a1) (brPy (.room i)) := .tup (SqT.of (by rw [upd_same, Int.zero_add])) (.cons (.str _) (.cons (.int _) .nil))
          obtain ⟨xs, g1, g2, g3⟩ := (hdA.same sB).push noL_br tv (by (clear T D_sent_sizes D_is_filled D_has_antenna B hr wok hW cg q gw p2 q2 p3 q3 hc ht hm htt hxm hxt lm s1 nM hM hD nD nMD hG sD hM2 hD1 hs hd htp hi' hz zok hst ms hs2 sA hdA hMA he ma an hv sT hde an2 hx0 hpb c1 c2 g k1 b1 sB tv; omega))
          refine ⟨D, xs, _, rfl, rfl, g1, g2, _, _, rfl, (hs2.trans (SameX.of sB)).at_, ?_⟩
          rw [ms, ma, if_pos k1]
          exact g3
        · have k1 : ¬ z.room < sentL W (madeL W c W.recs.length) (i : Int) := fun h => k1 (decide_eq_true h)
          refine ⟨_, _, rfl, hs2, ?_⟩
          rw [ms, ma, if_neg k1, List.append_nil]
          exact hdA
  · obtain ⟨y4, y5, rfl, hs, hd⟩ := hI
    rw [lt, nT] at hd
    exact ⟨_, rfl, q D _ (sx_same sD nD hs) nD hd⟩
end
end DP
namespace DP
open PySem PySem.Spec PyProof.Rows L2
abbrev s_on_one_antenna : Stmt := topS 74
theorem sc_on_one_antenna : FnScope ["world", "case", "p", "other", "taken"] ["world", "case", "p", "other"] (defScope s_on_one_antenna) := ⟨rfl, rfl, rfl, by decide +kernel, rfl, by decide +kernel, by decide +kernel⟩
abbrev s_too_close_to_turn : Stmt := topS 75
theorem sc_too_close_to_turn : FnScope ["world", "p", "other", "chance", "turn"] ["world", "p", "other"] (defScope s_too_close_to_turn) := ⟨rfl, rfl, rfl, by decide +kernel, rfl, by decide +kernel, by decide +kernel⟩
abbrev s_turn_breaches : Stmt := topS 73
theorem sc_turn_breaches : FnScope ["world", "case", "numbers", "found", "at", "p", "other"] ["world", "case"] (defScope s_turn_breaches) := ⟨rfl, rfl, rfl, by decide +kernel, rfl, by decide +kernel, by decide +kernel⟩
abbrev s_busy_breaches : Stmt := topS 77
theorem sc_busy_breaches : FnScope ["world", "case", "number", "settle", "things", "found", "at", "thing", "span", "other", "other_span"] ["world", "case", "number"] (defScope s_busy_breaches) := ⟨rfl, rfl, rfl, by decide +kernel, rfl, by decide +kernel, by decide +kernel⟩
section
variable {α β : Type}
def pairsI (g : α → α → List β) (l : List α) (i : Nat) : List β := (List.range i).flatMap fun k => match l[k]? with
  | some a => (l.drop (k + 1)).flatMap (g a)
  | none => []
def pairsL (g : α → α → List β) : List α → List β
  | [] => []
  | a :: l => l.flatMap (g a) ++ pairsL g l
theorem pairsI_succ {g : α → α → List β} {l : List α} {i : Nat} {a : α} (h : l[i]? = some a) : pairsI g l (i + 1) = pairsI g l i ++ (l.drop (i + 1)).flatMap (g a) := by
  unfold pairsI
  rw [rg_succ, h]
theorem pairsI_all (g : α → α → List β) : ∀ l : List α, pairsI g l l.length = pairsL g l
  | [] => rfl
  | a :: l => by
    have ih := pairsI_all g l
    unfold pairsI at ih ⊢
    rw [List.length_cons, List.range_succ_eq_map, List.flatMap_cons, List.flatMap_map]
    show (l.flatMap (g a)) ++ _ = l.flatMap (g a) ++ pairsL g l
    rw [← ih]
    rfl
theorem fm_if {p : α → Bool} {f : α → List β} : ∀ l : List α, (l.filter p).flatMap f = l.flatMap fun b => if p b = true then f b else []
  | [] => rfl
  | a :: l => by
    rw [List.filter_cons, List.flatMap_cons, ← fm_if l]
    cases e : p a with
    | true => rw [if_pos rfl, if_pos rfl, List.flatMap_cons]
    | false => rw [if_neg Bool.false_ne_true, if_neg Bool.false_ne_true, List.nil_append]
theorem pairsL_filter {g : α → α → List β} {p : α → Bool} : ∀ l : List α, pairsL g (l.filter p) = pairsL (fun a b => if (p a && p b) = true then g a b else []) l
  | [] => rfl
  | a :: l => by
    have ih := pairsL_filter (g := g) (p := p) l
    rw [List.filter_cons]
    cases e : p a with
    | true =>
      rw [if_pos rfl]
      show (l.filter p).flatMap (g a) ++ pairsL g (l.filter p) = l.flatMap (fun b => if (p a && p b) = true then g a b else []) ++ _
      rw [ih, fm_if, e]
      have z : (fun b => if p b = true then g a b else []) = fun b => if (true && p b) = true then g a b else [] := by
        funext b
        rw [Bool.true_and]
      rw [z]
    | false =>
      rw [if_neg Bool.false_ne_true, ih]
      show _ = l.flatMap (fun b => if (p a && p b) = true then g a b else []) ++ _
      have z : l.flatMap (fun b => if (p a && p b) = true then g a b else []) = ([] : List β) := by
        rw [List.flatMap_eq_nil_iff]
        intro b _
        rw [e, Bool.false_and, if_neg Bool.false_ne_true]
      rw [z, List.nil_append]
theorem pairsI_len {g : α → α → List β} (h : ∀ a b, (g a b).length ≤ 1) (l : List α) : ∀ i, (pairsI g l i).length ≤ i * l.length
  | 0 => by show 0 ≤ _; exact Nat.zero_le _
  | i + 1 => by
    have ih := pairsI_len h l i
    unfold pairsI at ih ⊢
    rw [rg_succ, List.length_append, Nat.succ_mul]
    have : (match l[i]? with | some a => (l.drop (i + 1)).flatMap (g a) | none => []).length ≤ l.length := by
      split
      · rename_i a ha
        refine Nat.le_trans (flat_len1 (h a) _) ?_
        rw [List.length_drop]
        (clear h ih ha; omega)
      · exact Nat.zero_le _
    omega
end
theorem cut_drop {xs : List V} {i : Nat} : cutV xs (some (i : Int)) none = xs.drop i := by
  unfold cutV
  rw [show HT.sIx xs.length 0 (some (i : Int)) = min i xs.length from HT.sIx_nat _ 0 i, HT.sIx_none]
  by_cases c : i ≤ xs.length
  · rw [Nat.min_eq_left c]
    exact List.take_of_length_le (by rw [List.length_drop]; omega)
  · rw [Nat.min_eq_right (by omega), Nat.sub_self, List.take_zero]
    exact (List.drop_eq_nil_of_le (by omega)).symm
def turnOf (W : WorldD) (s : Nat) : Int := ((W.stas[s]?).map (·.turn)).getD 0
def turnC (W : WorldD) (c : CaseD) (p q : Nat) : Bool := match W.pass[p]?, W.pass[q]?, c.taken[p]?, c.taken[q]? with
  | some z, some y, some (.ant n), some (.ant m) => (decide ((z.sta : Int) = (y.sta : Int)) && decide (n = m)) && closeB (z.first, z.fin) (y.first, y.fin) (turnOf W z.sta)
  | _, _, _, _ => false
def turnG (W : WorldD) (c : CaseD) (p q : Nat) : List Br := if turnC W c p q = true then [.turn p q] else []
def turnB (W : WorldD) (c : CaseD) : List Br := pairsI (turnG W c) (takL W c W.pass.length) (takL W c W.pass.length).length
theorem turnG_len (W : WorldD) (c : CaseD) (p q : Nat) : (turnG W c p q).length ≤ 1 := by
  unfold turnG
  split <;> simp
def settleOf (W : WorldD) (s : Nat) : Int := ((W.sats[s]?).map (·.settle)).getD 0
def busyG (W : WorldD) (s : Nat) (x y : Thing) : List Br := if closeB (x.2.2.1, x.2.2.2) (y.2.2.1, y.2.2.2) (settleOf W s) = true then [.busy (x.1, x.2.1) (y.1, y.2.1)] else []
def busyB (W : WorldD) (c : CaseD) (s : Nat) : List Br := pairsI (busyG W s) (busyL W c s) (busyL W c s).length
theorem busyG_len (W : WorldD) (s : Nat) (x y : Thing) : (busyG W s x y).length ≤ 1 := by
  unfold busyG
  split <;> simp
theorem ant_of {W : WorldD} {c : CaseD} {p : Nat} (h : antB W c p = true) : ∃ z n st, W.pass[p]? = some z ∧ c.taken[p]? = some (.ant n) ∧ W.stas[z.sta]? = some st ∧ 0 ≤ n ∧ n < st.antennas := by
  unfold antB at h
  split at h
  · rename_i z n hz hn
    split at h
    · rename_i st hst
      obtain ⟨h1, h2⟩ := Bool.and_eq_true_iff.mp h
      exact ⟨z, n, st, hz, hn, hst, of_decide_eq_true h1, of_decide_eq_true h2⟩
    · cases h
  · cases h
section
variable {P : Program} {w : World} {K : PySem.W.Frag} {mg : Str → Option Value} {base : Heap} {CL CS CT CR CP CW aS aR fS fT fR fP : Addr}
def spOne (K : PySem.W.Frag) (CS CT CR CP CW : Addr) : Sp := fun vs H Q _ => ∃ (ac : Addr) (v : V) (W : WorldD) (c : CaseD) (p q : Nat) (z y : PasD) (n m : Int), vs = [.ref ac, v, .int (p : Int), .int (q : Int)] ∧ WorldAt K CS CT CR CP CW H ac W ∧ Dp K H v (casePy c) ∧ W.pass[p]? = some z ∧ W.pass[q]? = some y ∧ c.taken[p]? = some (.ant n) ∧ c.taken[q]? = some (.ant m) ∧
  Q (.bl (decide ((z.sta : Int) = (y.sta : Int)) && decide (n = m))) H
theorem d_one (T : TxtW K mg CL CS CT CR CP CW aS aR fS fT fR fP) (A : At K mg "on_one_antenna" s_on_one_antenna ["world", "case", "p", "other"]) : DefOk P w K mg base CX0 1 "on_one_antenna" ["world", "case", "p", "other"] (spOne K CS CT CR CP CW) := by
  have B := T.L.B
  refine A.ok sc_on_one_antenna (fun vs H Q E h => ?_) (fun f cdv A outer s H vs Q E hr h => ?_)
  · obtain ⟨ac, v, W, c, p, q, z, y, n, m, rfl, _⟩ := h
    rfl
  obtain ⟨ac, v, W, c, p, q', z, y, n, m, rfl, hW, hc, hz, hy, hn, hm', q⟩ := h
  obtain ⟨dx, t0, t1, t2, t3, x0, x1, x2, x3, gw, _, _, _, _, p2, q2, p3, q3⟩ := hW.ex
  obtain ⟨t, tm, tt, xm, xt, rfl, ht, hm, htt, hxm, hxt, lm, lt⟩ := case_two hc
  obtain ⟨pb, pd, ts, hpb, c1, c2⟩ := pas_at q3 hz
  obtain ⟨pb2, pd2, ts2, hpb2, k1, k2⟩ := pas_at q3 hy
  obtain ⟨y1, hy1, dy1⟩ := dpAll_get2 hxt hn
  obtain ⟨y2, hy2, dy2⟩ := dpAll_get2 hxt hm'
  cases dy1
  cases dy2
  refine ⟨_, pss_cons (ps_set (i := 4) sc_on_one_antenna.nd rfl (Or.inl rfl) (pe_ix ix_tup (pv 1) pe_int (fun _ _ => rfl)))
  (pss_one (ps_ret (pe_and (pe_cmpR op_eq (pe_fld (pe_ix ix_tup (pe_fld (pv 0) rfl) (pv 2) (fun _ _ => rfl)) rfl) (pe_fld (pe_ix ix_tup (pe_fld (pv 0) rfl) (pv 3) (fun _ _ => rfl)) rfl) (nomark _)) (pe_one (pe_cmpR op_eq (pe_ix ix_tup (pv 4) (pv 2) (fun _ _ => rfl)) (pe_ix ix_tup (pv 4) (pv 3) (fun _ _ => rfl)) (nomark _))))))
    , ?_⟩
  refine ⟨_, rfl, t, _, 1, _, rfl, rfl, ht, rfl, ?_⟩
  refine ⟨_, rfl, ac, CW, dx, _, _, rfl, gw, T.c_World.cl, T.n_World_passes, lk_World_passes, _, rfl, t3, x3, (p : Int), _, rfl, rfl, p3, atI_nat hpb, pb, CP, pd, _, _, rfl, c1, T.c_Pass.cl, T.n_Pass_station, lk_Pass_station, _, rfl, ac, CW, dx, _, _, rfl, gw, T.c_World.cl, T.n_World_passes, lk_World_passes, _, rfl, t3, x3, (q' : Int), _, rfl, rfl, p3, atI_nat hpb2, pb2, CP, pd2, _, _, rfl, k1, T.c_Pass.cl, T.n_Pass_station, lk_Pass_station, rfl, _, rfl, ?_⟩
  have e0 : ∀ a b : Int, decide (V.int a = V.int b) = decide (a = b) := fun a b => decide_eq_decide.mpr ⟨fun h => V.int.inj h, fun h => by rw [h]⟩
  rw [e0]
  refine ite2 (fun g1 => ?_) (fun g1 => ?_)
  · refine ⟨_, rfl, _, rfl, tt, xt, (p : Int), _, rfl, rfl, htt, atI_nat hy1, _, rfl, _, rfl, tt, xt, (q' : Int), _, rfl, rfl, htt, atI_nat hy2, rfl, ?_⟩
    rw [e0]
    rw [g1, Bool.true_and] at q
    exact q
  · rw [Bool.eq_false_iff.mpr g1, Bool.false_and] at q
    exact q
def spTurn (K : PySem.W.Frag) (CS CT CR CP CW : Addr) : Sp := fun vs H Q _ => ∃ (ac : Addr) (W : WorldD) (p q : Nat) (z y : PasD), vs = [.ref ac, .int (p : Int), .int (q : Int)] ∧ WorldOk W ∧ WorldAt K CS CT CR CP CW H ac W ∧ W.pass[p]? = some z ∧ W.pass[q]? = some y ∧ ∀ H', Same H H' → Q (.bl (closeB (z.first, z.fin) (y.first, y.fin) (turnOf W z.sta))) H'
theorem d_turn (T : TxtW K mg CL CS CT CR CP CW aS aR fS fT fR fP) (D_too_close : DefOk P w K mg base CX0 2 "too_close" ["span", "other", "minutes"] (spClose K)) (A : At K mg "too_close_to_turn" s_too_close_to_turn ["world", "p", "other"]) : DefOk P w K mg base CX0 3 "too_close_to_turn" ["world", "p", "other"] (spTurn K CS CT CR CP CW) := by
  have B := T.L.B
  refine A.ok sc_too_close_to_turn (fun vs H Q E h => ?_) (fun f cdv A outer s H vs Q E hr h => ?_)
  · obtain ⟨ac, W, p, q, z, y, rfl, _⟩ := h
    rfl
  obtain ⟨ac, W, p, q', z, y, rfl, wok, hW, hz, hy, q⟩ := h
  obtain ⟨dx, t0, t1, t2, t3, x0, x1, x2, x3, gw, _, _, p1, q1, p2, q2, p3, q3⟩ := hW.ex
  have l1 := paired_len q1
  obtain ⟨pb, pd, ts, hpb, c1, c2⟩ := pas_at q3 hz
  obtain ⟨pb2, pd2, ts2, hpb2, k1, k2⟩ := pas_at q3 hy
  have zok := wok.pass z (List.mem_of_getElem? hz)
  obtain ⟨st, hst⟩ : ∃ st, W.stas[z.sta]? = some st := ⟨_, List.getElem?_eq_getElem zok.sta⟩
  obtain ⟨y1, hy1⟩ : ∃ x, x1[z.sta]? = some x := ⟨_, List.getElem?_eq_getElem (by have := zok.sta; omega)⟩
  obtain ⟨t', ht', ta, td, rfl, g1⟩ := paired_at q1 hy1
  rw [hst] at ht'
  cases ht'
  have et : turnOf W z.sta = st.turn := by
    unfold turnOf
    rw [hst]
    rfl
  refine ⟨_, pss_cons (ps_set (i := 3) sc_too_close_to_turn.nd rfl (Or.inl rfl) (pe_ix ix_tup (pe_fld (pv 0) rfl) (pv 1) (fun _ _ => rfl)))
  (pss_cons (ps_set (i := 4) sc_too_close_to_turn.nd rfl (Or.inl rfl) (pe_fld (pe_ix ix_tup (pe_fld (pv 0) rfl) (pe_fld (pv 3) rfl) (fun _ _ => rfl)) rfl))
  (pss_one (ps_ret (pe_f D_too_close (hr.mono (by omega)) pass0 (pa_cons (pe_fld (pv 3) rfl) (pa_cons (pe_fld (pe_ix ix_tup (pe_fld (pv 0) rfl) (pv 2) (fun _ _ => rfl)) rfl) (pa_cons (pv 4) pa_nil)))))))
    , ?_⟩
  refine ⟨_, rfl, ac, CW, dx, _, _, rfl, gw, T.c_World.cl, T.n_World_passes, lk_World_passes, _, rfl, t3, x3, (p : Int), _, rfl, rfl, p3, atI_nat hpb, ?_⟩
  refine ⟨_, rfl, ac, CW, dx, _, _, rfl, gw, T.c_World.cl, T.n_World_stations, lk_World_stations, _, rfl, pb, CP, pd, _, _, rfl, c1, T.c_Pass.cl, T.n_Pass_station, lk_Pass_station, t1, x1, (z.sta : Int), _, rfl, rfl, p1, atI_nat hy1, ta, CT, td, _, _, rfl, g1, T.c_Station.cl, T.n_Station_turn, lk_Station_turn, ?_⟩
  refine ⟨_, rfl, pb, CP, pd, _, _, rfl, c1, T.c_Pass.cl, T.n_Pass_span, lk_Pass_span, _, rfl, ac, CW, dx, _, _, rfl, gw, T.c_World.cl, T.n_World_passes, lk_World_passes, _, rfl, t3, x3, (q' : Int), _, rfl, rfl, p3, atI_nat hpb2, pb2, CP, pd2, _, _, rfl, k1, T.c_Pass.cl, T.n_Pass_span, lk_Pass_span, _, rfl, ts, ts2, (z.first, z.fin), (y.first, y.fin), st.turn, rfl, c2, k2, fun H1 s1 => ?_⟩
  rw [← et]
  exact q _ s1
set_option maxHeartbeats 8000000 in
theorem d_turnbr (T : TxtW K mg CL CS CT CR CP CW aS aR fS fT fR fP) (D_taken_passes : DefOk P w K mg base CX0 2 "taken_passes" ["world", "case"] (spTaken K CS CT CR CP CW)) (D_on_one_antenna : DefOk P w K mg base CX0 1 "on_one_antenna" ["world", "case", "p", "other"] (spOne K CS CT CR CP CW)) (D_too_close_to_turn : DefOk P w K mg base CX0 3 "too_close_to_turn" ["world", "p", "other"] (spTurn K CS CT CR CP CW))
    (A : At K mg "turn_breaches" s_turn_breaches ["world", "case"]) : DefOk P w K mg base CX0 4 "turn_breaches" ["world", "case"] (spBr K CS CT CR CP CW turnB) := by
  have B := T.L.B
  refine A.ok sc_turn_breaches (fun vs H Q E h => ?_) (fun f cdv A outer s H vs Q E hr h => ?_)
  · obtain ⟨ac, v, W, o, c, rfl, _⟩ := h
    rfl
  obtain ⟨ac, v, W, o, c, rfl, wok, hW, cg, hc, q⟩ := h
  have nP := wok.nPass
  refine ⟨_, pss_cons (ps_set (i := 2) sc_turn_breaches.nd rfl (Or.inl rfl) (pe_f D_taken_passes (hr.mono (by omega)) pass0 (pa_cons (pv 0) (pa_cons (pv 1) pa_nil))))
  (pss_cons (ps_set (i := 3) sc_turn_breaches.nd rfl (Or.inl rfl) (pe_lst pa_nil))
  (pss_cons (ps_for PassesOwn.never rfl (pi_enum (by rfl) B.enumerate (pa_cons (pv 2) pa_nil)) (pg_tup (by rfl) (pgs_cons (pg_name (i := 4) sc_turn_breaches.nd rfl (Or.inl rfl)) (pgs_cons (pg_name (i := 5) sc_turn_breaches.nd rfl (Or.inl rfl)) (pgs_nil))))
      (pss_one (ps_for PassesOwn.never rfl (pi_list (pe_slice sl_list (pv 2) (po_some (pe_op op_add (pv 4) pe_int)) po_none)) (pg_name (i := 6) sc_turn_breaches.nd rfl (Or.inl rfl))
          (pss_one (ps_if (PW.pt (pw_and (pt_val (pe_f D_on_one_antenna (hr.mono (by omega)) pass0 (pa_cons (pv 0) (pa_cons (pv 1) (pa_cons (pv 5) (pa_cons (pv 6) pa_nil)))))) (pw_and1 (pt_val (pe_f D_too_close_to_turn (hr.mono (by omega)) pass0 (pa_cons (pv 0) (pa_cons (pv 5) (pa_cons (pv 6) pa_nil))))))))
              (pss_one (ps_expr (pe_bm PySem.F.plainAttrs_list PySem.F.slot_list_append PySem.F.type_list_append mt_append (pv 3) (pa_cons (pe_tup (pa_cons pe_str (pa_cons (pv 5) (pa_cons (pv 6) pa_nil)))) pa_nil))))
              (pss_nil))))))
  (pss_one (ps_ret (pv 3)))))
    , ?_⟩
  refine ⟨_, rfl, _, rfl, ac, v, W, o, c, rfl, wok, hW, cg, hc, fun M H1 s1 nM hM => ?_⟩
  refine ⟨Nat.zero_le _, fun D hD => ?_⟩
  have sD := s1.trans (same_new hD (.lst []))
  have nD := s1.free hD
  have nMD : M ≠ D := ne_of_none hM hD
  have hM2 := same_new hD (.lst []) _ _ hM
  have hD1 : (upd H1 D (.lst [])) D = some (.lst []) := upd_same
  generalize hG : upd H1 D (.lst []) = H2 at sD hM2 hD1
  have tl := takL_len W c W.pass.length
  generalize hT : takL W c W.pass.length = N at hM2 tl q
  have mem : ∀ k p, N[k]? = some p → antB W c p = true := fun k p h => by
    rw [← hT] at h
    exact (mem_tak (List.mem_of_getElem? h)).2
  have eT : turnB W c = pairsI (turnG W c) N N.length := by
    unfold turnB
    rw [hT]
  rw [eT] at q
  have nv : (N.map fun (p : Nat) => V.int (p : Int)).length = N.length := List.length_map _
  have room : ∀ i j (a : Nat), i < N.length → (pairsI (turnG W c) N i ++ ((N.drop (i + 1)).take j).flatMap (turnG W c a)).length < 1000 := fun i j a hi => by
    rw [List.length_append]
    have h1 := pairsI_len (turnG_len W c) N i
    have h2 := flat_len1 (turnG_len W c a) ((N.drop (i + 1)).take j)
    rw [List.length_take, List.length_drop] at h2
    have h3 : i * N.length ≤ 10 * 10 := Nat.mul_le_mul (by omega) (by omega)
    omega
  refine ⟨_, rfl, M, _, rfl, SqL.of hM2, ?_⟩
  refine for_it (walk_enum (K := K) (a := M) (xs := N.map fun (p : Nat) => V.int (p : Int))) (fun i σ H' => ∃ y4 y5 y6, σ = [some (.ref ac), some v, some (.ref M), some (.ref D), y4, y5, y6] ∧ SameX D H2 H' ∧ DL K brPy H' D (pairsI (turnG W c) N i))
    ⟨none, none, none, rfl, SameX.refl _ _, [], hD1, .nil⟩ (fun i σ H' _ hI => ?_) (fun i v' σ H3 H4 hi hI hy => ?_) (fun σ H3 hI => ?_)
  · obtain ⟨y4, y5, y6, rfl, hs, _⟩ := hI
    exact SqL.of (hs _ _ nMD hM2)
  · obtain ⟨y4, y5, y6, rfl, hs, hd⟩ := hI
    obtain ⟨T1, x, y, rfl, hT1, rfl, ex, ey⟩ := hy
    cases ex
    rw [nv] at hi
    obtain ⟨p, hp⟩ : ∃ p, N[i]? = some p := ⟨_, List.getElem?_eq_getElem hi⟩
    have ey2 : y = .int (p : Int) := by
      dsimp only at ey
      rw [List.getElem?_map, hp] at ey
      exact (Option.some.inj ey).symm
    subst ey2
    have sT := same_new hT1 (.tup [.int ((i : Nat) : Int), .int (p : Int)])
    have hs2 := hs.trans (SameX.of sT)
    have hd2 := hd.same sT
    obtain ⟨zp, n, st, hzp, hn, hst, n0, n1⟩ := ant_of (mem i p hp)
    refine ⟨T1, _, rfl, SqT.of upd_same, rfl, _, _, rfl, _, _, rfl, rfl, ?_⟩
    generalize (upd H3 T1 (.tup [.int ((i : Nat) : Int), .int (p : Int)])) = H5 at hs2 hd2
    have hMA := hs2 _ _ nMD hM2
    refine ⟨_, rfl, _, rfl, _, _, rfl, rfl, _, rfl, M, _, rfl, SqL.of hMA, fun X hX => ?_⟩
    have ec : cutV (N.map fun (p : Nat) => V.int (p : Int)) (some ((i : Int) + 1)) none = (N.drop (i + 1)).map fun (p : Nat) => V.int (p : Int) := by
      rw [show (i : Int) + 1 = ((i + 1 : Nat) : Int) by (clear T D_taken_passes D_on_one_antenna D_too_close_to_turn B hr wok hW cg hc nP s1 nM hM hD nD nMD hG sD hD1 q hT hM2 tl mem eT nv room hi hs hd hT1 hp ey sT hzp hn hst n0 n1 hs2 hd2 hMA hX; omega), cut_drop, List.map_drop]
    have hs3 := hs2.trans (SameX.of (same_new hX (.lst (cutV (N.map fun (p : Nat) => V.int (p : Int)) (some ((i : Int) + 1)) none))))
    have hd3 := hd2.same (same_new hX (.lst (cutV (N.map fun (p : Nat) => V.int (p : Int)) (some ((i : Int) + 1)) none)))
    have hXX : (upd H5 X (.lst (cutV (N.map fun (p : Nat) => V.int (p : Int)) (some ((i : Int) + 1)) none))) X = some (.lst ((N.drop (i + 1)).map fun (p : Nat) => V.int (p : Int))) := by rw [upd_same, ec]
    have nXD : X ≠ D := fun e => by
      obtain ⟨ys, hy, _⟩ := id hd2
      rw [e, hy] at hX
      cases hX
    refine ⟨X, rfl, ⟨_, SqL.of hXX⟩, ?_⟩
    refine for_it (walk_list (K := K) (a := X) (xs := (N.drop (i + 1)).map fun (p : Nat) => V.int (p : Int))) (fun j σ H' => ∃ y6, σ = [some (.ref ac), some v, some (.ref M), some (.ref D), some (.int (i : Int)), some (.int (p : Int)), y6] ∧ SameX D H2 H' ∧ SameX D (upd H5 X (.lst (cutV (N.map fun (p : Nat) => V.int (p : Int)) (some ((i : Int) + 1)) none))) H' ∧ DL K brPy H' D (pairsI (turnG W c) N i ++ ((N.drop (i + 1)).take j).flatMap (turnG W c p)))
      ⟨_, rfl, hs3, SameX.refl _ _, (by show DL K brPy _ D (_ ++ []); rw [List.append_nil]; exact hd3)⟩ (fun j σ H' _ hI => ?_) (fun j v' σ H6 H7 hj hI hy => ?_) (fun σ H6 hI => ?_)
    · obtain ⟨y6, rfl, _, hx, _⟩ := hI
      exact SqL.of (hx _ _ nXD hXX)
    · obtain ⟨y6, rfl, hx2, hx, hd⟩ := hI
      obtain ⟨rfl, hy⟩ := hy
      rw [List.getElem?_map] at hy
      cases hq : (N.drop (i + 1))[j]? with
      | none => rw [hq] at hy; cases hy
      | some o =>
        rw [hq] at hy
        have ev : V.int (o : Int) = v' := Option.some.inj hy
        subst ev
        have hq0 := hq
        rw [List.getElem?_drop] at hq0
        obtain ⟨zo, m, so, hzo, hm, hso, m0, m1⟩ := ant_of (mem _ o hq0)
        have hsA := sx_same sD nD hx2
        have ft := fm_take (g := turnG W c p) hq
        have rm := room i j p hi
        have tc : turnC W c p o = ((decide ((zp.sta : Int) = (zo.sta : Int)) && decide (n = m)) && closeB (zp.first, zp.fin) (zo.first, zo.fin) (turnOf W zp.sta)) := by
          unfold turnC
          rw [hzp, hzo, hn, hm]
        have skip : turnC W c p o = false → ∀ H', SameX D H2 H' → SameX D (upd H5 X (.lst (cutV (N.map fun (p : Nat) => V.int (p : Int)) (some ((i : Int) + 1)) none))) H' → DL K brPy H' D (pairsI (turnG W c) N i ++ ((N.drop (i + 1)).take j).flatMap (turnG W c p)) → ∃ y6, ([some (.ref ac), some v, some (.ref M), some (.ref D), some (.int (i : Int)), some (.int (p : Int)), some (.int (o : Int))] : L2.St) = [some (.ref ac), some v, some (.ref M), some (.ref D), some (.int (i : Int)), some (.int (p : Int)), y6] ∧ SameX D H2 H' ∧ SameX D (upd H5 X (.lst (cutV (N.map fun (p : Nat) => V.int (p : Int)) (some ((i : Int) + 1)) none))) H' ∧ DL K brPy H' D (pairsI (turnG W c) N i ++ ((N.drop (i + 1)).take (j + 1)).flatMap (turnG W c p)) := fun e H' u1 u2 u3 => by
          refine ⟨_, rfl, u1, u2, ?_⟩
          rw [ft, show turnG W c p o = [] from if_neg (by rw [e]; exact Bool.false_ne_true), List.append_nil]
          exact u3
        refine ⟨_, rfl, _, rfl, _, rfl, _, rfl, ac, v, W, c, p, o, zp, zo, n, m, rfl, hW.same hsA, dp_same hsA hc, hzp, hzo, hn, hm, _, rfl, ite2 (fun k1 => ?_) (fun k1 => ?_)⟩
        · refine ⟨_, rfl, _, rfl, _, rfl, ac, W, p, o, zp, zo, rfl, wok, hW.same hsA, hzp, hzo, fun H8 s8 => ⟨_, rfl, ite2 (fun k2 => ?_) (fun k2 => ?_)⟩⟩
          · have yes : turnC W c p o = true := by rw [tc, k1, k2]; rfl
            have hd8 := hd.same s8
            obtain ⟨xs0, hx0, _⟩ := id hd8
            refine ⟨_, rfl, .inl ⟨rfl, _, SqL.of hx0⟩, _, rfl, _, rfl, (by show 3 ≤ sizeLine; decide), fun a1 b1 => ?_⟩
            have sB := same_new b1 (.tup [.str "turn", .int (p : Int), .int (o : Int)])
            have tv : Dp K (upd H8 a1 (.tup [.str "turn", .int (p : Int), .int (o : Int)])) (.ref a1) (brPy (.turn p o)) := .tup (SqT.of upd_same) (.cons (.str _) (.cons (.int _) (.cons (.int _) .nil)))
            obtain ⟨xs, g1, g2, g3⟩ := (hd8.same sB).push noL_br tv rm
            refine ⟨D, xs, _, rfl, rfl, g1, g2, _, rfl, (hx2.trans (SameX.of (s8.trans sB))).at_, (hx.trans (SameX.of (s8.trans sB))).at_, ?_⟩
            rw [ft, show turnG W c p o = [.turn p o] from if_pos yes, ← List.append_assoc]
            exact g3
          · exact skip (by rw [tc, Bool.eq_false_iff.mpr k2, Bool.and_false]) _ (hx2.trans (SameX.of s8)) (hx.trans (SameX.of s8)) (hd.same s8)
        · exact skip (by rw [tc, Bool.eq_false_iff.mpr k1, Bool.false_and]) _ hx2 hx hd
    · obtain ⟨y6, rfl, hx2, _, hd⟩ := hI
      rw [List.length_map, List.take_length, ← pairsI_succ hp] at hd
      exact ⟨_, _, _, rfl, hx2, hd⟩
  · obtain ⟨y4, y5, y6, rfl, hs, hd⟩ := hI
    rw [nv] at hd
    exact ⟨_, rfl, q D _ (sx_same sD nD hs) nD hd⟩
end
end DP
namespace DP
open PySem PySem.Spec PyProof.Rows L2
abbrev s_case_breaches : Stmt := topS 67
theorem sc_case_breaches : FnScope ["world", "case", "found", "numbers", "number"] ["world", "case"] (defScope s_case_breaches) := ⟨rfl, rfl, rfl, by decide +kernel, rfl, by decide +kernel, by decide +kernel⟩
abbrev s_breaches : Stmt := topS 68
theorem sc_breaches : FnScope ["world", "plan"] ["world", "plan"] (defScope s_breaches) := ⟨rfl, rfl, rfl, by decide +kernel, rfl, by decide +kernel, by decide +kernel⟩
abbrev s_keeps_rules : Stmt := topS 69
theorem sc_keeps_rules : FnScope ["world", "plan"] ["world", "plan"] (defScope s_keeps_rules) := ⟨rfl, rfl, rfl, by decide +kernel, rfl, by decide +kernel, by decide +kernel⟩
theorem dpAll_app {K : PySem.W.Frag} {H : Hp} : ∀ {xs ys : List V} {ds es : List PyData}, DpAll K H xs ds → DpAll K H ys es → DpAll K H (xs ++ ys) (ds ++ es)
  | _, _, _, _, .nil, h => h
  | _, _, _, _, .cons a t, h => .cons a (dpAll_app t h)
def overL (W : WorldD) (c : CaseD) (s : Nat) (z : SatD) (n : Nat) : List Nat := (List.range n).filter fun m => decide (z.store < usedW W c s (m : Int))
def lvW (W : WorldD) (c : CaseD) (s : Nat) (z : SatD) (m : Nat) : Int := levelW z.battery z.level (fun m => spentW W c s (m : Int)) (chgI z.light z.charge) m
def lowL (W : WorldD) (c : CaseD) (s : Nat) (z : SatD) (n : Nat) : List Nat := (List.range n).filter fun m => decide (lvW W c s z m < z.reserve)
def unitB (W : WorldD) (c : CaseD) (s : Nat) : List Br := match W.sats[s]? with
  | some z => ((overL W c s z W.horizon.toNat).take 1).map (Br.store s) ++ ((lowL W c s z W.horizon.toNat).take 1).map (Br.energy s)
  | none => []
def caseB (W : WorldD) (c : CaseD) : List Br := recB W c W.recs.length ++ pasB W c W.pass.length ++ turnB W c ++ (List.range W.sats.length).flatMap (busyB W c) ++ (List.range W.sats.length).flatMap (unitB W c)
theorem fl_succ {p : Nat → Bool} (n : Nat) : (List.range (n + 1)).filter p = (List.range n).filter p ++ if p n = true then [n] else [] := by
  rw [List.range_succ, List.filter_append, List.filter_cons, List.filter_nil]
theorem fl_len (p : Nat → Bool) (n : Nat) : ((List.range n).filter p).length ≤ n := by
  refine Nat.le_trans (List.length_filter_le _ _) ?_
  rw [List.length_range]
  exact Nat.le_refl _
theorem cut_one {xs : List V} : cutV xs none (some 1) = xs.take 1 := by
  unfold cutV
  rw [show HT.sIx xs.length xs.length (some 1) = min 1 xs.length from HT.sIx_nat _ _ 1, HT.sIx_none, List.drop_zero, Nat.sub_zero]
  cases xs with
  | nil => rfl
  | cons a l =>
    rw [List.length_cons, show min 1 (l.length + 1) = 1 by omega]
theorem used_at {W : WorldD} {c : CaseD} {s n i : Nat} (h : i < n) : ((usedsW W c s n).map V.int)[i]? = some (.int (usedW W c s (i : Int))) := by
  unfold usedsW
  rw [List.getElem?_map, List.getElem?_map, List.getElem?_range h]
  rfl
section
variable {P : Program} {w : World} {K : PySem.W.Frag} {mg : Str → Option Value} {base : Heap} {CL CS CT CR CP CW aS aR fS fT fR fP : Addr}
def spBrS (K : PySem.W.Frag) (CS CT CR CP CW : Addr) (g : WorldD → CaseD → Nat → List Br) : Sp := fun vs H Q _ => ∃ (ac : Addr) (v : V) (W : WorldD) (o : Bool) (c : CaseD) (s : Nat), vs = [.ref ac, v, .int (s : Int)] ∧ WorldOk W ∧ WorldAt K CS CT CR CP CW H ac W ∧ CaseG W o c ∧ Dp K H v (casePy c) ∧ s < W.sats.length ∧ ∀ D H', Same H H' → H D = none → DL K brPy H' D (g W c s) → Q (.ref D) H'
set_option maxHeartbeats 8000000 in
theorem d_busybr (T : TxtW K mg CL CS CT CR CP CW aS aR fS fT fR fP) (D_busy_things : DefOk P w K mg base CX0 3 "busy_things" ["world", "case", "number"] (spBusy K CS CT CR CP CW)) (D_too_close : DefOk P w K mg base CX0 2 "too_close" ["span", "other", "minutes"] (spClose K))
    (A : At K mg "busy_breaches" s_busy_breaches ["world", "case", "number"]) : DefOk P w K mg base CX0 4 "busy_breaches" ["world", "case", "number"] (spBrS K CS CT CR CP CW busyB) := by
  have B := T.L.B
  refine A.ok sc_busy_breaches (fun vs H Q E h => ?_) (fun f cdv A outer s H vs Q E hr h => ?_)
  · obtain ⟨ac, v, W, o, c, n, rfl, _⟩ := h
    rfl
  obtain ⟨ac, v, W, o, c, n, rfl, wok, hW, cg, hc, hn, q⟩ := h
  obtain ⟨dx, t0, t1, t2, t3, x0, x1, x2, x3, gw, p0, q0, _, _, p2, q2, p3, q3⟩ := hW.ex
  obtain ⟨z, hz⟩ : ∃ z, W.sats[n]? = some z := ⟨_, List.getElem?_eq_getElem hn⟩
  obtain ⟨sb, sd, ts, ls, hsb, g1, g2, g3⟩ := sat_at q0 hz
  have es : settleOf W n = z.settle := by
    unfold settleOf
    rw [hz]
    rfl
  have bl := busy_len wok c n
  refine ⟨_, pss_cons (ps_set (i := 3) sc_busy_breaches.nd rfl (Or.inl rfl) (pe_fld (pe_ix ix_tup (pe_fld (pv 0) rfl) (pv 2) (fun _ _ => rfl)) rfl))
  (pss_cons (ps_set (i := 4) sc_busy_breaches.nd rfl (Or.inl rfl) (pe_f D_busy_things (hr.mono (by omega)) pass0 (pa_cons (pv 0) (pa_cons (pv 1) (pa_cons (pv 2) pa_nil)))))
  (pss_cons (ps_set (i := 5) sc_busy_breaches.nd rfl (Or.inl rfl) (pe_lst pa_nil))
  (pss_cons (ps_for PassesOwn.never rfl (pi_enum (by rfl) B.enumerate (pa_cons (pv 4) pa_nil)) (pg_tup (by rfl) (pgs_cons (pg_name (i := 6) sc_busy_breaches.nd rfl (Or.inl rfl)) (pgs_cons (pg_tup (by rfl) (pgs_cons (pg_name (i := 7) sc_busy_breaches.nd rfl (Or.inl rfl)) (pgs_cons (pg_name (i := 8) sc_busy_breaches.nd rfl (Or.inl rfl)) (pgs_nil)))) (pgs_nil))))
      (pss_one (ps_for PassesOwn.never rfl (pi_list (pe_slice sl_list (pv 4) (po_some (pe_op op_add (pv 6) pe_int)) po_none)) (pg_tup (by rfl) (pgs_cons (pg_name (i := 9) sc_busy_breaches.nd rfl (Or.inl rfl)) (pgs_cons (pg_name (i := 10) sc_busy_breaches.nd rfl (Or.inl rfl)) (pgs_nil))))
          (pss_one (ps_if (pt_val (pe_f D_too_close (hr.mono (by omega)) pass0 (pa_cons (pv 8) (pa_cons (pv 10) (pa_cons (pv 3) pa_nil)))))
              (pss_one (ps_expr (pe_bm PySem.F.plainAttrs_list PySem.F.slot_list_append PySem.F.type_list_append mt_append (pv 5) (pa_cons (pe_tup (pa_cons pe_str (pa_cons (pv 7) (pa_cons (pv 9) pa_nil)))) pa_nil))))
              (pss_nil))))))
  (pss_one (ps_ret (pv 5))))))
    , ?_⟩
  refine ⟨_, rfl, ac, CW, dx, _, _, rfl, gw, T.c_World.cl, T.n_World_satellites, lk_World_satellites, _, rfl, t0, x0, (n : Int), _, rfl, rfl, p0, atI_nat hsb, sb, CS, sd, _, _, rfl, g1, T.c_Satellite.cl, T.n_Satellite_settle, lk_Satellite_settle, ?_⟩
  refine ⟨_, rfl, _, rfl, _, rfl, ac, v, W, o, c, n, rfl, wok, hW, cg, hc, fun M H1 s1 nM hM => ?_⟩
  obtain ⟨xm, hM1, hM2⟩ := hM
  have lM := dpAll_len hM2
  rw [List.length_map] at lM
  refine ⟨Nat.zero_le _, fun D hD => ?_⟩
  have sD := s1.trans (same_new hD (.lst []))
  have nD := s1.free hD
  have nMD : M ≠ D := ne_of_none hM1 hD
  have hM3 := same_new hD (.lst []) _ _ hM1
  have hM4 := dpAll_same (same_new hD (.lst [])) hM2
  have hD1 : (upd H1 D (.lst [])) D = some (.lst []) := upd_same
  generalize hG : upd H1 D (.lst []) = H2 at sD hM3 hM4 hD1
  generalize hB : busyL W c n = N at hM4 lM bl
  have eT : busyB W c n = pairsI (busyG W n) N N.length := by
    unfold busyB
    rw [hB]
  rw [eT] at q
  have room : ∀ i j (a : Thing), i < N.length → (pairsI (busyG W n) N i ++ ((N.drop (i + 1)).take j).flatMap (busyG W n a)).length < 1000 := fun i j a hi => by
    rw [List.length_append]
    have h1 := pairsI_len (busyG_len W n) N i
    have h2 := flat_len1 (busyG_len W n a) ((N.drop (i + 1)).take j)
    rw [List.length_take, List.length_drop] at h2
    have h3 : i * N.length ≤ 20 * 20 := Nat.mul_le_mul (by (clear T D_busy_things D_too_close B hr wok hW cg hc hn gw p0 q0 p2 q2 p3 q3 hz hsb g1 g2 g3 es s1 nM hM1 hM2 hD nD nMD hG sD hM3 hD1 q hB hM4 eT h1 h2; omega)) (by omega)
    (clear T D_busy_things D_too_close B hr wok hW cg hc hn gw p0 q0 p2 q2 p3 q3 hz hsb g1 g2 g3 es s1 nM hM1 hM2 hD nD nMD hG sD hM3 hD1 q hB hM4 eT; omega)
  refine ⟨_, rfl, M, _, rfl, SqL.of hM3, ?_⟩
  refine for_it (walk_enum (K := K) (a := M) (xs := xm)) (fun i σ H' => ∃ y6 y7 y8 y9 y10, σ = [some (.ref ac), some v, some (.int (n : Int)), some (.int z.settle), some (.ref M), some (.ref D), y6, y7, y8, y9, y10] ∧ SameX D H2 H' ∧ DL K brPy H' D (pairsI (busyG W n) N i))
    ⟨none, none, none, none, none, rfl, SameX.refl _ _, [], hD1, .nil⟩ (fun i σ H' _ hI => ?_) (fun i v' σ H3 H4 hi hI hy => ?_) (fun σ H3 hI => ?_)
  · obtain ⟨y6, y7, y8, y9, y10, rfl, hs, _⟩ := hI
    exact SqL.of (hs _ _ nMD hM3)
  · obtain ⟨y6, y7, y8, y9, y10, rfl, hs, hd⟩ := hI
    obtain ⟨T1, x, y, rfl, hT1, rfl, ex, ey⟩ := hy
    cases ex
    dsimp only at ey
    have sT := same_new hT1 (.tup [.int ((i : Nat) : Int), y])
    have hs2 := hs.trans (SameX.of sT)
    have hd2 := hd.same sT
    have dps := dpAll_sx (noLs_map noL_thg N) hD1 hs2 hM4
    obtain ⟨k, hk, dk⟩ := dpAll_get dps ey
    obtain ⟨t, a1, a2, rfl, ht, h1, h2⟩ := dp_thg dk
    have hi' : i < N.length := by (clear T D_busy_things D_too_close B hr wok hW cg hc hn gw p0 q0 p2 q2 p3 q3 hz hsb g1 g2 g3 es s1 nM hM1 hM2 hD nD nMD hG sD hM3 hD1 q hB hM4 bl eT room hs hd hT1 hk ey sT hs2 hd2 dps dk ht h1 h2; omega)
    refine ⟨T1, _, rfl, SqT.of upd_same, rfl, _, _, rfl, _, _, rfl, t, _, rfl, ht, rfl, _, _, rfl, _, _, rfl, rfl, rfl, ?_⟩
    generalize (upd H3 T1 (.tup [.int ((i : Nat) : Int), .ref t])) = H5 at hs2 hd2 dps ht h1 h2
    have hMA := hs2 _ _ nMD hM3
    refine ⟨_, rfl, _, rfl, _, _, rfl, rfl, _, rfl, M, _, rfl, SqL.of hMA, fun X hX => ?_⟩
    have ec : cutV xm (some ((i : Int) + 1)) none = xm.drop (i + 1) := by
      rw [show (i : Int) + 1 = ((i + 1 : Nat) : Int) by (clear T D_busy_things D_too_close B hr wok hW cg hc hn gw p0 q0 p2 q2 p3 q3 hz hsb g1 g2 g3 es s1 nM hM1 hM2 hD nD nMD hG sD hM3 hD1 q hB hM4 lM bl eT room hi hs hd hT1 hk ey sT dk hi' hs2 hd2 dps ht h1 h2 hMA hX; omega), cut_drop]
    have hs3 := hs2.trans (SameX.of (same_new hX (.lst (cutV xm (some ((i : Int) + 1)) none))))
    have hd3 := hd2.same (same_new hX (.lst (cutV xm (some ((i : Int) + 1)) none)))
    have hXX : (upd H5 X (.lst (cutV xm (some ((i : Int) + 1)) none))) X = some (.lst (xm.drop (i + 1))) := by rw [upd_same, ec]
    have h1X := Same.tup (same_new hX (.lst (cutV xm (some ((i : Int) + 1)) none))) h1
    have h2X := Same.tup (same_new hX (.lst (cutV xm (some ((i : Int) + 1)) none))) h2
    obtain ⟨ys0, hy0, _⟩ := id hd3
    have nXD : X ≠ D := fun e => by
      obtain ⟨ys, hy, _⟩ := id hd2
      rw [e, hy] at hX
      cases hX
    refine ⟨X, rfl, ⟨_, SqL.of hXX⟩, ?_⟩
    refine for_it (walk_list (K := K) (a := X) (xs := xm.drop (i + 1))) (fun j σ H' => ∃ y9 y10, σ = [some (.ref ac), some v, some (.int (n : Int)), some (.int z.settle), some (.ref M), some (.ref D), some (.int (i : Int)), some (.ref a1), some (.ref a2), y9, y10] ∧ SameX D H2 H' ∧ SameX D (upd H5 X (.lst (cutV xm (some ((i : Int) + 1)) none))) H' ∧ DL K brPy H' D (pairsI (busyG W n) N i ++ ((N.drop (i + 1)).take j).flatMap (busyG W n k)))
      ⟨_, _, rfl, hs3, SameX.refl _ _, (by show DL K brPy _ D (_ ++ []); rw [List.append_nil]; exact hd3)⟩ (fun j σ H' _ hI => ?_) (fun j v' σ H6 H7 hj hI hy => ?_) (fun σ H6 hI => ?_)
    · obtain ⟨y9, y10, rfl, _, hx, _⟩ := hI
      exact SqL.of (hx _ _ nXD hXX)
    · obtain ⟨y9, y10, rfl, hx2, hx, hd⟩ := hI
      obtain ⟨rfl, hy⟩ := hy
      rw [List.getElem?_drop] at hy
      have dp7 := dpAll_sx (noLs_map noL_thg N) hD1 hx2 hM4
      obtain ⟨k2, hk2, dk2⟩ := dpAll_get dp7 hy
      obtain ⟨t', b1, b2, rfl, ht', u1, u2⟩ := dp_thg dk2
      have hq : (N.drop (i + 1))[j]? = some k2 := by rw [List.getElem?_drop]; exact hk2
      have ft := fm_take (g := busyG W n k) hq
      have rm := room i j k hi'
      have h1A := sqT_sx hy0 hx h1X
      have h2A := sqT_sx hy0 hx h2X
      refine ⟨t', _, rfl, ht', rfl, _, _, rfl, _, _, rfl, rfl, ?_⟩
      refine ⟨_, rfl, _, rfl, _, rfl, a2, b2, (k.2.2.1, k.2.2.2), (k2.2.2.1, k2.2.2.2), z.settle, rfl, h2A, u2, fun H8 s8 => ⟨_, rfl, ite2 (fun k3 => ?_) (fun k3 => ?_)⟩⟩
      · have yes : closeB (k.2.2.1, k.2.2.2) (k2.2.2.1, k2.2.2.2) (settleOf W n) = true := by rw [es]; exact k3
        have hd8 := hd.same s8
        obtain ⟨xs0, hx0, _⟩ := id hd8
        refine ⟨_, rfl, .inl ⟨rfl, _, SqL.of hx0⟩, _, rfl, _, rfl, (by show 3 ≤ sizeLine; decide), fun c1 e1 => ?_⟩
        have sB := same_new e1 (.tup [.str "busy", .ref a1, .ref b1])
        have tv : Dp K (upd H8 c1 (.tup [.str "busy", .ref a1, .ref b1])) (.ref c1) (brPy (.busy (k.1, k.2.1) (k2.1, k2.2.1))) :=
          .tup (SqT.of upd_same) (.cons (.str _) (.cons (.tup (Same.tup (s8.trans sB) h1A) (.cons (.str _) (.cons (.int _) .nil))) (.cons (.tup (Same.tup (s8.trans sB) u1) (.cons (.str _) (.cons (.int _) .nil))) .nil)))
        obtain ⟨xs, g1, g2, g3⟩ := (hd8.same sB).push noL_br tv rm
        refine ⟨D, xs, _, rfl, rfl, g1, g2, _, _, rfl, (hx2.trans (SameX.of (s8.trans sB))).at_, (hx.trans (SameX.of (s8.trans sB))).at_, ?_⟩
        rw [ft, show busyG W n k k2 = [.busy (k.1, k.2.1) (k2.1, k2.2.1)] from if_pos yes, ← List.append_assoc]
        exact g3
      · refine ⟨_, _, rfl, hx2.trans (SameX.of s8), hx.trans (SameX.of s8), ?_⟩
        rw [ft, show busyG W n k k2 = [] from if_neg (by rw [es]; exact k3), List.append_nil]
        exact hd.same s8
    · obtain ⟨y9, y10, rfl, hx2, _, hd⟩ := hI
      rw [show (xm.drop (i + 1)).length = (N.drop (i + 1)).length by rw [List.length_drop, List.length_drop, lM], List.take_length, ← pairsI_succ hk] at hd
      exact ⟨_, _, _, _, _, rfl, hx2, hd⟩
  · obtain ⟨y6, y7, y8, y9, y10, rfl, hs, hd⟩ := hI
    rw [lM] at hd
    exact ⟨_, rfl, q D _ (sx_same sD nD hs) nD hd⟩
end
end DP
namespace DP
open PySem PySem.Spec PyProof.Rows L2
theorem down_to {p : Nat → Bool} {ms : List Int} (h : ∀ m, p m = true → ((m : Nat) : Int) ∉ ms → ∃ j, m = j + 1 ∧ p j = true) : ∀ m, p m = true → ∃ k : Nat, (k : Int) ∈ ms ∧ k ≤ m ∧ p k = true
  | 0, hm => by
    by_cases c : ((0 : Nat) : Int) ∈ ms
    · exact ⟨0, c, Nat.le_refl _, hm⟩
    · obtain ⟨j, e, _⟩ := h 0 hm c
      omega
  | m + 1, hm => by
    by_cases c : ((m + 1 : Nat) : Int) ∈ ms
    · exact ⟨m + 1, c, Nat.le_refl _, hm⟩
    · obtain ⟨j, e, hj⟩ := h (m + 1) hm c
      have : j = m := by omega
      subst this
      obtain ⟨k, k1, k2, k3⟩ := down_to h j hj
      exact ⟨k, k1, by omega, k3⟩
theorem pw_filter {α : Type} {r : α → α → Prop} {p : α → Bool} {l : List α} (h : l.Pairwise r) : (l.filter p).Pairwise r := List.Pairwise.sublist List.filter_sublist h
theorem firsts {p : Nat → Bool} {ms : List Int} {h : Nat} (pw : ms.Pairwise (· < ·)) (ins : ∀ k ∈ ms, 0 ≤ k ∧ k < (h : Int)) (hp : ∀ m, m < h → p m = true → ∃ k : Nat, (k : Int) ∈ ms ∧ k ≤ m ∧ p k = true) :
    (ms.filter fun k => p k.toNat).take 1 = (((List.range h).filter p).take 1).map fun (m : Nat) => (m : Int) := by
  cases eB : (List.range h).filter p with
  | nil =>
    cases eA : ms.filter fun k => p k.toNat with
    | nil => rfl
    | cons a l =>
      have ha : a ∈ ms.filter fun k => p k.toNat := by rw [eA]; exact List.mem_cons_self
      obtain ⟨h1, h2⟩ := List.mem_filter.mp ha
      obtain ⟨k0, k1⟩ := ins a h1
      have : a.toNat ∈ (List.range h).filter p := List.mem_filter.mpr ⟨List.mem_range.mpr (by omega), h2⟩
      rw [eB] at this
      exact absurd this List.not_mem_nil
  | cons b r =>
    have hb : b ∈ (List.range h).filter p := by rw [eB]; exact List.mem_cons_self
    obtain ⟨b1, b2⟩ := List.mem_filter.mp hb
    rw [List.mem_range] at b1
    obtain ⟨k, k1, k2, k3⟩ := hp b b1 b2
    have hk : (k : Int) ∈ ms.filter fun k => p k.toNat := List.mem_filter.mpr ⟨k1, by rw [Int.toNat_natCast]; exact k3⟩
    cases eA : ms.filter fun k => p k.toNat with
    | nil => rw [eA] at hk; exact absurd hk List.not_mem_nil
    | cons a l =>
      have ha : a ∈ ms.filter fun k => p k.toNat := by rw [eA]; exact List.mem_cons_self
      obtain ⟨a1, a2⟩ := List.mem_filter.mp ha
      obtain ⟨a3, a4⟩ := ins a a1
      have pA := pw_filter (p := fun k => p k.toNat) pw
      rw [eA] at pA hk
      have le1 : a ≤ (k : Int) := by
        rcases List.mem_cons.mp hk with e | e
        · (clear pw ins hp eB hb b1 b2 k1 k2 k3 hk eA ha a1 a2 a3 a4 pA; omega)
        · have := (List.pairwise_cons.mp pA).1 _ e
          (clear pw ins hp eB hb b1 b2 k1 k2 k3 hk eA ha a1 a2 a3 a4 pA e; omega)
      have mB : a.toNat ∈ (List.range h).filter p := List.mem_filter.mpr ⟨List.mem_range.mpr (by omega), a2⟩
      have pB := pw_filter (p := p) (List.pairwise_lt_range (n := h))
      rw [eB] at mB pB
      have le2 : b ≤ a.toNat := by
        rcases List.mem_cons.mp mB with e | e
        · (clear pw ins hp eB hb b1 b2 k1 k2 k3 hk eA ha a1 a2 a3 a4 pA le1 mB pB; omega)
        · have := (List.pairwise_cons.mp pB).1 _ e
          (clear pw ins hp eB hb b1 b2 k1 k2 k3 hk eA ha a1 a2 a3 a4 pA le1 mB pB e; omega)
      show [a] = [((b : Nat) : Int)]
      have : a = (b : Int) := by omega
      rw [this]
theorem sum_le {α : Type} {f g : α → Int} : ∀ {l : List α}, (∀ a ∈ l, f a ≤ g a) → (l.map f).sum ≤ (l.map g).sum
  | [], _ => Int.le_refl _
  | a :: l, h => by
    rw [List.map_cons, List.map_cons, List.sum_cons, List.sum_cons]
    have h1 := h a List.mem_cons_self
    have h2 := sum_le (l := l) fun b hb => h b (List.mem_cons_of_mem _ hb)
    omega
def startsW (W : WorldD) (c : CaseD) (s : Nat) : List Int := (madeS W c s W.recs.length).map fun q => q.2.1
theorem size_pos {W : WorldD} (wok : WorldOk W) (q : Trip) : 0 ≤ sizeT W q := by
  unfold sizeT
  cases e : W.recs[q.1]? with
  | none => exact Int.le_refl _
  | some z => exact (show 0 ≤ z.size from by have := (wok.recs z (List.mem_of_getElem? e)).size; omega)
theorem used_down {W : WorldD} (wok : WorldOk W) {c : CaseD} {s : Nat} {z : SatD} (hz : W.sats[s]? = some z) (m : Nat) (hm : decide (z.store < usedW W c s (m : Int)) = true) (no : (m : Int) ∉ startsW W c s) : ∃ j, m = j + 1 ∧ decide (z.store < usedW W c s (j : Int)) = true := by
  have hm := of_decide_eq_true hm
  have st := (wok.sats z (List.mem_of_getElem? hz)).store
  have ok := trips_made wok c s W.recs.length
  have ne : ∀ q ∈ madeS W c s W.recs.length, q.2.1 ≠ (m : Int) := fun q hq e => no (List.mem_map.mpr ⟨q, hq, e⟩)
  cases m with
  | zero =>
    exfalso
    have : usedW W c s ((0 : Nat) : Int) ≤ ((madeS W c s W.recs.length).map fun _ => (0 : Int)).sum := sum_le fun q hq => by
      have h1 := ok q hq
      have h2 := ne q hq
      rw [if_neg (by (clear wok hz st ok no hm ne hq; omega))]
      exact Int.le_refl _
    have z0 : ∀ l : List Trip, (l.map fun _ => (0 : Int)).sum = 0 := fun l => by
      induction l with
      | nil => rfl
      | cons a l ih => rw [List.map_cons, List.sum_cons, ih]; rfl
    rw [z0] at this
    omega
  | succ j =>
    refine ⟨j, rfl, decide_eq_true (Int.lt_of_lt_of_le hm (sum_le fun q hq => ?_))⟩
    have h1 := ok q hq
    have h2 := ne q hq
    have h3 := size_pos wok q
    by_cases c1 : q.2.1 ≤ ((j + 1 : Nat) : Int) ∧ ((j + 1 : Nat) : Int) < finT W q
    · rw [if_pos c1, if_pos (by (clear wok hz st ok no hm ne hq h1 h3; omega))]
      exact Int.le_refl _
    · rw [if_neg c1]
      split
      · exact h3
      · exact Int.le_refl _
theorem chg_pos {l : List (Int × Int)} {c : Int} (h : 0 ≤ c) (m : Nat) : 0 ≤ chgI l c m := by
  unfold chgI
  split <;> omega
theorem ahead_succ (batt start : Int) (sp ch : Nat → Int) (n : Nat) : aheadW batt start sp ch (n + 1) = min batt (levelW batt start sp ch n + ch n) := by
  show (if aheadW batt start sp ch n - sp n + ch n < batt then aheadW batt start sp ch n - sp n + ch n else batt) = min batt (aheadW batt start sp ch n - sp n + ch n)
  split <;> omega
/-- from a minute on nothing is spent: the battery ahead of a later one -/
theorem ahead_far {batt start : Int} {sp ch : Nat → Int} (hc : ∀ m, 0 ≤ ch m) (a : Nat) : ∀ j : Nat, (∀ t, 1 ≤ t → t ≤ j → sp (a + t) = 0) → aheadW batt start sp ch (a + j + 1) = min batt (levelW batt start sp ch a + ((List.range (j + 1)).map fun t => ch (a + t)).sum)
  | 0, _ => by
    rw [Nat.add_zero, ahead_succ]
    congr 2
    simp
  | j + 1, h => by
    have ih := ahead_far (batt := batt) (start := start) (sp := sp) hc a j fun t h1 h2 => h t h1 (by omega)
    rw [show a + (j + 1) + 1 = (a + j + 1) + 1 from rfl, ahead_succ]
    have e : levelW batt start sp ch (a + j + 1) = aheadW batt start sp ch (a + j + 1) := by
      show aheadW batt start sp ch (a + j + 1) - sp (a + j + 1) = _
      rw [show a + j + 1 = a + (j + 1) from rfl, h (j + 1) (by (clear hc h ih; omega)) (Nat.le_refl _), Int.sub_zero]
    have hk := hc (a + j + 1)
    rw [e, ih, List.range_succ (n := j + 1), List.map_append, List.sum_append]
    show min batt (min batt (_ + _) + ch (a + j + 1)) = min batt (_ + (_ + (ch (a + (j + 1)) + 0)))
    rw [show a + (j + 1) = a + j + 1 from rfl]
    omega
theorem light_sum {h : Int} {l : List (Int × Int)} (ok : LightOk 0 h l) (c : Int) (a : Nat) : ∀ j : Nat, c * mw l (a : Int) ((a + j : Nat) : Int) = ((List.range j).map fun t => chgI l c (a + t)).sum
  | 0 => by rw [Nat.add_zero, mw_le (Int.le_refl _), Int.mul_zero]; rfl
  | j + 1 => by
    have ih := light_sum ok c a j
    have lt : ∀ q ∈ l, q.1 < q.2 := fun q hq => (light_in (Int.le_refl 0) ok q hq).2.1
    have one := (any_one (m := ((a + j : Nat) : Int)) ok).2
    rw [show ((a + (j + 1) : Nat) : Int) = ((a + j : Nat) : Int) + 1 by (clear ok ih lt one; omega), mw_succ (by (clear ok ih lt one; omega)) l lt, Int.mul_add, ih, List.range_succ, List.map_append, List.sum_append, one]
    congr 1
    show _ = chgI l c (a + j) + 0
    unfold chgI
    split
    · rw [Int.mul_one, Int.add_zero]
    · rw [Int.mul_zero, Int.add_zero]
/-- the battery ahead of a minute, by the light since the last one at which something is spent -/
theorem ahead_light {h : Int} {l : List (Int × Int)} (ok : LightOk 0 h l) {batt start c : Int} {sp : Nat → Int} (hc : 0 ≤ c) (a k : Nat) (hk : a < k) (hs : ∀ t, a < t → t < k → sp t = 0) :
    aheadW batt start sp (chgI l c) k = min batt (levelW batt start sp (chgI l c) a + c * mw l (a : Int) (k : Int)) := by
  obtain ⟨j, rfl⟩ : ∃ j, k = a + j + 1 := ⟨k - a - 1, by omega⟩
  rw [ahead_far (fun m => chg_pos hc m) a j fun t h1 h2 => hs (a + t) (by omega) (by omega), show ((a + j + 1 : Nat) : Int) = ((a + (j + 1) : Nat) : Int) from rfl, light_sum ok c a (j + 1)]
theorem low_down {W : WorldD} (wok : WorldOk W) {c : CaseD} {s : Nat} {z : SatD} (hz : W.sats[s]? = some z) {ms : List Int} (non : ∀ m : Int, m ∉ ms → spentW W c s m = 0) (m : Nat) (hm : decide (lvW W c s z m < z.reserve) = true) (no : (m : Int) ∉ ms) : ∃ j, m = j + 1 ∧ decide (lvW W c s z j < z.reserve) = true := by
  have hm := of_decide_eq_true hm
  have ok := wok.sats z (List.mem_of_getElem? hz)
  have k1 := ok.level
  have k2 := ok.reserve
  have k3 := ok.charge
  have e : lvW W c s z m = aheadW z.battery z.level (fun m => spentW W c s (m : Int)) (chgI z.light z.charge) m := by
    show aheadW _ _ _ _ m - spentW W c s (m : Int) = _
    rw [non _ no, Int.sub_zero]
  rw [e] at hm
  cases m with
  | zero =>
    exfalso
    have hm : z.level < z.reserve := hm
    omega
  | succ j =>
    refine ⟨j, rfl, decide_eq_true ?_⟩
    rw [ahead_succ] at hm
    have := chg_pos (l := z.light) k3.1 j
    show levelW z.battery z.level (fun m => spentW W c s (m : Int)) (chgI z.light z.charge) j < z.reserve
    omega
end DP
namespace DP
open PySem PySem.Spec PyProof.Rows L2
section
variable {prog : Program} {w : World} {A : Around} {R : Result → Shared → Prop} {J : Addr} {fp wr : List Addr} {G : Array GenState → Array GenState → Prop} {n : Nat} {Pv : Nat → Value → Prop} {St : Nat → Shared → Prop} {E : Value → Shared → Prop} {z : Shared}
theorem upd_loop (V : PySem.WalksS prog w A.in1 J fp wr G n Pv St) (S : Addr) (no : S ∉ fp) (f : Nat → Int) (fv : ∀ i v, Pv i v → ∃ t, v = .int (f i) t) (room : n + 1 < scanBound) :
    ∀ (k i : Nat) (z : Shared) (m : Nat), n - i = k → i ≤ n → St i z → m ≤ i → SetR w z.heap S (fun x => ((List.range i).map f).any fun y => decide (x = y)) m →
      (∀ z' m', Moved (S :: wr) G z z' → m' ≤ n → SetR w z'.heap S (fun x => ((List.range n).map f).any fun y => decide (x = y)) m' → R (.ok (.ret .none)) z') →
      codeAny (model prog w) A (.builtin "set.update.loop" ⟨[.ref S, .ref J], []⟩) R z := by
  have nw : S ∉ wr := fun h => no (V.sub _ h)
  have sb : ∀ b ∈ wr, b ∈ S :: wr := fun b hb => List.mem_cons_of_mem _ hb
  intro k
  induction k with
  | zero =>
    intro i z m hk hi st hm rs q
    have e : i = n := by omega
    subst e
    refine codeAny_builtin F.entry_set_update_loop ?_; rw [Around.under_plainId F.plain_set_update_loop _]
    show wpAny _ A.in1 (pyNext (.ref J) >>= _) _ _ z
    refine wpAny_bind (V.done z _ _ st fun z' mv => ?_)
    show wpAny _ A.in1 (ret Value.none) _ _ z'
    exact wpAny_pure (q z' m (mv.mono sb) hm (rs.at fun o e => mv.heap S _ nw e))
  | succ k ih =>
    intro i z m hk hi st hm rs q
    have lt : i < n := by omega
    refine codeAny_builtin F.entry_set_update_loop ?_; rw [Around.under_plainId F.plain_set_update_loop _]
    show wpAny _ A.in1 (pyNext (.ref J) >>= _) _ _ z
    refine wpAny_bind (V.item i z _ _ lt st fun v z' hP st' mv => ?_)
    obtain ⟨t, rfl⟩ := fv i v hP
    have rs' := rs.at (h' := z'.heap) fun o e => mv.heap S _ nw e
    show wpAny _ A.in1 (holding [Value.int (f i) t] (setAdd S (.int (f i) t)) >>= _) _ _ z'
    refine wpAny_bind (wpAny_holding ?_); unfold setAdd
    refine wpAny_holding (wpAny_bind ((intKind prog w).pyHash (k := f i) (intKind_is _ _ _ _) ?_))
    refine setR_add_hashed (s := { z' with toks := z'.toks + 1 }) rs' (by omega) fun h' sm r2 => ?_
    have r3 := r2.congr (S' := fun x => ((List.range (i + 1)).map f).any fun y => decide (x = y)) fun x => by
      rw [List.range_succ, List.map_append, List.any_append]
      simp
    refine wpAny_pure ⟨plainId_quiet F.plain_set_update_loop _, ih (i + 1) _ _ (by omega) lt (V.frame _ z' _ _ st' (Nat.le_succ _) fun b hb o e => ?_) (by split <;> omega) r3 fun z2 m2 mv2 hm2 rs2 => ?_⟩
    · rw [sm.2 b (fun h : b = S => no (by rw [← h]; exact hb))]; exact e
    · refine q z2 m2 (Moved.trans V.gtrans ((mv.mono sb).then_heap (Nat.le_succ _) fun b o hb e => ?_) mv2) hm2 rs2
      rw [sm.2 b (fun h : b = S => hb (by rw [h]; exact List.mem_cons_self))]; exact e
def setNew (w : World) : Obj := { cls := .type "set", dict := none, data := .set #[] 0 (.fresh 0 0 (!w.params.followText "set-order")) }
theorem code_set1 (a : Value) {Q₁ : Value → Shared → Prop} (h : Q₁ (.ref z.heap.objs.size) { z with heap := z.heap.push (setNew w) }) :
    codeAny (model prog w) A (.call (.builtin "set.__new__") ⟨[.type "set", a], []⟩) (wants Q₁ E) z := by
  refine codeAny_of_tree (show wpAny _ A.in1 (do checkBuiltinCall "set.__new__" ⟨[.type "set", a], []⟩; again (.builtin "set.__new__" ⟨[.type "set", a], []⟩)) _ _ z from ?_)
  refine wpAny_bind (wpAny_of_eq (F.newCall_set_1 a) (wpAny_pure ⟨plainId_quiet F.plain_set_new _, codeAny_builtin F.entry_set_new (by
    rw [Around.under_plainId F.plain_set_new _]
    unfold Builtin.«set.__new__» Builtin.Frozenset.newClass
    have hsub := sub_set_self
    obtain ⟨hp, g, d, tk, os⟩ := z
    dsimp only
    wp_walk
    refine wpAny_askSetting (wpAny_pure ?_)
    dsimp only
    simp only [newObj]
    refine wpAny_bind (wpAny_alloc (wpAny_pure ?_))
    exact wpAny_pure h)⟩))
set_option maxHeartbeats 4000000 in
theorem call_set1 {l : Addr} {items : Array Value} {ns : List Int} {Q : Value → Shared → Prop} (ho : A.handled = none) (hl : z.heap.IsList l items) (hi : PyProof.Rows.IntsAre items.toList ns) (hb : items.size + 1 < scanBound)
    (h : ∀ (h' : Heap) (tk m : Nat), m ≤ items.size → SetR w h' z.heap.objs.size (fun x => ((List.range items.size).map fun i => ns.getD i 0).any fun y => decide (x = y)) m →
      (∀ b o, b < z.heap.objs.size → z.heap.get? b = some o → h'.get? b = some o) → Q (.ref z.heap.objs.size) { z with heap := h', toks := tk }) :
    wpAny (model prog w) A (call (.type "set") [.ref l]) Q E z := by
  obtain ⟨c, tl, hmro⟩ := F.called_set.mro
  have hmade := F.called_set.made; have hsub := F.called_set.sub
  refine wpAny_call (codeAny_of_tree (show wpAny _ _ (callAny (.type "set") _) _ _ _ from ?_))
  refine wpAny_pure ⟨Code.quiet_builtin _ (by decide +kernel), codeAny_builtin F.entry_type_call (by
    rw [Around.under_plain (weight_type_call_type "set" [.ref l] []) rfl]
    have h1 := F.called_set.notType; have h2 := F.called_set.canCreate; have hct := F.typeCall_set_1 (.ref l)
    repeat (any_goals (first | assumption | wp_step))
    refine codeAny_mono (code_set1 (.ref l) (E := E) (Q₁ := fun obj z₁ => obj = .ref z.heap.objs.size ∧ z₁ = { z with heap := z.heap.push (setNew w) }) ⟨rfl, rfl⟩) fun r z₁ hr => ?_
    cases r with
    | error e => exact hr
    | ok fl =>
      cases fl with
      | ret obj =>
        obtain ⟨rfl, rfl⟩ := hr
        have gS : (z.heap.push (setNew w)).get? z.heap.objs.size = some (setNew w) := Heap.get?_push_size _ rfl
        have gT : Shared.TypeIs { z with heap := z.heap.push (setNew w) } (.ref z.heap.objs.size) "set" := ⟨_, gS, rfl⟩
        have hli := F.called_set.init.lookup; have hbi := F.called_set.init.bind (.ref z.heap.objs.size)
        repeat (any_goals (first | assumption | wp_step))
        refine codeAny_mono (codeAny_call_builtin (R := wants (fun r z₂ => r = .none ∧ ∃ h' tk m, z₂ = { z with heap := h', toks := tk } ∧ m ≤ items.size ∧ SetR w h' z.heap.objs.size (fun x => ((List.range items.size).map fun i => ns.getD i 0).any fun y => decide (x = y)) m ∧
            (∀ b o, b < z.heap.objs.size → z.heap.get? b = some o → h'.get? b = some o)) E) F.called_set.init.plain F.entry_set_init (check_set_init_1 gT ?_)) fun r₂ z₂ hr₂ => ?_
        · obtain ⟨ol, hol, hcl, nl, hdl⟩ := hl
          obtain ⟨ocls, odict, odata, oslots⟩ := ol
          simp only at hcl hdl
          subst hcl hdl
          have hol2 : (z.heap.push (setNew w)).get? l = some { cls := .type "list", dict := odict, data := .seq items nl, slots := oslots } := Heap.get?_push_of_some _ hol
          have hsls := F.sub_list_set; have hslf := F.sub_list_frozenset
          have hne : (Value.type "list" == Value.type "dict") = false := by decide
          have hl1 : (z.heap.push (setNew w)).IsList l items := ⟨_, hol2, rfl, nl, rfl⟩
          unfold Builtin.«set.__init__» noKeywords Builtin.Frozenset.updateFrom
          generalize hPI : pyIter = PI
          wp_walk
          subst hPI
          refine wpAny_pyIter_list hl1 (wpAny_bind (wpAny_runValue ?_))
          have hlS : l < z.heap.objs.size := Heap.lt_size hol
          have hh3 : A.in1.in1.in1.handled = none := by simp [ho]
          have hneI : l ≠ (z.heap.push (setNew w)).objs.size := by rw [Heap.size_push]; exact Nat.ne_of_lt (Nat.lt_succ_of_lt hlS)
          have hSf : z.heap.objs.size ∉ [(z.heap.push (setNew w)).objs.size, l] := by
            rw [Heap.size_push]; simp only [List.mem_cons, List.not_mem_nil, or_false, not_or]; exact ⟨Nat.ne_of_lt (Nat.lt_succ_self _), Nat.ne_of_gt hlS⟩
          refine upd_loop ((Walks.list hh3 _ l hneI items).toS) z.heap.objs.size hSf (fun i => ns.getD i 0) (fun i v hv => PyProof.Rows.IntsAre.int_at hi i v (by rw [Array.getElem?_toList]; exact hv)) hb (items.size - 0) 0 _ 0 (by omega) (Nat.zero_le _)
            ⟨⟨_, Heap.get?_push_size _ rfl, rfl, rfl⟩, (hl1.push _)⟩ (Nat.le_refl _) (((setR_fresh (h := z.heap) w).congr fun _ => rfl).at fun o e => Heap.get?_push_of_some _ e) fun z' m' mv hm' rs => ?_
          obtain ⟨h', g', d', tk', os'⟩ := z'
          have eg : g' = z.gens := mv.gens
          have ed : d' = z.drawn := mv.drawn
          have eo : os' = z.os := mv.os
          subst eg ed eo
          show wpAny _ _ _ _ _ _
          refine wpAny_pure ?_
          show wpAny _ _ (ret Value.none) _ _ _
          refine wpAny_pure ⟨rfl, h', tk', m', rfl, hm', rs, fun b o hb2 e => ?_⟩
          refine mv.heap b o ?_ (Heap.get?_push_of_some _ (Heap.get?_push_of_some _ e))
          rw [Heap.size_push]; simp only [List.mem_cons, List.not_mem_nil, or_false, not_or]; exact ⟨Nat.ne_of_lt hb2, Nat.ne_of_lt (Nat.lt_succ_of_lt hb2)⟩
        · cases r₂ with
          | error e => exact hr₂
          | ok fl₂ =>
            cases fl₂ with
            | ret r =>
              obtain ⟨rfl, h', tk, m, rfl, hm, rs, hk'⟩ := hr₂
              repeat (any_goals (first | assumption | wp_step))
              exact h _ _ m hm rs hk'
            | _ => exact hr₂.elim
      | _ => exact hr.elim)⟩
end
theorem any_getD (ns : List Int) (x : Int) : (((List.range ns.length).map fun i => ns.getD i 0).any fun y => decide (x = y)) = decide (x ∈ ns) := by
  rw [Bool.eq_iff_iff, List.any_eq_true, decide_eq_true_eq]
  constructor
  · rintro ⟨y, hy, e⟩
    obtain ⟨i, hi, rfl⟩ := List.mem_map.mp hy
    rw [List.mem_range] at hi
    rw [of_decide_eq_true e, List.getD_eq_getElem?_getD, List.getElem?_eq_getElem hi]
    exact List.getElem_mem hi
  · intro h
    obtain ⟨i, hi, rfl⟩ := List.mem_iff_getElem.mp h
    exact ⟨ns[i], List.mem_map.mpr ⟨i, List.mem_range.mpr hi, by rw [List.getD_eq_getElem?_getD, List.getElem?_eq_getElem hi]; rfl⟩, decide_eq_true rfl⟩
/-- set(xs), ints -/
def rSetI (K : PySem.W.Frag) (w : World) : List V → Hp → VK → Prop := fun vs H Q => ∃ (l : Addr) (ns : List Int), vs = [V.ref l] ∧ SqL K H l (ns.map V.int) ∧ ns.length ≤ 1000 ∧ ∀ a m, m ≤ ns.length → H a = none → Q (.ref a) (upd H a (SetO w a (fun x => decide (x ∈ ns)) m))
theorem cr_setI {X : Cx} (hc : X.calm = true) : CallR X (.type "set") (rSetI X.K X.w) := by
  intro pins s σ H xs us Q I r h
  obtain ⟨l, ns, rfl, hl, hn, q⟩ := h
  rw [Vals.ref1 r]
  obtain ⟨its, rv, pl, hz⟩ := I.list hl
  have hs : its.toArray.size = ns.length := by rw [List.size_toArray, ← rv.length, List.length_map]
  refine call_set1 (w := X.w) (I.ok.hd hc) pl.isList (by simpa using rv.ints) (by rw [hs]; unfold scanBound; omega) fun h' tk m hm rs hk => ?_
  rw [hs] at hm rs
  have rs2 := rs.congr (S' := fun x => decide (x ∈ ns)) fun x => (any_getD ns x).symm
  exact ⟨.ref s.heap.objs.size, upd H s.heap.objs.size (SetO X.w s.heap.objs.size (fun x => decide (x ∈ ns)) m), I.laid (t' := tk) (fun b o e => hk b o (Heap.lt_size e) e) (Nat.le_refl _) (setO_new rs2), rfl, q _ m hm (I.hok.fresh (Nat.le_refl _))⟩
end DP
namespace DP
open PySem PySem.Spec PyProof.Rows L2
abbrev s_store_peaks : Stmt := topS 64
theorem sc_store_peaks : FnScope ["world", "case", "number", "held", "r", "start", "p", "recording", "_", "end", "minutes", "span", "minute", "size"] ["world", "case", "number"] (defScope s_store_peaks) := ⟨rfl, rfl, rfl, by decide +kernel, rfl, by decide +kernel, by decide +kernel⟩
abbrev s_battery_lows : Stmt := topS 65
theorem sc_battery_lows : FnScope ["world", "case", "number", "satellite", "spent", "found", "level", "last", "full", "minute"] ["world", "case", "number"] (defScope s_battery_lows) := ⟨rfl, rfl, rfl, by decide +kernel, rfl, by decide +kernel, by decide +kernel⟩
abbrev s_unit_breaches : Stmt := topS 78
theorem sc_unit_breaches : FnScope ["world", "case", "number", "satellite", "over", "low", "found", "minute", "used", "level", "_"] ["world", "case", "number"] (defScope s_unit_breaches) := ⟨rfl, rfl, rfl, by decide +kernel, rfl, by decide +kernel, by decide +kernel⟩
theorem cr_sumK {X : Cx} {K : PySem.W.Frag} (h : X.K = K) (hc : X.calm = true) : CallR X (.builtin "sum") (rSum K) := by subst h; exact cr_sum hc
theorem pi_listK {X : Cx} {K : PySem.W.Frag} (h : X.K = K) {tg l : Expr} {tl : TE} (hl : PE X l tl) : PI X tg l (iList K tl) := by subst h; exact pi_list hl
theorem lc_stepU {α : Type} {f : α → Int} {l : List α} {i : Nat} {a : α} {H0 H' : Hp} {D : Addr} (h : l[i]? = some a) (n : l.length ≤ 1000) (hD : H0 D = none) (hs : Same H0 H') (hd : H' D = some (.lst (((l.take i).map f).map V.int))) :
    ∃ acc, H' D = some (.lst acc) ∧ acc.length < sizeLine ∧ Same H0 (upd H' D (.lst (acc ++ [.int (f a)]))) ∧ (upd H' D (.lst (acc ++ [.int (f a)]))) D = some (.lst (((l.take (i + 1)).map f).map V.int)) := by
  have hi := (List.getElem?_eq_some_iff.mp h).1
  refine ⟨_, hd, by rw [List.length_map, List.length_map, List.length_take]; exact small1000 (by omega), same_at hD hs _, ?_⟩
  rw [upd_same, List.take_add_one, h, List.map_append, List.map_append]
  rfl
def heldPy (W : WorldD) (q : Trip) : PyData := .tuple [.tuple [.int q.2.1, .int (finT W q)], .int (sizeT W q)]
theorem noL_held (W : WorldD) (q : Trip) : noL (heldPy W q) := by simp [heldPy, noL, noLs]
def peakPy (W : WorldD) (c : CaseD) (s : Nat) (m : Int) : PyData := .tuple [.int m, .int (usedW W c s m)]
theorem noL_peak (W : WorldD) (c : CaseD) (s : Nat) (m : Int) : noL (peakPy W c s m) := by simp [peakPy, noL, noLs]
def optI : Option Int → PyData
  | none => .none
  | some i => .int i
def lowPy (q : Int × Int × Option Int) : PyData := .tuple [.int q.1, .int q.2.1, optI q.2.2]
theorem noL_low (q : Int × Int × Option Int) : noL (lowPy q) := by
  obtain ⟨a, b, o⟩ := q
  cases o <;> simp [lowPy, optI, noL, noLs]
theorem dp_held {K : PySem.W.Frag} {H : Hp} {v : V} {W : WorldD} {q : Trip} (h : Dp K H v (heldPy W q)) : ∃ u t, v = .ref u ∧ SqT K H u [.ref t, .int (sizeT W q)] ∧ SqT K H t [.int q.2.1, .int (finT W q)] := by
  obtain ⟨u, xs, rfl, hu, hx⟩ := dp_tup h
  cases hx with
  | cons a hx =>
  cases hx with
  | cons b hx =>
  cases hx
  cases b
  obtain ⟨t, ys, rfl, ht, hy⟩ := dp_tup a
  cases hy with
  | cons a hy =>
  cases hy with
  | cons b hy =>
  cases hy
  cases a
  cases b
  exact ⟨u, t, rfl, hu, ht⟩
theorem dp_peak {K : PySem.W.Frag} {H : Hp} {v : V} {W : WorldD} {c : CaseD} {s : Nat} {m : Int} (h : Dp K H v (peakPy W c s m)) : ∃ u, v = .ref u ∧ SqT K H u [.int m, .int (usedW W c s m)] := by
  obtain ⟨u, xs, rfl, hu, hx⟩ := dp_tup h
  cases hx with
  | cons a hx =>
  cases hx with
  | cons b hx =>
  cases hx
  cases a
  cases b
  exact ⟨u, rfl, hu⟩
theorem dp_low {K : PySem.W.Frag} {H : Hp} {v : V} {q : Int × Int × Option Int} (h : Dp K H v (lowPy q)) : ∃ u x, v = .ref u ∧ SqT K H u [.int q.1, .int q.2.1, x] := by
  obtain ⟨u, xs, rfl, hu, hx⟩ := dp_tup h
  cases hx with
  | cons a hx =>
  cases hx with
  | cons b hx =>
  cases hx with
  | cons e hx =>
  cases hx
  cases a
  cases b
  exact ⟨u, _, rfl, hu⟩
theorem used_list (W : WorldD) (l : List Trip) (m : Int) : ((l.filter fun q => inM m q.2.1 (finT W q)).map (sizeT W)).sum = usedL W l m := by
  unfold usedL
  induction l with
  | nil => rfl
  | cons a l ih =>
    rw [List.filter_cons, List.map_cons, List.sum_cons, ← ih]
    unfold inM
    by_cases c1 : a.2.1 ≤ m
    · by_cases c2 : m < finT W a
      · rw [if_pos (by rw [decide_eq_true c1, decide_eq_true c2]; rfl), if_pos ⟨c1, c2⟩, List.map_cons, List.sum_cons]
      · rw [if_neg (by rw [decide_eq_false c2, Bool.and_false]; exact Bool.false_ne_true), if_neg (fun z => c2 z.2), Int.zero_add]
    · rw [if_neg (by rw [decide_eq_false c1, Bool.false_and]; exact Bool.false_ne_true), if_neg (fun z => c1 z.1), Int.zero_add]
section
variable {P : Program} {w : World} {K : PySem.W.Frag} {mg : Str → Option Value} {base : Heap} {CL CS CT CR CP CW aS aR fS fT fR fP : Addr}
def spPeaks (K : PySem.W.Frag) (CS CT CR CP CW : Addr) : Sp := fun vs H Q _ => ∃ (ac : Addr) (v : V) (W : WorldD) (o : Bool) (c : CaseD) (s : Nat), vs = [.ref ac, v, .int (s : Int)] ∧ WorldOk W ∧ WorldAt K CS CT CR CP CW H ac W ∧ CaseG W o c ∧ Dp K H v (casePy c) ∧
  ∀ D H' ms, Same H H' → H D = none → ms.Pairwise (· < ·) → (∀ k, k ∈ ms ↔ k ∈ startsW W c s) → DL K (peakPy W c s) H' D ms → Q (.ref D) H'
set_option maxHeartbeats 8000000 in
theorem d_peaks (T : TxtW K mg CL CS CT CR CP CW aS aR fS fT fR fP) (BS : mg "sorted" = none) (BE : mg "set" = none) (D_made_recordings : DefOk P w K mg base CX0 2 "made_recordings" ["world", "case"] (spMade K CS CT CR CP CW)) (D_has_minute : DefOk P w K mg base CX0 1 "has_minute" ["span", "minute"] (spHasM K)) (A : At K mg "store_peaks" s_store_peaks ["world", "case", "number"]) :
    DefOk P w K mg base CX0 3 "store_peaks" ["world", "case", "number"] (spPeaks K CS CT CR CP CW) := by
  have B := T.L.B
  refine A.ok sc_store_peaks (fun vs H Q E h => ?_) (fun f cdv A outer s H vs Q E hr h => ?_)
  · obtain ⟨ac, v, W, o, c, n, rfl, _⟩ := h
    rfl
  obtain ⟨ac, v, W, o, c, n, rfl, wok, hW, cg, hc, q⟩ := h
  obtain ⟨dx, t0, t1, t2, t3, x0, x1, x2, x3, gw, _, _, _, _, p2, q2, p3, q3⟩ := hW.ex
  refine ⟨_, pss_cons (ps_set (i := 3) sc_store_peaks.nd rfl (Or.inr rfl) (pe_lst pa_nil))
  (pss_cons (ps_for PassesOwn.never rfl (pi_list (pe_f D_made_recordings (hr.mono (by omega)) pass0 (pa_cons (pv 0) (pa_cons (pv 1) pa_nil)))) (pg_tup (by rfl) (pgs_cons (pg_name (i := 4) sc_store_peaks.nd rfl (Or.inl rfl)) (pgs_cons (pg_name (i := 5) sc_store_peaks.nd rfl (Or.inl rfl)) (pgs_cons (pg_name (i := 6) sc_store_peaks.nd rfl (Or.inl rfl)) (pgs_nil)))))
      (pss_cons (ps_set (i := 7) sc_store_peaks.nd rfl (Or.inl rfl) (pe_ix ix_tup (pe_fld (pv 0) rfl) (pv 4) (fun _ _ => rfl)))
      (pss_one (ps_if (pt_cmpR op_eq (pe_fld (pv 7) rfl) (pv 2) (nomark _))
          (pss_cons (ps_asg (pe_fld (pe_ix ix_tup (pe_fld (pv 0) rfl) (pv 6) (fun _ _ => rfl)) rfl) (pg_tup (by rfl) (pgs_cons (pg_name (i := 8) sc_store_peaks.nd rfl (Or.inl rfl)) (pgs_cons (pg_name (i := 9) sc_store_peaks.nd rfl (Or.inl rfl)) (pgs_nil)))))
          (pss_one (ps_expr (pe_bm PySem.F.plainAttrs_list PySem.F.slot_list_append PySem.F.type_list_append mt_append (pv 3) (pa_cons (pe_tup (pa_cons (pe_tup (pa_cons (pv 5) (pa_cons (pv 9) pa_nil))) (pa_cons (pe_fld (pv 7) rfl) pa_nil))) pa_nil)))))
          (pss_nil)))))
  (pss_cons (ps_set (i := 10) sc_store_peaks.nd rfl (Or.inl rfl) (pe_callB (cr_sortedSet rfl) (by rfl) BS (by decide +kernel) (pa_cons (pe_callTy (cr_setI rfl) (by rfl) BE (by decide +kernel) (pa_cons (pe_lc (own := [("span", 11), ("_", 8)])  rfl sc_store_peaks.nd (pi_listK (K := K) rfl (pv 3)) (blkOk_by (own := [("span", 11), ("_", 8)]) (N := ["world", "case", "number", "held", "r", "start", "p", "recording", "_", "end", "minutes", "span", "minute", "size"]) (sc := defScope s_store_peaks) (by decide +kernel)) (fun _ _ _ _ _ => pg_tupK (K := K) (n := 2) rfl (by rfl) (pgs_cons (pg_name (i := 11) sc_store_peaks.nd rfl (Or.inl rfl)) (pgs_cons (pg_name (i := 8) sc_store_peaks.nd rfl (Or.inl rfl)) (pgs_nil)))) (fun _ _ _ _ _ => pts_nil) (fun _ _ _ _ _ => (pe_ix (ix_tupK (K := K) rfl) (pv 11) pe_int (fun _ _ => rfl)))) pa_nil)) pa_nil)))
  (pss_one (ps_ret (pe_lc (own := [("minute", 12)])  rfl sc_store_peaks.nd (pi_list (pv 10)) (blkOk_by (own := [("minute", 12)]) (N := ["world", "case", "number", "held", "r", "start", "p", "recording", "_", "end", "minutes", "span", "minute", "size"]) (sc := defScope s_store_peaks) (by decide +kernel)) (fun _ _ _ _ _ => pg_name (i := 12) sc_store_peaks.nd rfl (Or.inr rfl)) (fun _ _ _ _ _ => pts_nil) (fun _ _ _ _ _ => (pe_tup (pa_cons (pv 12) (pa_cons (pe_callB (cr_sumK (K := K) rfl rfl) (by rfl) B.sum (by decide +kernel) (pa_cons (pe_lc (own := [("span", 11), ("size", 13)])  rfl sc_store_peaks.nd (pi_listK (K := K) rfl (pv 3)) (blkOk_by (own := [("span", 11), ("size", 13)]) (N := ["world", "case", "number", "held", "r", "start", "p", "recording", "_", "end", "minutes", "span", "minute", "size"]) (sc := relS _ (defScope s_store_peaks)) (by decide +kernel)) (fun _ _ _ _ _ => pg_tupK (K := K) (n := 2) rfl (by rfl) (pgs_cons (pg_name (i := 11) sc_store_peaks.nd rfl (Or.inl rfl)) (pgs_cons (pg_name (i := 13) sc_store_peaks.nd rfl (Or.inl rfl)) (pgs_nil)))) (fun _ _ _ _ _ => pts_one (pt_val (pe_f D_has_minute (hr.mono (by omega)) pass0 (pa_cons (pv 11) (pa_cons (pv 12) pa_nil))))) (fun _ _ _ _ _ => (pv 13))) pa_nil)) pa_nil)))))))))
    , ?_⟩
  refine ⟨Nat.zero_le _, fun D hD => ?_⟩
  have s1 := same_new hD (.lst [])
  have nD := hD
  refine ⟨_, rfl, _, rfl, ac, v, W, o, c, rfl, wok, hW.same s1, cg, dp_same s1 hc, fun M H1 s2 nM hM => ?_⟩
  obtain ⟨xm, hM1, hM2⟩ := hM
  have lM := dpAll_len hM2
  rw [List.length_map] at lM
  have nMD : M ≠ D := fun z => by rw [z, upd_same] at nM; cases nM
  have hD1 := s2 _ _ (show (upd H D (.lst [])) D = some (.lst []) from upd_same)
  have l10 : (madeL W c W.recs.length).length ≤ 10 := Nat.le_trans (madeL_len W c _) wok.nRecs
  refine ⟨M, rfl, ⟨_, SqL.of hM1⟩, ?_⟩
  refine for_it (walk_list (K := K) (a := M) (xs := xm)) (fun i σ H' => ∃ y4 y5 y6 y7 y8 y9, σ = [some (.ref ac), some v, some (.int (n : Int)), some (.ref D), y4, y5, y6, y7, y8, y9, none, none, none, none] ∧ SameX D H1 H' ∧ DL K (heldPy W) H' D (((madeL W c W.recs.length).take i).filter fun q => satOf W n q.1)) ⟨none, none, none, none, none, none, rfl, SameX.refl _ _, [], hD1, .nil⟩ (fun i σ H' _ hI => ?_) (fun i v' σ H2 H3 hi hI hy => ?_) (fun σ H2 hI => ?_)
  · obtain ⟨y4, y5, y6, y7, y8, y9, rfl, hs, _⟩ := hI
    exact SqL.of (hs _ _ nMD hM1)
  · obtain ⟨y4, y5, y6, y7, y8, y9, rfl, hs, hd⟩ := hI
    obtain ⟨rfl, hx⟩ := hy
    obtain ⟨q1, hq1, dq1⟩ := dpAll_get (dpAll_sx (noLs_map noL_trip _) hD1 hs hM2) hx
    obtain ⟨r0, z, y, hz, hy2, p0, ho⟩ := mem_made (List.mem_of_getElem? hq1)
    obtain ⟨tt, rfl, htt⟩ := dp_trip dq1
    have hsH := sx_same (s1.trans s2) nD hs
    obtain ⟨ob, od, hob, o1⟩ := rec_at q2 hz
    obtain ⟨pb, pd, ts, hpb, c1, c2⟩ := pas_at q3 hy2
    have ft : ((madeL W c W.recs.length).take (i + 1)).filter (fun q => satOf W n q.1) = ((madeL W c W.recs.length).take i).filter (fun q => satOf W n q.1) ++ if satOf W n q1.1 = true then [q1] else [] := by
      rw [List.take_add_one, hq1, Option.toList_some, List.filter_append, List.filter_cons, List.filter_nil]
    have sat1 : satOf W n q1.1 = decide (z.sat = n) := by unfold satOf; rw [hz]
    refine ⟨tt, _, rfl, htt, rfl, _, _, rfl, _, _, rfl, _, _, rfl, rfl, ?_⟩
    refine ⟨_, rfl, ac, CW, dx, _, _, rfl, hsH _ _ gw, T.c_World.cl, T.n_World_recordings, lk_World_recordings, _, rfl, t2, x2, (q1.1 : Int), _, rfl, rfl, Same.tup hsH p2, atI_nat hob, ?_⟩
    refine ⟨_, rfl, ob, CR, od, _, _, rfl, hsH _ _ o1, T.c_Recording.cl, T.n_Recording_satellite, lk_Recording_satellite, _, rfl, rfl, _, rfl, ite2 (fun k1 => ?_) (fun k1 => ?_)⟩
    · have es : z.sat = n := by have := V.int.inj (of_decide_eq_true k1); (clear T BS BE D_made_recordings D_has_minute B hr wok hW cg hc q gw p2 q2 p3 q3 hD s1 nD s2 nM hM1 hM2 lM nMD hD1 l10 hi hs hd hq1 r0 hz hy2 p0 ho htt hx dq1 hsH hob o1 hpb c1 c2 ft sat1 k1; omega)
      have ef : finT W q1 = y.fin := by unfold finT; rw [hy2]; rfl
      have ez : sizeT W q1 = z.size := by unfold sizeT; rw [hz]; rfl
      refine ⟨_, rfl, ac, CW, dx, _, _, rfl, hsH _ _ gw, T.c_World.cl, T.n_World_passes, lk_World_passes, _, rfl, t3, x3, _, _, rfl, rfl, Same.tup hsH p3, (by rw [show q1.2.2 = ((q1.2.2.toNat : Nat) : Int) by (clear T BS BE D_made_recordings D_has_minute B hr wok hW cg hc q gw p2 q2 p3 q3 hD s1 nD s2 nM hM1 hM2 lM nMD hD1 l10 hi hs hd hq1 r0 hz hy2 ho htt hx dq1 hsH hob o1 hpb c1 c2 ft sat1 k1 es ef ez; omega)]; exact atI_nat hpb), pb, CP, pd, _, _, rfl, hsH _ _ c1, T.c_Pass.cl, T.n_Pass_span, lk_Pass_span, ts, _, rfl, Same.tup hsH c2, rfl, _, _, rfl, _, _, rfl, rfl, ?_⟩
      obtain ⟨xd0, hxd0, _⟩ := id hd
      refine ⟨_, rfl, .inl ⟨rfl, _, SqL.of hxd0⟩, _, rfl, _, rfl, sz2_, fun t4 h4 => ?_⟩
      have s4 := same_new h4 (.tup [.int q1.2.1, .int y.fin])
      refine ⟨_, rfl, ob, CR, od, _, _, rfl, s4 _ _ (hsH _ _ o1), T.c_Recording.cl, T.n_Recording_size, lk_Recording_size, sz2_, fun t5 h5 => ?_⟩
      have s5 := same_new h5 (.tup [.ref t4, .int z.size])
      have s45 := s4.trans s5
      have dv : Dp K (upd (upd H3 t4 (.tup [.int q1.2.1, .int y.fin])) t5 (.tup [.ref t4, .int z.size])) (.ref t5) (heldPy W q1) := by
        unfold heldPy
        rw [ef, ez]
        exact .tup (SqT.of upd_same) (.cons (.tup (Same.tup s5 (SqT.of upd_same)) (.cons (.int _) (.cons (.int _) .nil))) (.cons (.int _) .nil))
      obtain ⟨xs, g1, g2, g3⟩ := (hd.same s45).push (a := q1) (noL_held W) dv (Nat.lt_of_le_of_lt (List.length_filter_le _ _) (by rw [List.length_take]; (clear T BS BE D_made_recordings D_has_minute B hr wok hW cg hc q gw p2 q2 p3 q3 hD s1 nD s2 nM hM1 hM2 nMD hD1 hs hd hq1 r0 hz hy2 p0 ho htt hx dq1 hsH hob o1 hpb c1 c2 ft sat1 k1 es ef ez hxd0 h4 s4 h5 s5 s45 dv; omega)))
      refine ⟨D, xs, _, rfl, rfl, g1, g2, _, _, _, _, _, _, rfl, (hs.trans (SameX.of s45)).at_, ?_⟩
      rw [ft, sat1, decide_eq_true es, if_pos rfl]
      exact g3
    · refine ⟨_, _, _, _, _, _, rfl, hs, ?_⟩
      rw [ft, sat1, decide_eq_false (fun e => k1 (decide_eq_true (by rw [e]))), if_neg Bool.false_ne_true, List.append_nil]
      exact hd
  · obtain ⟨y4, y5, y6, y7, y8, y9, rfl, hs, hd⟩ := hI
    rw [lM, List.take_length] at hd
    have hd : DL K (heldPy W) H2 D (madeS W c n W.recs.length) := hd
    have lS : (madeS W c n W.recs.length).length ≤ 10 := Nat.le_trans (List.length_filter_le _ _) l10
    have hsH := sx_same (s1.trans s2) nD hs
    obtain ⟨xh, hh1, hh2⟩ := hd
    have lh := dpAll_len hh2
    rw [List.length_map] at lh
    generalize hL : madeS W c n W.recs.length = L at hh2 lS lh
    refine ⟨_, rfl, D, rfl, ⟨_, SqL.of hh1⟩, fun Y hY => lc_list (K := K) (a := D) (xs := xh) (fun i H' => Same H2 H' ∧ H' Y = some (.lst (((L.take i).map fun q => q.2.1).map V.int))) ⟨same_new hY _, upd_same⟩ (fun i H' _ h => SqL.of (h.1 _ _ hh1)) (fun i x H3 hx hI => ?_) (fun H3 hI => ?_)⟩
    · obtain ⟨hs3, hY3⟩ := hI
      obtain ⟨q1, hq1, dq1⟩ := dpAll_get hh2 hx
      obtain ⟨u, t, rfl, hu, ht⟩ := dp_held (dp_same hs3 dq1)
      refine ⟨u, _, rfl, hu, rfl, _, _, rfl, _, _, rfl, rfl, rfl, _, rfl, t, _, 0, _, rfl, rfl, ht, rfl, ?_⟩
      exact lc_stepU (f := fun q : Trip => q.2.1) hq1 (by (clear T BS BE D_made_recordings D_has_minute B hr wok hW cg hc q gw p2 q2 p3 q3 hD s1 nD s2 nM hM1 hM2 lM nMD hD1 l10 hs hd hsH hh1 hL hh2 hY hs3 hY3 hq1 hx dq1 hu ht; omega)) hY hs3 hY3
    obtain ⟨s3, hY3⟩ := hI
    rw [lh, List.take_length] at hY3
    refine ⟨Y, L.map fun q => q.2.1, rfl, SqL.of hY3, by rw [List.length_map]; (clear T BS BE D_made_recordings D_has_minute B hr wok hW cg hc q gw p2 q2 p3 q3 hD s1 nD s2 nM hM1 hM2 lM nMD hD1 l10 hs hd hsH hh1 hL hh2 hY s3 hY3; omega), fun a m hm ha => ?_⟩
    rw [List.length_map] at hm
    have s4 := s3.trans (same_new ha (SetO w a (fun x => decide (x ∈ L.map fun q : Trip => q.2.1)) m))
    refine ⟨a, _, m, rfl, upd_same, by (clear T BS BE D_made_recordings D_has_minute B hr wok hW cg hc q gw p2 q2 p3 q3 hD s1 nD s2 nM hM1 hM2 lM nMD hD1 l10 hs hd hsH hh1 hL hh2 hY s3 hY3 ha s4; omega), fun ms pm pw mem lm hpm => ?_⟩
    have s5 := s4.trans (same_new hpm (.lst (ms.map V.int)))
    have hms : (upd (upd H3 a (SetO w a (fun x => decide (x ∈ L.map fun q : Trip => q.2.1)) m)) pm (.lst (ms.map V.int))) pm = some (.lst (ms.map V.int)) := upd_same
    have hh4 := s5 _ _ hh1
    have hh42 := dpAll_same s5 hh2
    refine ⟨_, rfl, pm, rfl, ⟨_, SqL.of hms⟩, fun Z hZ => lc_list (K := K) (a := pm) (xs := ms.map V.int) (fun i H' => Same (upd (upd H3 a (SetO w a (fun x => decide (x ∈ L.map fun q : Trip => q.2.1)) m)) pm (.lst (ms.map V.int))) H' ∧ DL K (peakPy W c n) H' Z (ms.take i)) ⟨same_new hZ _, by rw [List.take_zero]; exact DL.nil⟩ (fun i H' _ h => SqL.of (h.1 _ _ hms)) (fun i x H5 hx hI => ?_) (fun H5 hI => ?_)⟩
    · obtain ⟨hs5, hd5⟩ := hI
      rw [List.getElem?_map] at hx
      cases hmi : ms[i]? with
      | none => rw [hmi] at hx; cases hx
      | some mi =>
        rw [hmi] at hx
        have ex : V.int mi = x := Option.some.inj hx
        subst ex
        refine ⟨rfl, _, rfl, _, rfl, D, rfl, ⟨_, SqL.of (hs5 _ _ hh4)⟩, fun Y2 hY2 => lc_list (K := K) (a := D) (xs := xh) (fun j H' => Same H5 H' ∧ H' Y2 = some (.lst ((((L.take j).filter fun q => inM mi q.2.1 (finT W q)).map (sizeT W)).map V.int))) ⟨same_new hY2 _, upd_same⟩ (fun j H' _ h => SqL.of ((hs5.trans h.1) _ _ hh4)) (fun j x H6 hx hI => ?_) (fun H6 hI => ?_)⟩
        · obtain ⟨hs6, hY6⟩ := hI
          obtain ⟨q1, hq1, dq1⟩ := dpAll_get hh42 hx
          obtain ⟨u, t, rfl, hu, ht⟩ := dp_held (dp_same (hs5.trans hs6) dq1)
          have ft : (L.take (j + 1)).filter (fun q => inM mi q.2.1 (finT W q)) = (L.take j).filter (fun q => inM mi q.2.1 (finT W q)) ++ if inM mi q1.2.1 (finT W q1) = true then [q1] else [] := by
            rw [List.take_add_one, hq1, Option.toList_some, List.filter_append, List.filter_cons, List.filter_nil]
          have lf : ((L.take j).filter fun q => inM mi q.2.1 (finT W q)).length ≤ 10 := by
            have := List.length_filter_le (fun q : Trip => inM mi q.2.1 (finT W q)) (L.take j)
            rw [List.length_take] at this
            (clear T BS BE D_made_recordings D_has_minute B hr wok hW cg hc q gw p2 q2 p3 q3 hD s1 nD s2 nM hM1 hM2 lM nMD hD1 l10 hs hd hsH hh1 hL hh2 hY s3 hY3 hm ha s4 pw mem lm hpm s5 hms hh4 hh42 hZ hs5 hd5 hmi hY2 hs6 hY6 hq1 hx dq1 hu ht ft; omega)
          refine ⟨u, _, rfl, hu, rfl, _, _, rfl, _, _, rfl, rfl, rfl, _, rfl, _, rfl, t, (q1.2.1, finT W q1), mi, rfl, ht, _, rfl, ite2 (fun k1 => ?_) (fun k1 => ?_)⟩
          · have k2 : inM mi q1.2.1 (finT W q1) = true := k1
            refine ⟨_, rfl, _, hY6, by rw [List.length_map, List.length_map]; exact small1000 (by (clear T BS BE D_made_recordings D_has_minute B hr wok hW cg hc q gw p2 q2 p3 q3 hD s1 nD s2 nM hM1 hM2 lM nMD hD1 l10 hs hd hsH hh1 hL hh2 lS lh hY s3 hY3 hm ha s4 pw mem lm hpm s5 hms hh4 hh42 hZ hs5 hd5 hmi hY2 hs6 hY6 hq1 hx dq1 hu ht ft k1 k2; omega)), same_at hY2 hs6 _, ?_⟩
            rw [upd_same, ft, if_pos k2, List.map_append, List.map_append]
            rfl
          · have k2 : ¬ inM mi q1.2.1 (finT W q1) = true := k1
            refine ⟨hs6, ?_⟩
            rw [ft, if_neg k2, List.append_nil]
            exact hY6
        obtain ⟨s6, hY6⟩ := hI
        rw [lh, List.take_length] at hY6
        refine ⟨Y2, _, rfl, SqL.of hY6, sz2_, fun t6 h6 => ?_⟩
        have s7 := same_new h6 (.tup [.int mi, .int ((L.filter fun q => inM mi q.2.1 (finT W q)).map (sizeT W)).sum])
        have eu : ((L.filter fun q => inM mi q.2.1 (finT W q)).map (sizeT W)).sum = usedW W c n mi := by
          rw [used_list]
          unfold usedW
          rw [hL]
        have dv : Dp K (upd H6 t6 (.tup [.int mi, .int ((L.filter fun q => inM mi q.2.1 (finT W q)).map (sizeT W)).sum])) (.ref t6) (peakPy W c n mi) := by
          unfold peakPy
          rw [← eu]
          exact .tup (SqT.of upd_same) (.cons (.int _) (.cons (.int _) .nil))
        obtain ⟨xs, g1, g2, g3⟩ := (hd5.same (s6.trans s7)).push (a := mi) (noL_peak W c n) dv (by rw [List.length_take]; (clear T BS BE D_made_recordings D_has_minute B hr wok hW cg hc q gw p2 q2 p3 q3 hD s1 nD s2 nM hM1 hM2 lM nMD hD1 l10 hs hd hsH hh1 hL hh2 hY s3 hY3 ha s4 pw mem hpm s5 hms hh4 hh42 hZ hs5 hd5 hmi hx hY2 s6 hY6 h6 s7 eu dv; omega))
        refine ⟨xs, g1, g2, same_at hZ (hs5.trans (s6.trans s7)) _, ?_⟩
        rw [List.take_add_one, hmi]
        exact g3
    obtain ⟨s6, hd6⟩ := hI
    rw [List.length_map, List.take_length] at hd6
    refine q Z _ ms (hsH.trans (s5.trans s6)) ((hsH.trans s5).free hZ) pw (fun k => (mem k).trans ?_) hd6
    unfold startsW
    rw [hL]
    exact ⟨fun h => of_decide_eq_true h, fun h => decide_eq_true h⟩
def keyI (p : Key × V) : Int := match p.1 with
  | .inl m => m
  | .inr _ => 0
theorem keys_int {kvs : List (Key × V)} {g : Int → Int} {h : Int} (k : SpK kvs g h) : kvs.map (·.1) = (kvs.map keyI).map Sum.inl := by
  rw [List.map_map]
  refine List.map_congr_left fun p hp => ?_
  obtain ⟨m, e, _⟩ := k.keys p hp
  show p.1 = Sum.inl (keyI p)
  unfold keyI
  rw [e]
theorem valV_some {kvs : List (Key × V)} {k : Key} (h : k ∈ kvs.map (·.1)) : ∃ v, valV kvs k = some v := by
  obtain ⟨p, hp, rfl⟩ := List.mem_map.mp h
  unfold valV
  cases e : kvs.find? fun kv => decide (kv.1 = p.1) with
  | none => exact absurd (decide_eq_true (rfl : p.1 = p.1)) (by have := List.find?_eq_none.mp e p hp; simpa using this)
  | some q => exact ⟨q.2, rfl⟩
theorem valV_no {kvs : List (Key × V)} {k : Key} (h : k ∉ kvs.map (·.1)) : valV kvs k = none := by
  unfold valV
  cases e : kvs.find? fun kv => decide (kv.1 = k) with
  | none => rfl
  | some q =>
    have h1 := List.find?_some e
    exact absurd (List.mem_map.mpr ⟨q, List.mem_of_find?_eq_some e, of_decide_eq_true h1⟩) h
theorem strict_of {ys : List Int} (h : ys.Pairwise (· ≤ ·)) (n : ys.Nodup) : ys.Pairwise (· < ·) := by
  have := h.and n
  exact this.imp fun ⟨a, b⟩ => by omega
/-- between two that follow each other none stands -/
theorem gap_no {ys : List Int} (h : ys.Pairwise (· < ·)) {i : Nat} {k t : Int} (hk : ys[i]? = some k) (ha : ∀ a, 0 < i → ys[i - 1]? = some a → a < t) (ht : t < k) : t ∉ ys := fun hm => by
  obtain ⟨j, hj, e⟩ := List.mem_iff_getElem.mp hm
  obtain ⟨hi, ek⟩ := List.getElem?_eq_some_iff.mp hk
  have pw := List.pairwise_iff_getElem.mp h
  rcases Nat.lt_or_ge j i with c | c
  · have hi1 : i - 1 < ys.length := by (clear h hk ha ht hm e ek pw; omega)
    have h1 := ha ys[i - 1] (by (clear h hk ha ht hm e ek pw hi1; omega)) (List.getElem?_eq_getElem hi1)
    rcases Nat.lt_or_ge j (i - 1) with c2 | c2
    · have := pw j (i - 1) hj hi1 c2
      omega
    · have ej : j = i - 1 := by (clear h hk ha ht hm e ek pw h1; omega)
      subst ej
      omega
  · rcases Nat.lt_or_ge i j with c2 | c2
    · have := pw i j hi hj c2
      omega
    · have ej : j = i := by (clear h hk ha ht hm e ek pw; omega)
      subst ej
      omega
def LowSt (W : WorldD) (c : CaseD) (s : Nat) (z : SatD) (ys : List Int) (i : Nat) (lv la : Int) : Prop := (i = 0 ∧ la = 0 ∧ lv = z.level) ∨ ∃ a : Nat, 0 < i ∧ ys[i - 1]? = some (a : Int) ∧ la = (a : Int) ∧ lv = lvW W c s z a
/-- the battery ahead of the next minute at which something is spent -/
theorem low_next {W : WorldD} {c : CaseD} {s : Nat} {z : SatD} (ok : SatOk W.horizon z) {ys : List Int} (pw : ys.Pairwise (· < ·)) (non : ∀ m : Int, m ∉ ys → spentW W c s m = 0) {i k : Nat} (hk : ys[i]? = some (k : Int)) {lv la : Int} (st : LowSt W c s z ys i lv la) :
    0 ≤ la ∧ la ≤ (k : Int) ∧ aheadW z.battery z.level (fun m => spentW W c s (m : Int)) (chgI z.light z.charge) k = if lv + z.charge * mw z.light la (k : Int) ≥ z.battery ∧ (k : Int) > 0 then z.battery else lv + z.charge * mw z.light la (k : Int) := by
  have lb := ok.level
  rcases st with ⟨rfl, rfl, rfl⟩ | ⟨a, h0, ha, rfl, rfl⟩
  · refine ⟨Int.le_refl _, by (clear ok pw non lb hk; omega), ?_⟩
    cases k with
    | zero =>
      rw [show ((0 : Nat) : Int) = 0 from rfl, mw_le (Int.le_refl _), Int.mul_zero, Int.add_zero, if_neg (fun z' => absurd z'.2 (by decide))]
      rfl
    | succ k =>
      have nz : ∀ t : Nat, t < k + 1 → spentW W c s (t : Int) = 0 := fun t ht => non _ (gap_no pw hk (fun a h _ => absurd h (by omega)) (by (clear ok pw non lb hk; omega)))
      have e := ahead_light ok.light (batt := z.battery) (start := z.level) (sp := fun m => spentW W c s (m : Int)) ok.charge.1 0 (k + 1) (by (clear ok pw non lb hk nz; omega)) fun t _ ht => nz t ht
      have e0 : levelW z.battery z.level (fun m => spentW W c s (m : Int)) (chgI z.light z.charge) 0 = z.level := by
        show z.level - spentW W c s ((0 : Nat) : Int) = _
        rw [nz 0 (by (clear ok pw non lb hk nz e; omega)), Int.sub_zero]
      rw [e0] at e
      rw [e]
      show min z.battery (z.level + z.charge * mw z.light 0 ((k + 1 : Nat) : Int)) = _
      split <;> omega
  · have hak : (a : Int) < (k : Int) := by
      obtain ⟨h1, e1⟩ := List.getElem?_eq_some_iff.mp ha
      obtain ⟨h2, e2⟩ := List.getElem?_eq_some_iff.mp hk
      have := List.pairwise_iff_getElem.mp pw (i - 1) i h1 h2 (by (clear ok pw non hk lb ha e1 e2; omega))
      (clear ok pw non hk lb h0 ha; omega)
    refine ⟨by (clear ok pw non hk lb h0 ha hak; omega), by (clear ok pw non hk lb h0 ha; omega), ?_⟩
    have e := ahead_light ok.light (batt := z.battery) (start := z.level) (sp := fun m => spentW W c s (m : Int)) ok.charge.1 a k (by (clear ok pw non hk lb h0 ha; omega)) fun t h1 h2 => non _ (gap_no pw hk (fun b h hb => by rw [ha] at hb; have := Option.some.inj hb; (clear ok pw non hk lb h0 ha hak h2 h hb; omega)) (by (clear ok pw non hk lb h0 ha hak h1; omega)))
    rw [e]
    show min z.battery (lvW W c s z a + _) = _
    split <;> omega
def spLows (K : PySem.W.Frag) (CS CT CR CP CW : Addr) : Sp := fun vs H Q _ => ∃ (ac : Addr) (v : V) (W : WorldD) (o : Bool) (c : CaseD) (s : Nat) (z : SatD), vs = [.ref ac, v, .int (s : Int)] ∧ WorldOk W ∧ WorldAt K CS CT CR CP CW H ac W ∧ CaseG W o c ∧ Dp K H v (casePy c) ∧ W.sats[s]? = some z ∧
  ∀ D H' (l : List (Int × Int × Option Int)), Same H H' → H D = none → (l.map (·.1)).Pairwise (· < ·) → (∀ q ∈ l, 0 ≤ q.1 ∧ q.1 < W.horizon ∧ q.2.1 = lvW W c s z q.1.toNat) → (∀ m, m ∉ l.map (·.1) → spentW W c s m = 0) → l.length ≤ 20 → DL K lowPy H' D l → Q (.ref D) H'
set_option maxHeartbeats 8000000 in
theorem d_lows (T : TxtW K mg CL CS CT CR CP CW aS aR fS fT fR fP) (BS : mg "sorted" = none) (D_spending : DefOk P w K mg base CX0 4 "spending" ["world", "case", "number"] (spSpending K CS CT CR CP CW)) (D_light_minutes : DefOk P w K mg base CX0 2 "light_minutes" ["satellite", "first", "end"] (spLightM K CS)) (A : At K mg "battery_lows" s_battery_lows ["world", "case", "number"]) :
    DefOk P w K mg base CX0 5 "battery_lows" ["world", "case", "number"] (spLows K CS CT CR CP CW) := by
  have B := T.L.B
  refine A.ok sc_battery_lows (fun vs H Q E h => ?_) (fun f cdv A outer s H vs Q E hr h => ?_)
  · obtain ⟨ac, v, W, o, c, s, z, rfl, _⟩ := h
    rfl
  obtain ⟨ac, v, W, o, c, n, z, rfl, wok, hW, cg, hc, hz, q⟩ := h
  obtain ⟨dx, t0, t1, t2, t3, x0, x1, x2, x3, gw, p0, q0, _, _, p2, q2, p3, q3⟩ := hW.ex
  obtain ⟨sb, sd, ts, ls, hsb, g1, g2, g3⟩ := sat_at q0 hz
  have hh := wok.horizon
  have ok := wok.sats z (List.mem_of_getElem? hz)
  have okc := ok.charge
  have okb := ok.battery
  refine ⟨_, pss_cons (ps_set (i := 3) sc_battery_lows.nd rfl (Or.inl rfl) (pe_ix ix_tup (pe_fld (pv 0) rfl) (pv 2) (fun _ _ => rfl)))
  (pss_cons (ps_set (i := 4) sc_battery_lows.nd rfl (Or.inl rfl) (pe_f D_spending (hr.mono (by omega)) pass0 (pa_cons (pv 0) (pa_cons (pv 1) (pa_cons (pv 2) pa_nil)))))
  (pss_cons (ps_set (i := 5) sc_battery_lows.nd rfl (Or.inl rfl) (pe_lst pa_nil))
  (pss_cons (ps_set (i := 6) sc_battery_lows.nd rfl (Or.inl rfl) (pe_fld (pv 3) rfl))
  (pss_cons (ps_set (i := 7) sc_battery_lows.nd rfl (Or.inl rfl) pe_int)
  (pss_cons (ps_set (i := 8) sc_battery_lows.nd rfl (Or.inl rfl) pe_non)
  (pss_cons (ps_for PassesOwn.never rfl (pi_list (pe_callB (call_sortedDI rfl) (by rfl) BS (by decide +kernel) (pa_cons (pv 4) pa_nil))) (pg_name (i := 9) sc_battery_lows.nd rfl (Or.inl rfl))
      (pss_cons (ps_aug (i := 6) sc_battery_lows.nd rfl (Or.inl rfl) (pe_op op_mul (pe_fld (pv 3) rfl) (pe_f D_light_minutes (hr.mono (by omega)) pass0 (pa_cons (pv 3) (pa_cons (pv 7) (pa_cons (pv 9) pa_nil))))) ip_add)
      (C8.pss_cut (ps_if (PW.pt (pw_and (pt_cmpR op_ge (pv 6) (pe_fld (pv 3) rfl) (nomark _)) (pw_and1 (pt_cmpR op_gt (pv 9) pe_int (nomark _)))))
          (pss_cons (ps_set (i := 6) sc_battery_lows.nd rfl (Or.inl rfl) (pe_fld (pv 3) rfl))
          (pss_one (ps_set (i := 8) sc_battery_lows.nd rfl (Or.inl rfl) (pe_op op_sub (pv 9) pe_int))))
          (pss_nil))
      (pss_cons (ps_aug (i := 6) sc_battery_lows.nd rfl (Or.inl rfl) (pe_dget (hu_of hr) (pv 4) (pv 9) (fun _ _ => rfl)) ip_sub)
      (pss_cons (ps_set (i := 7) sc_battery_lows.nd rfl (Or.inl rfl) (pv 9))
      (pss_one (ps_expr (pe_bm PySem.F.plainAttrs_list PySem.F.slot_list_append PySem.F.type_list_append mt_append (pv 5) (pa_cons (pe_tup (pa_cons (pv 9) (pa_cons (pv 6) (pa_cons (pv 8) pa_nil)))) pa_nil)))))))))
  (pss_one (ps_ret (pv 5)))))))))
    , ?_⟩
  refine ⟨_, rfl, ac, CW, dx, _, _, rfl, gw, T.c_World.cl, T.n_World_satellites, lk_World_satellites, _, rfl, t0, x0, (n : Int), _, rfl, rfl, p0, atI_nat hsb, ?_⟩
  refine ⟨_, rfl, _, rfl, _, rfl, ac, v, W, o, c, n, rfl, wok, hW, cg, hc, fun d H1 kvs s1 nd hd lk sk => ?_⟩
  refine ⟨Nat.zero_le _, fun D hD => ?_⟩
  have sD := s1.trans (same_new hD (.lst []))
  have nD := s1.free hD
  have hd2 := same_new hD (.lst []) _ _ hd
  have ndD : d ≠ D := ne_of_none hd hD
  have hD1 : (upd H1 D (.lst [])) D = some (.lst []) := upd_same
  refine ⟨_, rfl, sb, CS, sd, _, _, rfl, sD _ _ g1, T.c_Satellite.cl, T.n_Satellite_start_level, lk_Satellite_start_level, ?_⟩
  generalize upd H1 D (.lst []) = H2 at sD hd2 hD1
  have ndk : (kvs.map keyI).Nodup := by
    have h1 := sk.nd
    rw [keys_int sk] at h1
    exact (List.pairwise_map.mp h1).imp fun h e => h (by rw [e])
  refine ⟨_, rfl, d, kvs, kvs.map keyI, rfl, .inl hd2, keys_int sk, by rw [List.length_map]; (clear T BS D_spending D_light_minutes B hr wok hW cg hc hz q gw p0 q0 p2 q2 p3 q3 hsb g1 g2 g3 hh ok okc okb s1 nd hd sk hD nD ndD sD hd2 hD1 ndk; omega), fun ys pl perm ple hpl => ?_⟩
  have pw := strict_of ple (perm.nodup_iff.mpr ndk)
  have mem : ∀ m : Int, m ∈ ys ↔ (Sum.inl m : Key) ∈ kvs.map (·.1) := fun m => by
    rw [perm.mem_iff, keys_int sk]
    exact ⟨fun h => List.mem_map.mpr ⟨m, h, rfl⟩, fun h => by obtain ⟨m', h', e⟩ := List.mem_map.mp h; cases e; exact h'⟩
  have non : ∀ m : Int, m ∉ ys → spentW W c n m = 0 := fun m h => sk.non m (valV_no fun h' => h ((mem m).mpr h'))
  have ins : ∀ m ∈ ys, 0 ≤ m ∧ m < W.horizon := fun m h => by
    obtain ⟨p, hp, e⟩ := List.mem_map.mp ((mem m).mp h)
    obtain ⟨m', e1, e2⟩ := sk.keys p hp
    have : p.1 = Sum.inl m := e
    rw [e1] at this
    cases this
    exact e2
  have ly : ys.length ≤ 20 := by rw [perm.length_eq, List.length_map]; exact lk
  have sP := sD.trans (same_new hpl (.lst (ys.map V.int)))
  have hP : (upd H2 pl (.lst (ys.map V.int))) pl = some (.lst (ys.map V.int)) := upd_same
  have hd3 := same_new hpl (.lst (ys.map V.int)) _ _ hd2
  have hD3 := same_new hpl (.lst (ys.map V.int)) _ _ hD1
  have nPD : pl ≠ D := (ne_of_none hD1 hpl).symm
  generalize upd H2 pl (.lst (ys.map V.int)) = H3 at sP hP hd3 hD3
  refine ⟨pl, rfl, ⟨_, SqL.of hP⟩, ?_⟩
  refine for_it (walk_list (K := K) (a := pl) (xs := ys.map V.int)) (fun i σ H' => ∃ (l : List (Int × Int × Option Int)) (lv la : Int) (fu : V) (fo : Option Int) (y9 : Option V), σ = [some (.ref ac), some v, some (.int (n : Int)), some (.ref sb), some (.ref d), some (.ref D), some (.int lv), some (.int la), some fu, y9] ∧ SameX D H3 H' ∧ DL K lowPy H' D l ∧ l.map (·.1) = ys.take i ∧ (∀ q ∈ l, q.2.1 = lvW W c n z q.1.toNat) ∧ LowSt W c n z ys i lv la ∧ (∀ H'' : Hp, Dp K H'' fu (optI fo)))
    ⟨[], _, _, _, none, _, rfl, SameX.refl _ _, ⟨[], hD3, .nil⟩, rfl, fun _ h => absurd h List.not_mem_nil, .inl ⟨rfl, rfl, rfl⟩, fun _ => .non⟩ (fun i σ H' _ hI => ?_) (fun i x σ H4 H5 hi hI hy => ?_) (fun σ H4 hI => ?_)
  · obtain ⟨l, lv, la, fu, fo, y9, rfl, hs, _⟩ := hI
    exact SqL.of (hs _ _ nPD hP)
  · obtain ⟨l, lv, la, fu, fo, y9, rfl, hs, hdl, hl, hlv, st, hfu⟩ := hI
    obtain ⟨rfl, hx⟩ := hy
    rw [List.getElem?_map] at hx
    cases hk : ys[i]? with
    | none => rw [hk] at hx; cases hx
    | some k0 =>
      rw [hk] at hx
      have ex : V.int k0 = x := Option.some.inj hx
      subst ex
      have mk := List.mem_of_getElem? hk
      obtain ⟨k1, k2⟩ := ins k0 mk
      obtain ⟨k, rfl⟩ : ∃ k : Nat, k0 = (k : Int) := ⟨k0.toNat, by (clear T BS D_spending D_light_minutes B hr wok hW cg hc hz q gw p0 q0 p2 q2 p3 q3 hsb g1 g2 g3 hh ok okc okb s1 nd hd lk sk hD nD ndD sD hd2 hD1 ndk perm ple hpl pw mem non ins ly nPD sP hP hd3 hD3 hi hl hlv st hfu hs hdl hk hx mk k2; omega)⟩
      obtain ⟨a1, a2, ea⟩ := low_next ok pw non hk st
      have hsH := sx_same sP nD hs
      have hdA := hs _ _ ndD hd3
      have ll : l.length = i := by have := congrArg List.length hl; rw [List.length_map, List.length_take] at this; rw [List.length_map] at hi; (clear T BS D_spending D_light_minutes B hr wok hW cg hc hz q gw p0 q0 p2 q2 p3 q3 hsb g1 g2 g3 hh ok okc okb s1 nd hd lk sk hD nD ndD sD hd2 hD1 ndk perm ple hpl pw mem non ins ly nPD sP hP hd3 hD3 hl hlv st hfu hs hdl hk hx mk k1 k2 a1 a2 ea hsH hdA; omega)
      refine ⟨_, rfl, _, rfl, sb, CS, sd, _, _, rfl, hsH _ _ g1, T.c_Satellite.cl, T.n_Satellite_charge, lk_Satellite_charge, _, rfl, _, rfl, _, rfl, .ref sb, z, la, (k : Int), rfl, ⟨sb, sd, ts, ls, rfl, hsH _ _ g1, Same.tup hsH g2, g3.same hsH⟩, by have := ok.light.len (by (clear T BS D_spending D_light_minutes B hr wok hW cg hc hz q gw p0 q0 p2 q2 p3 q3 hsb g1 g2 g3 ok okc okb s1 nd hd lk sk hD nD ndD sD hd2 hD1 ndk perm ple hpl pw mem non ins ly nPD sP hP hd3 hD3 hi hl hlv st hfu hs hdl hk hx mk k1 k2 a1 a2 ea hsH hdA ll; omega)); (clear T BS D_spending D_light_minutes B hr wok hW cg hc hz q gw p0 q0 p2 q2 p3 q3 hsb g1 g2 g3 ok okc okb s1 nd hd lk sk hD nD ndD sD hd2 hD1 ndk perm ple hpl pw mem non ins ly nPD sP hP hd3 hD3 hi hl hlv st hfu hs hdl hk hx mk k1 k2 a1 a2 ea hsH hdA ll; omega), fun H6 s6 => ?_⟩
      refine ⟨_, _, rfl, rfl, .inl ⟨by (clear T BS D_spending D_light_minutes B hr wok hW cg hc hz q gw p0 q0 p2 q2 p3 q3 hsb g1 g2 g3 hh ok okb s1 nd hd lk sk hD nD ndD sD hd2 hD1 ndk perm ple hpl pw mem non ins ly nPD sP hP hd3 hD3 hi hl hlv st hfu hs hdl hk hx mk k1 k2 a1 a2 ea hsH hdA ll s6; omega), by (clear T BS D_spending D_light_minutes B hr wok hW cg hc hz q gw p0 q0 p2 q2 p3 q3 hsb g1 g2 g3 hh ok okb s1 nd hd lk sk hD nD ndD sD hd2 hD1 ndk perm ple hpl pw mem non ins ly nPD sP hP hd3 hD3 hi hl hlv st hfu hs hdl hk hx mk k1 k2 a1 a2 ea hsH hdA ll s6; omega)⟩, _, _, rfl, rfl, ?_⟩
      have sA := hs.trans (SameX.of s6)
      have hsA := sx_same sP nD sA
      refine ⟨fun σ' H' => ∃ (fu' : V) (fo' : Option Int), σ' = [some (.ref ac), some v, some (.int (n : Int)), some (.ref sb), some (.ref d), some (.ref D), some (.int (aheadW z.battery z.level (fun m => spentW W c n (m : Int)) (chgI z.light z.charge) k)), some (.int la), some fu', some (.int (k : Int))] ∧ H' = H6 ∧ (∀ H'' : Hp, Dp K H'' fu' (optI fo')), ?_, fun σ' H' h => ?_⟩
      · have no : ¬ (lv + z.charge * mw z.light la (k : Int) ≥ z.battery ∧ (k : Int) > 0) → ∃ (fu' : V) (fo' : Option Int), ([some (.ref ac), some v, some (.int (n : Int)), some (.ref sb), some (.ref d), some (.ref D), some (.int (lv + z.charge * mw z.light la (k : Int))), some (.int la), some fu, some (.int (k : Int))] : L2.St) = [some (.ref ac), some v, some (.int (n : Int)), some (.ref sb), some (.ref d), some (.ref D), some (.int (aheadW z.battery z.level (fun m => spentW W c n (m : Int)) (chgI z.light z.charge) k)), some (.int la), some fu', some (.int (k : Int))] ∧ H6 = H6 ∧ (∀ H'' : Hp, Dp K H'' fu' (optI fo')) := fun h => ⟨fu, fo, by rw [ea, if_neg h], rfl, hfu⟩
        refine ⟨_, rfl, _, rfl, sb, CS, sd, _, _, rfl, hsA _ _ g1, T.c_Satellite.cl, T.n_Satellite_battery, lk_Satellite_battery, _, _, rfl, rfl, _, rfl, ite2 (fun e1 => ⟨_, rfl, _, _, rfl, rfl, _, rfl, ite2 (fun e2 => ?_) (fun e2 => ?_)⟩) (fun e1 => iteF ?_)⟩
        · have h1 : lv + z.charge * mw z.light la (k : Int) ≥ z.battery := of_decide_eq_true e1
          have h2 : (k : Int) > 0 := of_decide_eq_true e2
          refine ⟨_, rfl, sb, CS, sd, _, _, rfl, hsA _ _ g1, T.c_Satellite.cl, T.n_Satellite_battery, lk_Satellite_battery, _, rfl, _, _, rfl, rfl, _, some ((k : Int) - 1), ?_, rfl, fun _ => .int _⟩
          rw [ea, if_pos ⟨h1, h2⟩]
          rfl
        · exact no fun z' => e2 (decide_eq_true z'.2)
        · exact no fun z' => e1 (decide_eq_true z'.1)
      · obtain ⟨fu', fo', rfl, rfl, hfu'⟩ := h
        obtain ⟨sv, hsv⟩ := valV_some ((mem _).mp mk)
        have esv := sk.val _ _ hsv
        subst esv
        have hdB := s6 _ _ hdA
        have gd : DGet H' d (.int (k : Int)) (some (.int (spentW W c n (k : Int)))) := by
          have := DGet.k (k := Sum.inl (k : Int)) hdB
          rw [hsv] at this
          exact this
        refine ⟨_, rfl, _, rfl, _, rfl, d, _, rfl, gd, _, _, rfl, rfl, ?_⟩
        have hdl6 := hdl.same s6
        obtain ⟨xl, hxl, _⟩ := id hdl6
        refine ⟨_, rfl, _, rfl, .inl ⟨rfl, _, SqL.of hxl⟩, _, rfl, _, rfl, _, rfl, (by show 3 ≤ sizeLine; decide), fun tp htp => ?_⟩
        have sT := same_new htp (.tup [.int (k : Int), .int (lvW W c n z k), fu'])
        have dv : Dp K (upd H' tp (.tup [.int (k : Int), .int (lvW W c n z k), fu'])) (.ref tp) (lowPy ((k : Int), lvW W c n z k, fo')) := .tup (SqT.of upd_same) (.cons (.int _) (.cons (.int _) (.cons (hfu' _) .nil)))
        obtain ⟨xs, e1, e2, e3⟩ := (hdl6.same sT).push (a := ((k : Int), lvW W c n z k, fo')) noL_low dv (by rw [List.length_map] at hi; (clear T BS D_spending D_light_minutes B hr wok hW cg hc hz q gw p0 q0 p2 q2 p3 q3 hsb g1 g2 g3 hh ok okc okb s1 nd hd lk sk hD nD ndD sD hd2 hD1 ndk perm ple hpl pw mem non ins nPD sP hP hd3 hD3 hl hlv st hfu hs hdl hk hx mk k1 k2 a1 a2 ea hsH hdA hfu' s6 sA hsA hsv hdB gd hdl6 hxl htp sT dv; omega))
        refine ⟨D, xs, _, rfl, rfl, e1, e2, l ++ [((k : Int), lvW W c n z k, fo')], _, _, _, fo', _, rfl, (sA.trans (SameX.of sT)).at_, e3, ?_, fun q hq => ?_, .inr ⟨k, Nat.succ_pos _, hk, rfl, rfl⟩, hfu'⟩
        · rw [List.map_append, hl, List.take_add_one, hk]
          rfl
        · rcases List.mem_append.mp hq with h | h
          · exact hlv q h
          · rw [List.mem_singleton.mp h]
            show lvW W c n z k = lvW W c n z ((k : Int)).toNat
            rw [Int.toNat_natCast]
  · obtain ⟨l, lv, la, fu, fo, y9, rfl, hs, hdl, hl, hlv, st, hfu⟩ := hI
    rw [List.length_map, List.take_length] at hl
    refine ⟨_, rfl, q D _ l (sx_same sP nD hs) nD (by rw [hl]; exact pw) (fun p hp => ?_) (by rw [hl]; exact non) (by have := congrArg List.length hl; rw [List.length_map] at this; (clear T BS D_spending D_light_minutes B hr wok hW cg hc hz q gw p0 q0 p2 q2 p3 q3 hsb g1 g2 g3 hh ok okc okb s1 nd hd lk sk hD nD ndD sD hd2 hD1 ndk perm ple hpl pw mem non ins nPD sP hP hd3 hD3 hs hdl hl hlv st hfu; omega)) hdl⟩
    have := ins p.1 (by rw [← hl]; exact List.mem_map.mpr ⟨p, hp, rfl⟩)
    exact ⟨this.1, this.2, hlv p hp⟩
theorem filter_same {α : Type} {p q : α → Bool} {l : List α} (h : ∀ a ∈ l, p a = q a) : l.filter p = l.filter q := List.filter_congr h
set_option maxHeartbeats 8000000 in
theorem d_unitbr (T : TxtW K mg CL CS CT CR CP CW aS aR fS fT fR fP) (D_store_peaks : DefOk P w K mg base CX0 3 "store_peaks" ["world", "case", "number"] (spPeaks K CS CT CR CP CW)) (D_battery_lows : DefOk P w K mg base CX0 5 "battery_lows" ["world", "case", "number"] (spLows K CS CT CR CP CW))
    (A : At K mg "unit_breaches" s_unit_breaches ["world", "case", "number"]) : DefOk P w K mg base CX0 6 "unit_breaches" ["world", "case", "number"] (spBrS K CS CT CR CP CW unitB) := by
  have B := T.L.B
  refine A.ok sc_unit_breaches (fun vs H Q E h => ?_) (fun f cdv A outer s H vs Q E hr h => ?_)
  · obtain ⟨ac, v, W, o, c, n, rfl, _⟩ := h
    rfl
  obtain ⟨ac, v, W, o, c, n, rfl, wok, hW, cg, hc, hn, q⟩ := h
  obtain ⟨dx, t0, t1, t2, t3, x0, x1, x2, x3, gw, p0, q0, _, _, p2, q2, p3, q3⟩ := hW.ex
  obtain ⟨z, hz⟩ : ∃ z, W.sats[n]? = some z := ⟨_, List.getElem?_eq_getElem hn⟩
  obtain ⟨sb, sd, ts, ls, hsb, g1, g2, g3⟩ := sat_at q0 hz
  have hh := wok.horizon
  refine ⟨_, pss_cons (ps_set (i := 3) sc_unit_breaches.nd rfl (Or.inr rfl) (pe_ix ix_tup (pe_fld (pv 0) rfl) (pv 2) (fun _ _ => rfl)))
  (pss_cons (ps_setLc (own := [("minute", 7), ("used", 8)]) (i := 4) rfl sc_unit_breaches.nd rfl rfl (sw_true rfl rfl rfl (by decide +kernel)) (pi_list (pe_f D_store_peaks (hr.mono (by omega)) pass0 (pa_cons (pv 0) (pa_cons (pv 1) (pa_cons (pv 2) pa_nil))))) (blkOk_by (own := [("minute", 7), ("used", 8)]) (N := ["world", "case", "number", "satellite", "over", "low", "found", "minute", "used", "level", "_"]) (sc := defScope s_unit_breaches) (by decide +kernel)) (fun _ _ _ _ _ => pg_tupK (K := K) (n := 2) rfl (by rfl) (pgs_cons (pg_name (i := 7) sc_unit_breaches.nd rfl (Or.inl rfl)) (pgs_cons (pg_name (i := 8) sc_unit_breaches.nd rfl (Or.inl rfl)) (pgs_nil)))) (fun _ _ _ _ _ => pts_one (pt_cmpR op_gt (pv 8) (pe_fldK (K := K) rfl (pv 3) rfl) (nomark _))) (fun _ _ _ _ _ => (pv 7)))
  (pss_cons (ps_setLc (own := [("minute", 7), ("level", 9), ("_", 10)]) (i := 5) rfl sc_unit_breaches.nd rfl rfl (sw_true rfl rfl rfl (by decide +kernel)) (pi_list (pe_f D_battery_lows (hr.mono (by omega)) pass0 (pa_cons (pv 0) (pa_cons (pv 1) (pa_cons (pv 2) pa_nil))))) (blkOk_by (own := [("minute", 7), ("level", 9), ("_", 10)]) (N := ["world", "case", "number", "satellite", "over", "low", "found", "minute", "used", "level", "_"]) (sc := defScope s_unit_breaches) (by decide +kernel)) (fun _ _ _ _ _ => pg_tupK (K := K) (n := 3) rfl (by rfl) (pgs_cons (pg_name (i := 7) sc_unit_breaches.nd rfl (Or.inl rfl)) (pgs_cons (pg_name (i := 9) sc_unit_breaches.nd rfl (Or.inl rfl)) (pgs_cons (pg_name (i := 10) sc_unit_breaches.nd rfl (Or.inl rfl)) (pgs_nil))))) (fun _ _ _ _ _ => pts_one (pt_cmpR op_lt (pv 9) (pe_fldK (K := K) rfl (pv 3) rfl) (nomark _))) (fun _ _ _ _ _ => (pv 7)))
  (pss_cons (ps_setLc (own := [("minute", 7)]) (i := 6) rfl sc_unit_breaches.nd rfl rfl (sw_true rfl rfl rfl (by decide +kernel)) (pi_list (pe_slice sl_list (pv 4) po_none (po_some pe_int))) (blkOk_by (own := [("minute", 7)]) (N := ["world", "case", "number", "satellite", "over", "low", "found", "minute", "used", "level", "_"]) (sc := defScope s_unit_breaches) (by decide +kernel)) (fun _ _ _ _ _ => pg_name (i := 7) sc_unit_breaches.nd rfl (Or.inl rfl)) (fun _ _ _ _ _ => pts_nil) (fun _ _ _ _ _ => (pe_tup (pa_cons pe_str (pa_cons (pv 2) (pa_cons (pv 7) pa_nil))))))
  (pss_one (ps_ret (pe_op op_cat (pv 6) (pe_lc (own := [("minute", 7)])  rfl sc_unit_breaches.nd (pi_list (pe_slice sl_list (pv 5) po_none (po_some pe_int))) (blkOk_by (own := [("minute", 7)]) (N := ["world", "case", "number", "satellite", "over", "low", "found", "minute", "used", "level", "_"]) (sc := defScope s_unit_breaches) (by decide +kernel)) (fun _ _ _ _ _ => pg_name (i := 7) sc_unit_breaches.nd rfl (Or.inl rfl)) (fun _ _ _ _ _ => pts_nil) (fun _ _ _ _ _ => (pe_tup (pa_cons pe_str (pa_cons (pv 2) (pa_cons (pv 7) pa_nil))))))))))))
    , ?_⟩
  refine ⟨_, rfl, ac, CW, dx, _, _, rfl, gw, T.c_World.cl, T.n_World_satellites, lk_World_satellites, _, rfl, t0, x0, (n : Int), _, rfl, rfl, p0, atI_nat hsb, ?_⟩
  refine ⟨_, rfl, _, rfl, _, rfl, ac, v, W, o, c, n, rfl, wok, hW, cg, hc, fun M H1 ms s1 nM pwm memm hM => ?_⟩
  obtain ⟨xm, hM1, hM2⟩ := hM
  have lM := dpAll_len hM2
  rw [List.length_map] at lM
  have insm : ∀ k ∈ ms, 0 ≤ k ∧ k < ((W.horizon.toNat : Nat) : Int) := fun k hk => by
    obtain ⟨tq, htq, e⟩ := List.mem_map.mp ((memm k).mp hk)
    have h1 := trips_made wok c n W.recs.length tq htq
    have e : tq.2.1 = k := e
    (clear T D_store_peaks D_battery_lows B hr wok hW cg hc hn q gw p0 q0 p2 q2 p3 q3 hz hsb g1 g2 g3 s1 nM pwm memm hM1 hM2 lM hk htq e; omega)
  have lms : ms.length ≤ 500 := by
    have h1 : ∀ (r : List Int) (b : Int), (∀ x ∈ r, b ≤ x ∧ x < 500) → r.Pairwise (· < ·) → b ≤ 500 → (r.length : Int) ≤ 500 - b := fun r => by
      induction r with
      | nil => intro b _ _ h; show (0 : Int) ≤ 500 - b; (clear T D_store_peaks D_battery_lows B hr wok hW cg hc hn q gw p0 q0 p2 q2 p3 q3 hz hsb g1 g2 g3 hh s1 nM pwm memm hM1 hM2 lM insm; omega)
      | cons a r ih =>
        intro b hb pw h
        have h2 := hb a List.mem_cons_self
        have h3 := ih (a + 1) (fun x hx => ⟨by have := (List.pairwise_cons.mp pw).1 x hx; (clear T D_store_peaks D_battery_lows B hr wok hW cg hc hn q gw p0 q0 p2 q2 p3 q3 hz hsb g1 g2 g3 hh s1 nM pwm memm hM1 hM2 lM insm ih hb pw h h2 hx; omega), (hb x (List.mem_cons_of_mem _ hx)).2⟩) (List.pairwise_cons.mp pw).2 (by (clear T D_store_peaks D_battery_lows B hr wok hW cg hc hn q gw p0 q0 p2 q2 p3 q3 hz hsb g1 g2 g3 hh s1 nM pwm memm hM1 hM2 lM insm ih hb pw h; omega))
        rw [List.length_cons]
        (clear T D_store_peaks D_battery_lows B hr wok hW cg hc hn q gw p0 q0 p2 q2 p3 q3 hz hsb g1 g2 g3 hh s1 nM pwm memm hM1 hM2 lM insm ih hb pw h; omega)
    have := h1 ms 0 (fun x hx => by have := insm x hx; (clear T D_store_peaks D_battery_lows B hr wok hW cg hc hn q gw p0 q0 p2 q2 p3 q3 hz hsb g1 g2 g3 s1 nM pwm memm hM1 hM2 lM insm h1 hx; omega)) pwm (by omega)
    (clear T D_store_peaks D_battery_lows B hr wok hW cg hc hn q gw p0 q0 p2 q2 p3 q3 hz hsb g1 g2 g3 hh s1 nM pwm memm hM1 hM2 insm h1; omega)
  refine ⟨M, rfl, ⟨_, SqL.of hM1⟩, fun D hD => lc_it (walk_list (K := K) (a := M) (xs := xm)) (fun i H' => Same H1 H' ∧ H' D = some (.lst (((ms.take i).filter fun k => decide (z.store < usedW W c n k)).map V.int))) ⟨same_new hD _, upd_same⟩ (fun i H' _ hI => SqL.of (hI.1 _ _ hM1)) (fun i x H3 H4 hi hI hy => ?_) (fun H3 hI => ?_)⟩
  · obtain ⟨hs, hd⟩ := hI
    obtain ⟨rfl, hx⟩ := hy
    obtain ⟨k, hk, dk⟩ := dpAll_get hM2 hx
    obtain ⟨u, rfl, hu⟩ := dp_peak (dp_same hs dk)
    have ft : (ms.take (i + 1)).filter (fun k => decide (z.store < usedW W c n k)) = (ms.take i).filter (fun k => decide (z.store < usedW W c n k)) ++ if decide (z.store < usedW W c n k) = true then [k] else [] := by
      rw [List.take_add_one, hk, Option.toList_some, List.filter_append, List.filter_cons, List.filter_nil]
    have lf : ((ms.take i).filter fun k => decide (z.store < usedW W c n k)).length ≤ 500 := Nat.le_trans (List.length_filter_le _ _) (by rw [List.length_take]; (clear T D_store_peaks D_battery_lows B hr wok hW cg hc hn q gw p0 q0 p2 q2 p3 q3 hz hsb g1 g2 g3 hh s1 nM pwm memm hM1 hM2 insm hD hs hd hk hu hx dk ft; omega))
    refine ⟨u, _, rfl, hu, rfl, _, _, rfl, _, _, rfl, rfl, rfl, _, rfl, _, rfl, sb, CS, sd, _, _, rfl, (s1.trans hs) _ _ g1, T.c_Satellite.cl, T.n_Satellite_store, lk_Satellite_store, _, _, rfl, rfl, _, rfl, ite2 (fun k1 => ?_) (fun k1 => ?_)⟩
    · have k2 : decide (z.store < usedW W c n k) = true := k1
      refine ⟨_, rfl, _, hd, by rw [List.length_map]; exact small1000 (by (clear T D_store_peaks D_battery_lows B hr wok hW cg hc hn q gw p0 q0 p2 q2 p3 q3 hz hsb g1 g2 g3 hh s1 nM pwm memm hM1 hM2 lM insm lms hD hi hs hd hk hu hx dk ft k1 k2; omega)), same_at hD hs _, ?_⟩
      rw [upd_same, ft, if_pos k2, List.map_append]
      rfl
    · have k2 : ¬ decide (z.store < usedW W c n k) = true := k1
      refine ⟨hs, ?_⟩
      rw [ft, if_neg k2, List.append_nil]
      exact hd
  obtain ⟨s3, hO⟩ := hI
  rw [lM, List.take_length] at hO
  have s13 := s1.trans s3
  refine ⟨_, rfl, _, rfl, _, rfl, ac, v, W, o, c, n, z, rfl, wok, hW.same s13, cg, dp_same s13 hc, hz, fun N H4 l s4 nN pwl hlv non ll hN => ?_⟩
  obtain ⟨xn, hN1, hN2⟩ := hN
  have lN := dpAll_len hN2
  rw [List.length_map] at lN
  refine ⟨N, rfl, ⟨_, SqL.of hN1⟩, fun F hF => lc_it (walk_list (K := K) (a := N) (xs := xn)) (fun i H' => Same H4 H' ∧ H' F = some (.lst ((((l.take i).filter fun q => decide (q.2.1 < z.reserve)).map (·.1)).map V.int))) ⟨same_new hF _, upd_same⟩ (fun i H' _ hI => SqL.of (hI.1 _ _ hN1)) (fun i x H5 H6 hi hI hy => ?_) (fun H5 hI => ?_)⟩
  · obtain ⟨hs, hd⟩ := hI
    obtain ⟨rfl, hx⟩ := hy
    obtain ⟨k, hk, dk⟩ := dpAll_get hN2 hx
    obtain ⟨u, y, rfl, hu⟩ := dp_low (dp_same hs dk)
    have ft : (l.take (i + 1)).filter (fun q => decide (q.2.1 < z.reserve)) = (l.take i).filter (fun q => decide (q.2.1 < z.reserve)) ++ if decide (k.2.1 < z.reserve) = true then [k] else [] := by
      rw [List.take_add_one, hk, Option.toList_some, List.filter_append, List.filter_cons, List.filter_nil]
    have lf : ((l.take i).filter fun q => decide (q.2.1 < z.reserve)).length ≤ 500 := Nat.le_trans (List.length_filter_le _ _) (by rw [List.length_take]; (clear T D_store_peaks D_battery_lows B hr wok hW cg hc hn q gw p0 q0 p2 q2 p3 q3 hz hsb g1 g2 g3 hh s1 nM pwm memm hM1 hM2 lM insm lms hD s3 hO s13 s4 nN pwl hlv non hN1 hN2 hF hs hd hk hu hx dk ft; omega))
    refine ⟨u, _, rfl, hu, rfl, _, _, rfl, _, _, rfl, _, _, rfl, rfl, rfl, _, rfl, _, rfl, sb, CS, sd, _, _, rfl, ((s13.trans s4).trans hs) _ _ g1, T.c_Satellite.cl, T.n_Satellite_reserve, lk_Satellite_reserve, _, _, rfl, rfl, _, rfl, ite2 (fun k1 => ?_) (fun k1 => ?_)⟩
    · have k2 : decide (k.2.1 < z.reserve) = true := k1
      refine ⟨_, rfl, _, hd, by rw [List.length_map, List.length_map]; exact small1000 (by (clear T D_store_peaks D_battery_lows B hr wok hW cg hc hn q gw p0 q0 p2 q2 p3 q3 hz hsb g1 g2 g3 hh s1 nM pwm memm hM1 hM2 lM insm lms hD s3 hO s13 s4 nN pwl hlv non ll hN1 hN2 lN hF hi hs hd hk hu hx dk ft k1 k2; omega)), same_at hF hs _, ?_⟩
      rw [upd_same, ft, if_pos k2, List.map_append, List.map_append]
      rfl
    · have k2 : ¬ decide (k.2.1 < z.reserve) = true := k1
      refine ⟨hs, ?_⟩
      rw [ft, if_neg k2, List.append_nil]
      exact hd
  obtain ⟨s5, hLw⟩ := hI
  rw [lN, List.take_length] at hLw
  have hO4 := (s4.trans s5) _ _ hO
  have s34 := (s13.trans s4).trans s5
  have eA : ms.filter (fun k => decide (z.store < usedW W c n k)) = ms.filter fun k => (fun m : Nat => decide (z.store < usedW W c n (m : Int))) k.toNat := filter_same fun k hk => by
    have := insm k hk
    show decide (z.store < usedW W c n k) = decide (z.store < usedW W c n ((k.toNat : Nat) : Int))
    rw [show ((k.toNat : Nat) : Int) = k by (clear T D_store_peaks D_battery_lows B hr wok hW cg hc hn q gw p0 q0 p2 q2 p3 q3 hz hsb g1 g2 g3 hh s1 nM pwm memm hM1 hM2 lM insm lms hD s3 hO s13 s4 nN pwl hlv non ll hN1 hN2 lN hF s5 hLw hO4 s34 hk; omega)]
  have fA := firsts (p := fun m : Nat => decide (z.store < usedW W c n (m : Int))) pwm insm fun m _ hm => down_to (fun m hm no => used_down wok hz m hm fun h => no ((memm _).mpr h)) m hm
  rw [← eA] at fA
  have eB : (l.filter fun q => decide (q.2.1 < z.reserve)).map (·.1) = (l.map (·.1)).filter fun k => (fun m : Nat => decide (lvW W c n z m < z.reserve)) k.toNat := by
    rw [List.filter_map]
    congr 1
    exact filter_same fun q hq => by
      show decide (q.2.1 < z.reserve) = decide (lvW W c n z q.1.toNat < z.reserve)
      rw [(hlv q hq).2.2]
  have fB := firsts (p := fun m : Nat => decide (lvW W c n z m < z.reserve)) (h := W.horizon.toNat) pwl (fun k hk => by
    obtain ⟨q, hq, rfl⟩ := List.mem_map.mp hk
    have := hlv q hq
    (clear T D_store_peaks D_battery_lows B hr wok hW cg hc hn gw p0 q0 p2 q2 p3 q3 hz hsb g1 g2 g3 s1 nM pwm memm hM1 hM2 lM insm lms hD s3 hO s13 s4 nN pwl hlv non ll hN1 hN2 lN hF s5 hLw hO4 s34 eA fA eB hq hk; omega)) fun m _ hm => down_to (fun m hm no => low_down wok hz non m hm no) m hm
  rw [← eB] at fB
  generalize ms.filter (fun k => decide (z.store < usedW W c n k)) = oA at hO4 fA
  generalize (l.filter fun q => decide (q.2.1 < z.reserve)).map (·.1) = oB at hLw fB
  have tkA : cutV (oA.map V.int) none (some 1) = ((overL W c n z W.horizon.toNat).take 1).map fun (m : Nat) => V.int (m : Int) := by
    rw [cut_one, ← List.map_take, fA, List.map_map]
    rfl
  have tkB : cutV (oB.map V.int) none (some 1) = ((lowL W c n z W.horizon.toNat).take 1).map fun (m : Nat) => V.int (m : Int) := by
    rw [cut_one, ← List.map_take, fB, List.map_map]
    rfl
  have eu : unitB W c n = ((overL W c n z W.horizon.toNat).take 1).map (Br.store n) ++ ((lowL W c n z W.horizon.toNat).take 1).map (Br.energy n) := by
    unfold unitB
    rw [hz]
  generalize eH : H5 = H4 at hO4 hLw s34
  -- found
  refine ⟨_, rfl, _, rfl, D, _, rfl, SqL.of hO4, fun X hX => ?_⟩
  have sX := same_new hX (.lst (cutV (oA.map V.int) none (some 1)))
  have hXX : (upd H4 X (.lst (cutV (oA.map V.int) none (some 1)))) X = some (.lst (((overL W c n z W.horizon.toNat).take 1).map fun (m : Nat) => V.int (m : Int))) := by rw [upd_same, tkA]
  generalize (upd H4 X (.lst (cutV (oA.map V.int) none (some 1)))) = H5 at sX hXX
  generalize hOv : (overL W c n z W.horizon.toNat).take 1 = ov at hXX eu
  have lov : ov.length ≤ 1 := by
    rw [← hOv, List.length_take]
    (clear T D_store_peaks D_battery_lows B hr wok hW cg hc hn q gw p0 q0 p2 q2 p3 q3 hz hsb g1 g2 g3 hh s1 nM pwm memm hM1 hM2 lM insm lms hD s3 hO s13 s4 nN pwl hlv non ll hN1 hN2 lN hF s5 eA eB fA fB tkA tkB eH hO4 hLw s34 hX sX hOv hXX eu; omega)
  refine ⟨X, rfl, ⟨_, SqL.of hXX⟩, fun Y hY => lc_it (walk_list (K := K) (a := X) (xs := ov.map fun (m : Nat) => V.int (m : Int))) (fun i H' => Same H5 H' ∧ DL K brPy H' Y ((ov.take i).map (Br.store n))) ⟨same_new hY _, DL.nil⟩ (fun i H' _ hI => SqL.of (hI.1 _ _ hXX)) (fun i x H6 H7 hi hI hy => ?_) (fun H6 hI => ?_)⟩
  · obtain ⟨hs, hd⟩ := hI
    obtain ⟨rfl, hy⟩ := hy
    rw [List.getElem?_map] at hy
    cases hm : ov[i]? with
    | none => rw [hm] at hy; cases hy
    | some m =>
      rw [hm] at hy
      have ev : V.int (m : Int) = x := Option.some.inj hy
      subst ev
      refine ⟨rfl, _, rfl, _, rfl, (by show 3 ≤ sizeLine; decide), fun t3 h3 => ?_⟩
      have b3 := same_new h3 (.tup [.str "store", .int (n : Int), .int (m : Int)])
      obtain ⟨xs, g1, g2, g3⟩ := (hd.same b3).push (a := Br.store n m) noL_br (.tup (SqT.of upd_same) (.cons (.str _) (.cons (.int _) (.cons (.int _) .nil)))) (by rw [List.length_map, List.length_take]; (clear T D_store_peaks D_battery_lows B hr wok hW cg hc hn q gw p0 q0 p2 q2 p3 q3 hz hsb g1 g2 g3 hh s1 nM pwm memm hM1 hM2 lM insm lms hD s3 hO s13 s4 nN pwl hlv non ll hN1 hN2 lN hF s5 eA eB fA fB tkA tkB eH hO4 hLw s34 hX sX hOv hXX eu hY hi hs hd hm hy h3 b3; omega))
      refine ⟨xs, g1, g2, same_at hY (hs.trans b3) _, ?_⟩
      rw [take_snoc hm, List.map_append]
      exact g3
  obtain ⟨s6, hdY⟩ := hI
  rw [List.length_map, List.take_length] at hdY
  have hL6 := s6 _ _ (sX _ _ hLw)
  refine ⟨_, rfl, _, rfl, _, rfl, F, _, rfl, SqL.of hL6, fun X2 hX2 => ?_⟩
  have sX2 := same_new hX2 (.lst (cutV (oB.map V.int) none (some 1)))
  have hXX2 : (upd H6 X2 (.lst (cutV (oB.map V.int) none (some 1)))) X2 = some (.lst (((lowL W c n z W.horizon.toNat).take 1).map fun (m : Nat) => V.int (m : Int))) := by rw [upd_same, tkB]
  have hdY2 := hdY.same sX2
  generalize (upd H6 X2 (.lst (cutV (oB.map V.int) none (some 1)))) = H7 at sX2 hXX2 hdY2
  generalize hLo : (lowL W c n z W.horizon.toNat).take 1 = lo at hXX2 eu
  have llo : lo.length ≤ 1 := by
    rw [← hLo, List.length_take]
    (clear T D_store_peaks D_battery_lows B hr wok hW cg hc hn q gw p0 q0 p2 q2 p3 q3 hz hsb g1 g2 g3 hh s1 nM pwm memm hM1 hM2 lM insm lms hD s3 hO s13 s4 nN pwl hlv non ll hN1 hN2 lN hF s5 eA eB fA fB tkA tkB eH hO4 hLw s34 hX sX hOv hXX lov hY s6 hdY hL6 hX2 sX2 hdY2 hLo hXX2 eu; omega)
  refine ⟨X2, rfl, ⟨_, SqL.of hXX2⟩, fun Z hZ => lc_it (walk_list (K := K) (a := X2) (xs := lo.map fun (m : Nat) => V.int (m : Int))) (fun i H' => Same H7 H' ∧ DL K brPy H' Z ((lo.take i).map (Br.energy n))) ⟨same_new hZ _, DL.nil⟩ (fun i H' _ hI => SqL.of (hI.1 _ _ hXX2)) (fun i x H8 H9 hi hI hy => ?_) (fun H8 hI => ?_)⟩
  · obtain ⟨hs, hd⟩ := hI
    obtain ⟨rfl, hy⟩ := hy
    rw [List.getElem?_map] at hy
    cases hm : lo[i]? with
    | none => rw [hm] at hy; cases hy
    | some m =>
      rw [hm] at hy
      have ev : V.int (m : Int) = x := Option.some.inj hy
      subst ev
      refine ⟨rfl, _, rfl, _, rfl, (by show 3 ≤ sizeLine; decide), fun t3 h3 => ?_⟩
      have b3 := same_new h3 (.tup [.str "energy", .int (n : Int), .int (m : Int)])
      obtain ⟨xs, g1, g2, g3⟩ := (hd.same b3).push (a := Br.energy n m) noL_br (.tup (SqT.of upd_same) (.cons (.str _) (.cons (.int _) (.cons (.int _) .nil)))) (by rw [List.length_map, List.length_take]; (clear T D_store_peaks D_battery_lows B hr wok hW cg hc hn q gw p0 q0 p2 q2 p3 q3 hz hsb g1 g2 g3 hh s1 nM pwm memm hM1 hM2 lM insm lms hD s3 hO s13 s4 nN pwl hlv non ll hN1 hN2 lN hF s5 eA eB fA fB tkA tkB eH hO4 hLw s34 hX sX hOv hXX lov hY s6 hdY hL6 hX2 sX2 hdY2 hLo hXX2 eu hZ hi hs hd hm hy h3 b3; omega))
      refine ⟨xs, g1, g2, same_at hZ (hs.trans b3) _, ?_⟩
      rw [take_snoc hm, List.map_append]
      exact g3
  obtain ⟨s8, hdZ⟩ := hI
  rw [List.length_map, List.take_length] at hdZ
  obtain ⟨xY, hY1, hY2⟩ := hdY2.same s8
  obtain ⟨xZ, hZ1, hZ2⟩ := hdZ
  have lY := dpAll_len hY2
  have lZ := dpAll_len hZ2
  rw [List.length_map, List.length_map] at lY lZ
  refine ⟨Y, Z, xY, xZ, rfl, rfl, hY1, hZ1, small (by (clear T D_store_peaks D_battery_lows B hr wok hW cg hc hn q gw p0 q0 p2 q2 p3 q3 hz hsb g1 g2 g3 hh s1 nM pwm memm hM1 hM2 lM insm lms hD s3 hO s13 s4 nN pwl hlv non ll hN1 hN2 lN hF s5 eA eB fA fB tkA tkB eH hO4 hLw s34 hX sX hOv hXX hY s6 hdY hL6 hX2 sX2 hdY2 hLo hXX2 eu hZ s8 hY1 hY2 hZ1 hZ2; omega)), fun R hR => ?_⟩
  have s9 := s34.trans (sX.trans (s6.trans (sX2.trans s8)))
  refine q R _ (s9.trans (same_new hR _)) (s9.free hR) ⟨xY ++ xZ, upd_same, ?_⟩
  rw [eu, List.map_append]
  exact dpAll_same (same_new hR _) (dpAll_app hY2 hZ2)
end
end DP
namespace DP
open PySem PySem.Spec PyProof.Rows L2
theorem rg_lenk {β : Type} {g : Nat → List β} {k : Nat} (h : ∀ i, (g i).length ≤ k) : ∀ n, ((List.range n).flatMap g).length ≤ n * k
  | 0 => Nat.zero_le _
  | n + 1 => by
    rw [rg_succ, List.length_append, Nat.succ_mul]
    exact Nat.add_le_add (rg_lenk h n) (h n)
theorem turnB_len {W : WorldD} (c : CaseD) {n : Nat} (h : W.pass.length ≤ n) : (turnB W c).length ≤ n * n := by
  have a := takL_len W c W.pass.length
  exact Nat.le_trans (pairsI_len (turnG_len W c) _ _) (Nat.mul_le_mul (Nat.le_trans a h) (Nat.le_trans a h))
theorem busyB_len {W : WorldD} (wok : WorldOk W) (c : CaseD) (s : Nat) : (busyB W c s).length ≤ 400 := by
  have a := busy_len wok c s
  exact Nat.le_trans (pairsI_len (busyG_len W s) _ _) (Nat.mul_le_mul a a)
theorem unitB_len (W : WorldD) (c : CaseD) (s : Nat) : (unitB W c s).length ≤ 2 := by
  unfold unitB
  split
  · rw [List.length_append, List.length_map, List.length_map, List.length_take, List.length_take]
    omega
  · exact Nat.zero_le _
theorem DL.ext {α : Type} {K : PySem.W.Frag} {f : α → PyData} {H : Hp} {D E : Addr} {l m : List α} (nf : ∀ a, noL (f a)) (h : DL K f H D l) (h2 : DL K f H E m) : ∃ xs ys, H D = some (.lst xs) ∧ H E = some (.lst ys) ∧ xs.length = l.length ∧ ys.length = m.length ∧ DL K f (upd H D (.lst (xs ++ ys))) D (l ++ m) := by
  obtain ⟨xs, a1, a2⟩ := h
  obtain ⟨ys, b1, b2⟩ := h2
  have l1 := dpAll_len a2
  have l2 := dpAll_len b2
  rw [List.length_map] at l1 l2
  exact ⟨xs, ys, a1, b1, by omega, by omega, xs ++ ys, upd_same, by rw [List.map_append]; exact dpAll_app (dpTs_up (noLs_map nf l) a1 a2) (dpTs_up (noLs_map nf m) a1 b2)⟩
section
variable {P : Program} {w : World} {K : PySem.W.Frag} {mg : Str → Option Value} {base : Heap} {CL CS CT CR CP CW aS aR fS fT fR fP : Addr}
set_option maxHeartbeats 8000000 in
theorem d_casebr (T : TxtW K mg CL CS CT CR CP CW aS aR fS fT fR fP) (D_check_case : DefOk P w K mg base CX0 3 "check_case" ["world", "case"] (spCheckCase K CS CT CR CP CW)) (D_recording_breaches : DefOk P w K mg base CX0 2 "recording_breaches" ["world", "case"] (spBr K CS CT CR CP CW fun W c => recB W c W.recs.length)) (D_pass_breaches : DefOk P w K mg base CX0 4 "pass_breaches" ["world", "case"] (spBr K CS CT CR CP CW fun W c => pasB W c W.pass.length)) (D_turn_breaches : DefOk P w K mg base CX0 4 "turn_breaches" ["world", "case"] (spBr K CS CT CR CP CW turnB))
    (D_busy_breaches : DefOk P w K mg base CX0 4 "busy_breaches" ["world", "case", "number"] (spBrS K CS CT CR CP CW busyB)) (D_unit_breaches : DefOk P w K mg base CX0 6 "unit_breaches" ["world", "case", "number"] (spBrS K CS CT CR CP CW unitB))
    (A : At K mg "case_breaches" s_case_breaches ["world", "case"]) : DefOk P w K mg base CX0 7 "case_breaches" ["world", "case"] (spBr K CS CT CR CP CW caseB) := by
  have B := T.L.B
  refine A.ok sc_case_breaches (fun vs H Q E h => ?_) (fun f cdv A outer s H vs Q E hr h => ?_)
  · obtain ⟨ac, v, W, o, c, rfl, _⟩ := h
    rfl
  obtain ⟨ac, v, W, o, c, rfl, wok, hW, cg, hc, q⟩ := h
  have nR := wok.nRecs
  have nP := wok.nPass
  have nS := wok.nSats
  have lR : (recB W c W.recs.length).length ≤ W.recs.length := rg_len (recBAt_len W c) _
  have lP : (pasB W c W.pass.length).length ≤ W.pass.length := rg_len (pasBAt_len W c) _
  have lT : (turnB W c).length ≤ 10 * 10 := turnB_len c nP
  have lB : ∀ n, ((List.range n).flatMap (busyB W c)).length ≤ n * 400 := rg_lenk (busyB_len wok c)
  have lU : ∀ n, ((List.range n).flatMap (unitB W c)).length ≤ n * 2 := rg_lenk (unitB_len W c)
  refine ⟨_, pss_cons (ps_expr (pe_f D_check_case (hr.mono (by omega)) pass0 (pa_cons (pv 0) (pa_cons (pv 1) pa_nil))))
  (pss_cons (ps_set (i := 2) sc_case_breaches.nd rfl (Or.inl rfl) (pe_op op_cat (pe_op op_cat (pe_f D_recording_breaches (hr.mono (by omega)) pass0 (pa_cons (pv 0) (pa_cons (pv 1) pa_nil))) (pe_f D_pass_breaches (hr.mono (by omega)) pass0 (pa_cons (pv 0) (pa_cons (pv 1) pa_nil)))) (pe_f D_turn_breaches (hr.mono (by omega)) pass0 (pa_cons (pv 0) (pa_cons (pv 1) pa_nil)))))
  (pss_cons (ps_set (i := 3) sc_case_breaches.nd rfl (Or.inl rfl) (pe_callTy cr_range1 (by rfl) B.range (by decide +kernel) (pa_cons (pe_callB (call_len_seq) (by rfl) B.len (by decide +kernel) (pa_cons (pe_fld (pv 0) rfl) pa_nil)) pa_nil)))
  (pss_cons (ps_for PassesOwn.never rfl (pi_rngV (pv 3)) (pg_name (i := 4) sc_case_breaches.nd rfl (Or.inl rfl))
      (pss_one (ps_expr (pe_bm PySem.F.plainAttrs_list PySem.F.slot_list_extend PySem.F.type_list_extend mt_extend (pv 2) (pa_cons (pe_f D_busy_breaches (hr.mono (by omega)) pass0 (pa_cons (pv 0) (pa_cons (pv 1) (pa_cons (pv 4) pa_nil)))) pa_nil)))))
  (pss_cons (ps_for PassesOwn.never rfl (pi_rngV (pv 3)) (pg_name (i := 4) sc_case_breaches.nd rfl (Or.inl rfl))
      (pss_one (ps_expr (pe_bm PySem.F.plainAttrs_list PySem.F.slot_list_extend PySem.F.type_list_extend mt_extend (pv 2) (pa_cons (pe_f D_unit_breaches (hr.mono (by omega)) pass0 (pa_cons (pv 0) (pa_cons (pv 1) (pa_cons (pv 4) pa_nil)))) pa_nil)))))
  (pss_one (ps_ret (pv 2)))))))
    , ?_⟩
  refine ⟨_, rfl, _, rfl, ac, W, v, o, c, rfl, wok, hW, cg, hc, fun H1 s1 => ?_⟩
  refine ⟨_, rfl, _, rfl, ac, v, W, o, c, rfl, wok, hW.same s1, cg, dp_same s1 hc, fun D1 H2 s2 n1 hd1 => ?_⟩
  have s12 := s1.trans s2
  refine ⟨_, rfl, _, rfl, ac, v, W, o, c, rfl, wok, hW.same s12, cg, dp_same s12 hc, fun D2 H3 s3 n2 hd2 => ?_⟩
  obtain ⟨xs, e1, g1⟩ := hd1.same s3
  obtain ⟨ys, e2, g2⟩ := hd2
  have lx := dpAll_len g1
  have ly := dpAll_len g2
  rw [List.length_map] at lx ly
  have lx : xs.length = (recB W c W.recs.length).length := lx
  have ly : ys.length = (pasB W c W.pass.length).length := ly
  refine ⟨D1, D2, xs, ys, rfl, rfl, e1, e2, small (by omega), fun R1 hR1 => ?_⟩
  have s13 := s12.trans (s3.trans (same_new hR1 (.lst (xs ++ ys))))
  have hdR : DL K brPy (upd H3 R1 (.lst (xs ++ ys))) R1 (recB W c W.recs.length ++ pasB W c W.pass.length) := ⟨xs ++ ys, upd_same, by rw [List.map_append]; exact dpAll_same (same_new hR1 _) (dpAll_app g1 g2)⟩
  generalize upd H3 R1 (.lst (xs ++ ys)) = H4 at s13 hdR
  refine ⟨_, rfl, _, rfl, ac, v, W, o, c, rfl, wok, hW.same s13, cg, dp_same s13 hc, fun D3 H5 s5 n3 hd3 => ?_⟩
  obtain ⟨xs2, e3, g3⟩ := hdR.same s5
  obtain ⟨ys2, e4, g4⟩ := hd3
  have lx2 := dpAll_len g3
  have ly2 := dpAll_len g4
  rw [List.length_map] at lx2 ly2
  rw [List.length_append] at lx2
  refine ⟨R1, D3, xs2, ys2, rfl, rfl, e3, e4, small (by omega), fun F hF => ?_⟩
  have s15 := s13.trans (s5.trans (same_new hF (.lst (xs2 ++ ys2))))
  have nF := (s13.trans s5).free hF
  have hdF : DL K brPy (upd H5 F (.lst (xs2 ++ ys2))) F (recB W c W.recs.length ++ pasB W c W.pass.length ++ turnB W c) := ⟨xs2 ++ ys2, upd_same, by rw [List.map_append]; exact dpAll_same (same_new hF _) (dpAll_app g3 g4)⟩
  generalize upd H5 F (.lst (xs2 ++ ys2)) = H6 at s15 hdF
  generalize hb0 : recB W c W.recs.length ++ pasB W c W.pass.length ++ turnB W c = b0 at hdF
  have lb0 : b0.length ≤ 120 := by
    rw [← hb0, List.length_append, List.length_append]
    omega
  obtain ⟨dx, t0, t1, t2, t3, x0, x1, x2, x3, gw, p0, q0, _⟩ := (hW.same s15).ex
  have l0 := paired_len q0
  refine ⟨_, rfl, ac, CW, dx, _, _, rfl, gw, T.c_World.cl, T.n_World_satellites, lk_World_satellites, t0, x0, rfl, .inr p0, _, rfl, fun r hr1 => ?_⟩
  have s16 := s15.trans (same_new hr1 (.rng 0 (x0.length : Int)))
  have hd6 := hdF.same (same_new hr1 (.rng 0 (x0.length : Int)))
  have hr2 : (upd H6 r (.rng 0 (x0.length : Int))) r = some (.rng 0 (x0.length : Int)) := upd_same
  have nrF : r ≠ F := by
    obtain ⟨xs, k1, _⟩ := hdF
    exact (ne_of_none k1 hr1).symm
  generalize upd H6 r (.rng 0 (x0.length : Int)) = H7 at s16 hd6 hr2
  have nn : ((x0.length : Int) - 0).toNat = W.sats.length := by (clear T D_check_case D_recording_breaches D_pass_breaches D_turn_breaches D_busy_breaches D_unit_breaches B hr wok hW cg hc q nR nP lR lP lT lB lU s1 s2 n1 hd1 s12 s3 n2 e1 g1 e2 g2 lx ly hR1 s13 hdR s5 n3 e3 g3 e4 g4 lx2 ly2 hF nF s15 hb0 hdF lb0 gw p0 q0 hr1 nrF s16 hd6 hr2; omega)
  refine ⟨_, rfl, r, 0, (x0.length : Int), rfl, hr2, ⟨by (clear T D_check_case D_recording_breaches D_pass_breaches D_turn_breaches D_busy_breaches D_unit_breaches B hr wok hW cg hc q nR nP nS lR lP lT lB lU s1 s2 n1 hd1 s12 s3 n2 e1 g1 e2 g2 lx ly hR1 s13 hdR s5 n3 e3 g3 e4 g4 lx2 ly2 hF nF s15 hb0 hdF lb0 gw p0 q0 l0 hr1 nrF s16 hd6 hr2 nn; omega), by (clear T D_check_case D_recording_breaches D_pass_breaches D_turn_breaches D_busy_breaches D_unit_breaches B hr wok hW cg hc q nR nP nS lR lP lT lB lU s1 s2 n1 hd1 s12 s3 n2 e1 g1 e2 g2 lx ly hR1 s13 hdR s5 n3 e3 g3 e4 g4 lx2 ly2 hF nF s15 hb0 hdF lb0 gw p0 q0 l0 hr1 nrF s16 hd6 hr2 nn; omega), by (clear T D_check_case D_recording_breaches D_pass_breaches D_turn_breaches D_busy_breaches D_unit_breaches B hr wok hW cg hc q nR nP lR lP lT lB lU s1 s2 n1 hd1 s12 s3 n2 e1 g1 e2 g2 lx ly hR1 s13 hdR s5 n3 e3 g3 e4 g4 lx2 ly2 hF nF s15 hb0 hdF lb0 gw p0 q0 hr1 nrF s16 hd6 hr2; omega), by (clear T D_check_case D_recording_breaches D_pass_breaches D_turn_breaches D_busy_breaches D_unit_breaches B hr wok hW cg hc q nR nP lR lP lT lB lU s1 s2 n1 hd1 s12 s3 n2 e1 g1 e2 g2 lx ly hR1 s13 hdR s5 n3 e3 g3 e4 g4 lx2 ly2 hF nF s15 hb0 hdF lb0 gw p0 q0 hr1 nrF s16 hd6 hr2; omega)⟩, for_range (lo := 0) (n := ((x0.length : Int) - 0).toNat) (fun i σ H' => ∃ y5, σ = [some (.ref ac), some v, some (.ref F), some (.ref r), y5] ∧ Same H H' ∧ H' r = some (.rng 0 (x0.length : Int)) ∧ DL K brPy H' F (b0 ++ (List.range i).flatMap (busyB W c)))
    ⟨none, rfl, s16, hr2, by rw [List.range_zero, List.flatMap_nil, List.append_nil]; exact hd6⟩ (fun i σ H8 hi hI => ?_) (fun σ H8 hI => ?_)⟩
  · obtain ⟨y5, rfl, hs, hrr, hd⟩ := hI
    obtain ⟨xs0, hx0, _⟩ := id hd
    refine ⟨_, rfl, .inl ⟨rfl, _, SqL.of hx0⟩, _, rfl, _, rfl, _, rfl, ac, v, W, o, c, i, by rw [Int.zero_add]; rfl, wok, hW.same hs, cg, dp_same hs hc, by (clear T D_check_case D_recording_breaches D_pass_breaches D_turn_breaches D_busy_breaches D_unit_breaches B hr wok hW cg hc q nR nP nS lR lP lT lB lU s1 s2 n1 hd1 s12 s3 n2 e1 g1 e2 g2 lx ly hR1 s13 hdR s5 n3 e3 g3 e4 g4 lx2 ly2 hF nF s15 hb0 hdF lb0 gw p0 q0 hr1 nrF s16 hd6 hr2 hs hrr hd hx0; omega), fun E H9 s9 nE hE => ?_⟩
    obtain ⟨ys, zs, u1, u2, u3, u4, u5⟩ := (hd.same s9).ext noL_br hE
    have lbi := lB i
    have lbb := busyB_len wok c i
    refine ⟨F, E, ys, zs, rfl, rfl, u1, u2, ?_, ?_⟩
    · have hi3 : i ≤ 3 := by (clear T D_check_case D_recording_breaches D_pass_breaches D_turn_breaches D_busy_breaches D_unit_breaches B hr wok hW cg hc q nR nP lR lP lT lB lU s1 s2 n1 hd1 s12 s3 n2 e1 g1 e2 g2 lx ly hR1 s13 hdR s5 n3 e3 g3 e4 g4 lx2 ly2 hF nF s15 hb0 hdF lb0 gw p0 q0 hr1 nrF s16 hd6 hr2 hs hrr hd hx0 s9 nE hE u1 u2 u3 u4 u5 lbi lbb; omega)
      have := Nat.mul_le_mul hi3 (Nat.le_refl 400)
      rw [u3, u4, List.length_append]
      exact fit_big (by (clear T D_check_case D_recording_breaches D_pass_breaches D_turn_breaches D_busy_breaches D_unit_breaches B hr wok hW cg hc q nR nP lR lP lT lB lU s1 s2 n1 hd1 s12 s3 n2 e1 g1 e2 g2 lx ly hR1 s13 hdR s5 n3 e3 g3 e4 g4 lx2 ly2 hF nF s15 hb0 hdF gw p0 q0 hr1 nrF s16 hd6 hr2 hs hrr hd hx0 s9 nE hE u1 u2 u3 u5 this; omega))
    · refine ⟨_, rfl, same_at nF (hs.trans s9) _, by rw [upd_ne nrF]; exact s9 _ _ hrr, ?_⟩
      rw [rg_succ, ← List.append_assoc]
      exact u5
  obtain ⟨y5, rfl, hs, hrr, hd⟩ := hI
  rw [nn] at hd
  generalize hb1 : b0 ++ (List.range W.sats.length).flatMap (busyB W c) = b1 at hd
  have lb1 : b1.length ≤ 1320 := by
    have := lB W.sats.length
    have := Nat.mul_le_mul nS (Nat.le_refl 400)
    rw [← hb1, List.length_append]
    (clear T D_check_case D_recording_breaches D_pass_breaches D_turn_breaches D_busy_breaches D_unit_breaches B hr wok hW cg hc q nR nP lR lP lT lB lU s1 s2 n1 hd1 s12 s3 n2 e1 g1 e2 g2 lx ly hR1 s13 hdR s5 n3 e3 g3 e4 g4 lx2 ly2 hF nF s15 hb0 hdF gw p0 q0 hr1 nrF s16 hd6 hr2 hs hrr hb1 hd this; omega)
  refine ⟨_, rfl, r, 0, (x0.length : Int), rfl, hrr, ⟨by (clear T D_check_case D_recording_breaches D_pass_breaches D_turn_breaches D_busy_breaches D_unit_breaches B hr wok hW cg hc q nR nP nS lR lP lT lB lU s1 s2 n1 hd1 s12 s3 n2 e1 g1 e2 g2 lx ly hR1 s13 hdR s5 n3 e3 g3 e4 g4 lx2 ly2 hF nF s15 hb0 hdF lb0 gw p0 q0 l0 hr1 nrF s16 hd6 hr2 nn hs hrr hb1 hd lb1; omega), by (clear T D_check_case D_recording_breaches D_pass_breaches D_turn_breaches D_busy_breaches D_unit_breaches B hr wok hW cg hc q nR nP nS lR lP lT lB lU s1 s2 n1 hd1 s12 s3 n2 e1 g1 e2 g2 lx ly hR1 s13 hdR s5 n3 e3 g3 e4 g4 lx2 ly2 hF nF s15 hb0 hdF lb0 gw p0 q0 l0 hr1 nrF s16 hd6 hr2 nn hs hrr hb1 hd lb1; omega), by (clear T D_check_case D_recording_breaches D_pass_breaches D_turn_breaches D_busy_breaches D_unit_breaches B hr wok hW cg hc q nR nP lR lP lT lB lU s1 s2 n1 hd1 s12 s3 n2 e1 g1 e2 g2 lx ly hR1 s13 hdR s5 n3 e3 g3 e4 g4 lx2 ly2 hF nF s15 hb0 hdF lb0 gw p0 q0 hr1 nrF s16 hd6 hr2 hs hrr hb1 hd lb1; omega), by (clear T D_check_case D_recording_breaches D_pass_breaches D_turn_breaches D_busy_breaches D_unit_breaches B hr wok hW cg hc q nR nP lR lP lT lB lU s1 s2 n1 hd1 s12 s3 n2 e1 g1 e2 g2 lx ly hR1 s13 hdR s5 n3 e3 g3 e4 g4 lx2 ly2 hF nF s15 hb0 hdF lb0 gw p0 q0 hr1 nrF s16 hd6 hr2 hs hrr hb1 hd lb1; omega)⟩, for_range (lo := 0) (n := ((x0.length : Int) - 0).toNat) (fun i σ H' => ∃ y6, σ = [some (.ref ac), some v, some (.ref F), some (.ref r), y6] ∧ Same H H' ∧ DL K brPy H' F (b1 ++ (List.range i).flatMap (unitB W c)))
    ⟨y5, rfl, hs, by rw [List.range_zero, List.flatMap_nil, List.append_nil]; exact hd⟩ (fun i σ H9 hi hI => ?_) (fun σ H9 hI => ?_)⟩
  · obtain ⟨y6, rfl, hs, hd⟩ := hI
    obtain ⟨xs0, hx0, _⟩ := id hd
    refine ⟨_, rfl, .inl ⟨rfl, _, SqL.of hx0⟩, _, rfl, _, rfl, _, rfl, ac, v, W, o, c, i, by rw [Int.zero_add]; rfl, wok, hW.same hs, cg, dp_same hs hc, by (clear T D_check_case D_recording_breaches D_pass_breaches D_turn_breaches D_busy_breaches D_unit_breaches B hr wok hW cg hc q nR nP nS lR lP lT lB lU s1 s2 n1 hd1 s12 s3 n2 e1 g1 e2 g2 lx ly hR1 s13 hdR s5 n3 e3 g3 e4 g4 lx2 ly2 hF nF s15 hb0 hdF lb0 gw p0 q0 hr1 nrF s16 hd6 hr2 hrr hb1 lb1 hs hd hx0; omega), fun E H10 s10 nE hE => ?_⟩
    obtain ⟨ys, zs, u1, u2, u3, u4, u5⟩ := (hd.same s10).ext noL_br hE
    have lbi := lU i
    have lbb := unitB_len W c i
    refine ⟨F, E, ys, zs, rfl, rfl, u1, u2, ?_, ?_⟩
    · have hi3 : i ≤ 3 := by (clear T D_check_case D_recording_breaches D_pass_breaches D_turn_breaches D_busy_breaches D_unit_breaches B hr wok hW cg hc q nR nP lR lP lT lB lU s1 s2 n1 hd1 s12 s3 n2 e1 g1 e2 g2 lx ly hR1 s13 hdR s5 n3 e3 g3 e4 g4 lx2 ly2 hF nF s15 hb0 hdF lb0 gw p0 q0 hr1 nrF s16 hd6 hr2 hrr hb1 lb1 hs hd hx0 s10 nE hE u1 u2 u3 u4 u5 lbi lbb; omega)
      have := Nat.mul_le_mul hi3 (Nat.le_refl 2)
      rw [u3, u4, List.length_append]
      exact fit_big (by (clear T D_check_case D_recording_breaches D_pass_breaches D_turn_breaches D_busy_breaches D_unit_breaches B hr wok hW cg hc q nR nP lR lP lT lB lU s1 s2 n1 hd1 s12 s3 n2 e1 g1 e2 g2 lx ly hR1 s13 hdR s5 n3 e3 g3 e4 g4 lx2 ly2 hF nF s15 hb0 hdF lb0 gw p0 q0 hr1 nrF s16 hd6 hr2 hrr hb1 hs hd hx0 s10 nE hE u1 u2 u3 u5 this; omega))
    · refine ⟨_, rfl, same_at nF (hs.trans s10) _, ?_⟩
      rw [rg_succ, ← List.append_assoc]
      exact u5
  obtain ⟨y6, rfl, hs, hd⟩ := hI
  rw [nn, ← hb1, ← hb0] at hd
  exact ⟨_, rfl, q F _ hs nF hd⟩
end
end DP
namespace DP
open PySem PySem.Spec PyProof.Rows L2
/-- the class BadPlan -/
structure TxtE (K : PySem.W.Frag) (mg : Str → Option Value) (CB : Addr) : Prop where
  gB : mg "BadPlan" = some (.ref CB)
  xB : PySem.W.excIn K CB [.type "ValueError", .type "Exception", .type "BaseException", .type "object"] "ValueError.__new__" = true
  kB : PySem.W.keepIn K (.ref CB) = true
  bB : PySem.W.subIn K (.ref CB) (.type "BaseException") = some true
  tB : PySem.W.typeIn K (.ref CB) = some (.type "type")
  iB : PySem.W.isClsIn K CB = true
  sB : PySem.W.subIn K (.ref CB) (.ref CB) = some true
theorem TxtE.te {K : PySem.W.Frag} {mg : Str → Option Value} {CB : Addr} (T : TxtE K mg CB) : PySem.W.exmOne K (.ref CB) (.ref CB) = some true := by
  have e1 : (PySem.W.subIn K (.ref CB) (.type "BaseException") == some true) = true := by rw [T.bB] <;> rfl
  have e2 : ((PySem.W.clsIn K CB).isSome && PySem.W.typeIn K (.ref CB) == some (.type "type")) = true := by
    have h2' : (PySem.W.clsIn K CB).isSome = true := T.iB
    rw [h2', T.tB] <;> rfl
  show (if (PySem.W.subIn K (.ref CB) (.type "BaseException") == some true) = true then (if ((PySem.W.clsIn K CB).isSome && PySem.W.typeIn K (.ref CB) == some (.type "type")) = true then PySem.W.subIn K (.ref CB) (.ref CB) else none) else none) = some true
  rw [if_pos e1, if_pos e2]
  exact T.sB
section
variable {P : Program} {w : World} {K : PySem.W.Frag} {mg : Str → Option Value} {base : Heap} {x : Str} {st : Stmt} {ps N : List Str} {k : Nat} {sp sp' : Sp}
theorem At.okX (F : At K mg x st ps) (S : FnScope N ps (defScope st)) (len : ∀ vs H Q E, sp vs H Q E → vs.length = ps.length)
    (hbody : ∀ (f : Addr) (cdv : Value) (A : Around) (outer : List Env) (s : Shared) (H : Hp) (vs : List V) (Q : VK) (E : XK), Room k (A.deeper (envOfC x (defScope st) s.heap.objs.size f cdv)) → sp vs H Q E →
      ∃ t, PSs (cxOf (L2.CX P w) P w K mg base N x (defScope st) f cdv A outer s H E) (defBody st) t ∧ t { nx := fun _ H' => Q .non H', rt := Q } (start N vs) H) : DefOk P w K mg base (L2.CX P w) (k + 1) x ps sp := by
  obtain ⟨f, fd, G, m, b⟩ := F.ex
  obtain ⟨oc, od, _, _, _, _, _, _, osl, _, lk, _⟩ := G.ex
  exact ⟨f, fd, G.okX S len (fun cdv A outer s H vs Q E hr h => hbody f cdv A outer s H vs Q E hr h), m, G.kp, b, oc, od, osl, lk⟩
/-- a call within a try: what it raises is the clauses' -/
theorem pe_fS {X : Cx} {W : WX} {e : Expr} {es : List Expr} {t : TA} {p pos : Pos} (D : DefOk X.prog X.w X.K X.mg X.base (L2.CX X.prog X.w) k x ps sp) (hr : Room k X.A) (tk : Takes X W) (ha : PA X (e :: es) t)
    (hg : Gl X x := by rfl) (hdb : (x == ("__debug__" : Str)) = false := by decide) (he : starEach (e :: es) X.env = (false, eval e X.env) :: starEach es X.env := by rfl) (hpl : (backTo pos (starEach es X.env)).any (·.1) = false := by rfl) :
    PE X (.Call (.Name x p) (e :: es) [] pos) (tCallS sp (WE W) t) := by
  obtain ⟨f, fd, G, m, kp, b, _⟩ := D.ex
  exact pe_callS G hr hg m kp b (fun σ => passAt tk σ) ha hdb he hpl
end
end DP
namespace DP
open PySem PySem.Spec PyProof.Rows L2
abbrev s_check_plan : Stmt := topS 53
theorem sc_check_plan : FnScope ["world", "plan", "made", "taken"] ["world", "plan"] (defScope s_check_plan) := ⟨rfl, rfl, rfl, by decide +kernel, rfl, by decide +kernel, by decide +kernel⟩
def opnM (c : CaseD) : Bool := (c.made.map entM).any fun z => PyData.eqv z (.str "open")
def opnT (c : CaseD) : Bool := (c.taken.map entT).any fun z => PyData.eqv z (.str "open")
def opn (c : CaseD) : Bool := opnM c || opnT c
section
variable {P : Program} {w : World} {K : PySem.W.Frag} {mg : Str → Option Value} {base : Heap} {CL CS CT CR CP CW aS aR fS fT fR fP CB : Addr}
def spCheckX (K : PySem.W.Frag) (CS CT CR CP CW CB : Addr) : Sp := fun vs H Q E => ∃ (ac : Addr) (W : WorldD) (v : V) (o : Bool) (c : CaseD), vs = [.ref ac, v] ∧ WorldOk W ∧ WorldAt K CS CT CR CP CW H ac W ∧ CaseG W o c ∧ Dp K H v (casePy c) ∧
  (opn c = false → ∀ H', Same H H' → Q .non H') ∧ (opn c = true → ∀ H', Same H H' → E (.ref CB) none H')
theorem d_check_planX (T : TxtW K mg CL CS CT CR CP CW aS aR fS fT fR fP) (TP : TxtO mg) (TE : TxtE K mg CB) (D_check_case : DefOk P w K mg base CX0 3 "check_case" ["world", "case"] (spCheckCase K CS CT CR CP CW)) (A : At K mg "check_plan" s_check_plan ["world", "plan"]) :
    DefOk P w K mg base (L2.CX P w) 4 "check_plan" ["world", "plan"] (spCheckX K CS CT CR CP CW CB) := by
  have B := T.L.B
  have T := TP
  refine A.okX sc_check_plan (fun vs H Q E h => ?_) (fun f cdv A outer s H vs Q E hr h => ?_)
  · obtain ⟨ac, W, v, o, c, rfl, _⟩ := h
    rfl
  obtain ⟨ac, W, v, o, c, rfl, wok, hW, cg, hd, q, qe⟩ := h
  refine ⟨_, pss_cons (ps_expr (pe_f D_check_case (hr.mono (by omega)) pass0 (pa_cons (pv 0) (pa_cons (pv 1) pa_nil))))
  (pss_cons (ps_asg (pv 1) (pg_tup (by rfl) (pgs_cons (pg_name (i := 2) sc_check_plan.nd rfl (Or.inl rfl)) (pgs_cons (pg_name (i := 3) sc_check_plan.nd rfl (Or.inl rfl)) (pgs_nil)))))
  (pss_one (ps_if (PW.pt (pw_or (pt_cmpR (op_inDT (hu65 hr)) (pe_gs T.g_OPEN) (pv 2) (by rfl)) (pw_or1 (pt_cmpR (op_inDT (hu65 hr)) (pe_gs T.g_OPEN) (pv 3) (by rfl)))))
      (pss_one (ps_raise rfl (takes_of rfl rfl rfl rfl) (pmk_own PySem.F.excBase_ValueError TE.xB TE.gB TE.kB (raises_own TE.bB TE.tB) rfl)))
      (pss_nil))))
    , ?_⟩
  refine ⟨_, rfl, _, rfl, ac, W, v, o, c, rfl, wok, hW, cg, hd, fun H1 s1 => ?_⟩
  have hd1 := dp_same s1 hd
  obtain ⟨t, xs, rfl, ht, hx⟩ := dp_tup hd1
  cases hx with
  | cons a0 hx =>
  cases hx with
  | cons a1 hx =>
  cases hx
  refine ⟨_, rfl, t, _, rfl, ht, rfl, _, _, rfl, _, _, rfl, rfl, ?_⟩
  refine ⟨_, rfl, .str "open", _, .str _, a0, by decide +kernel, shp_made _, _, rfl, ?_⟩
  cases hm : opnM c with
  | true => exact iteT' hm (iteT' rfl (qe (by unfold opn; rw [hm]; rfl) _ s1))
  | false =>
    refine iteF' hm ⟨_, rfl, .str "open", _, .str _, a1, by decide +kernel, shp_taken _, _, rfl, ?_⟩
    cases hn : opnT c with
    | true => exact iteT' hn (qe (by unfold opn; rw [hm, hn]; rfl) _ s1)
    | false => exact iteF' hn (q (by unfold opn; rw [hm, hn]; rfl) _ s1)
end
end DP
namespace DP
open PySem PySem.Spec PyProof.Rows L2
abbrev s__law_told : Stmt := topS 106
theorem sc__law_told : FnScope ["world", "case"] ["world", "case"] (defScope s__law_told) := ⟨rfl, rfl, rfl, by decide +kernel, rfl, by decide +kernel, by decide +kernel⟩
abbrev s__law_kept : Stmt := topS 107
theorem sc__law_kept : FnScope ["world", "case"] ["world", "case"] (defScope s__law_kept) := ⟨rfl, rfl, rfl, by decide +kernel, rfl, by decide +kernel, by decide +kernel⟩
section
variable {P : Program} {w : World} {K : PySem.W.Frag} {mg : Str → Option Value} {base : Heap} {CL CS CT CR CP CW aS aR fS fT fR fP CB : Addr}
def spBrX (K : PySem.W.Frag) (CS CT CR CP CW CB : Addr) : Sp := fun vs H Q E => ∃ (ac : Addr) (v : V) (W : WorldD) (o : Bool) (c : CaseD), vs = [.ref ac, v] ∧ WorldOk W ∧ WorldAt K CS CT CR CP CW H ac W ∧ CaseG W o c ∧ Dp K H v (casePy c) ∧
  (opn c = false → ∀ D H', Same H H' → H D = none → DL K brPy H' D (caseB W c) → Q (.ref D) H') ∧ (opn c = true → ∀ H', Same H H' → E (.ref CB) none H')
theorem passOut {X : Cx} {E : XK} (hs : X.stack = X.env :: X.outer) (hf : X.env.frame = some X.env.locals) (hex : X.ex = []) {E₁ : Value → Shared → Prop}
    (hx : X.xe = fun e s' => wpAny (model X.prog X.w) X.A (leaving X.env e) (fun _ s'' => L2.CX X.prog X.w X.outer X.H_0 X.s_0 E e s'') E₁ s') : Passes (L2.CX X.prog X.w) X E :=
  passes_call (takes_of hs hf hex hx) fun _ _ _ _ h => h
theorem d_breachesX (T : TxtW K mg CL CS CT CR CP CW aS aR fS fT fR fP) (D_check_plan : DefOk P w K mg base (L2.CX P w) 4 "check_plan" ["world", "plan"] (spCheckX K CS CT CR CP CW CB)) (D_case_breaches : DefOk P w K mg base CX0 7 "case_breaches" ["world", "case"] (spBr K CS CT CR CP CW caseB)) (A : At K mg "breaches" s_breaches ["world", "plan"]) :
    DefOk P w K mg base (L2.CX P w) 8 "breaches" ["world", "plan"] (spBrX K CS CT CR CP CW CB) := by
  have B := T.L.B
  refine A.okX sc_breaches (fun vs H Q E h => ?_) (fun f cdv A outer s H vs Q E hr h => ?_)
  · obtain ⟨ac, v, W, o, c, rfl, _⟩ := h
    rfl
  obtain ⟨ac, v, W, o, c, rfl, wok, hW, cg, hc, q, qe⟩ := h
  refine ⟨_, pss_cons (ps_expr (pe_f D_check_plan (hr.mono (by omega)) (passOut rfl rfl rfl rfl) (pa_cons (pv 0) (pa_cons (pv 1) pa_nil))))
  (pss_one (ps_ret (pe_f D_case_breaches (hr.mono (by omega)) pass0 (pa_cons (pv 0) (pa_cons (pv 1) pa_nil)))))
    , ?_⟩
  refine ⟨_, rfl, _, rfl, ac, W, v, o, c, rfl, wok, hW, cg, hc, fun ho H1 s1 => ?_, fun ho H1 s1 => qe ho _ s1⟩
  exact ⟨_, rfl, _, rfl, ac, v, W, o, c, rfl, wok, hW.same s1, cg, dp_same s1 hc, fun D H2 s2 n2 hd => q ho D H2 (s1.trans s2) (s1.free n2) hd⟩
def spKeepsX (K : PySem.W.Frag) (CS CT CR CP CW CB : Addr) : Sp := fun vs H Q E => ∃ (ac : Addr) (v : V) (W : WorldD) (o : Bool) (c : CaseD), vs = [.ref ac, v] ∧ WorldOk W ∧ WorldAt K CS CT CR CP CW H ac W ∧ CaseG W o c ∧ Dp K H v (casePy c) ∧
  (opn c = false → ∀ H', Same H H' → Q (.bl (decide (V.int ((caseB W c).length : Int) = V.int 0))) H') ∧ (opn c = true → ∀ H', Same H H' → E (.ref CB) none H')
theorem d_keepsX (T : TxtW K mg CL CS CT CR CP CW aS aR fS fT fR fP) (D_breaches : DefOk P w K mg base (L2.CX P w) 8 "breaches" ["world", "plan"] (spBrX K CS CT CR CP CW CB)) (A : At K mg "keeps_rules" s_keeps_rules ["world", "plan"]) :
    DefOk P w K mg base (L2.CX P w) 9 "keeps_rules" ["world", "plan"] (spKeepsX K CS CT CR CP CW CB) := by
  have B := T.L.B
  refine A.okX sc_keeps_rules (fun vs H Q E h => ?_) (fun f cdv A outer s H vs Q E hr h => ?_)
  · obtain ⟨ac, v, W, o, c, rfl, _⟩ := h
    rfl
  obtain ⟨ac, v, W, o, c, rfl, wok, hW, cg, hc, q, qe⟩ := h
  refine ⟨_, pss_one (ps_ret (pe_cmpR op_eq (pe_callB (call_len_seq) (by rfl) B.len (by decide +kernel) (pa_cons (pe_f D_breaches (hr.mono (by omega)) (passOut rfl rfl rfl rfl) (pa_cons (pv 0) (pa_cons (pv 1) pa_nil))) pa_nil)) pe_int (nomark _)))
    , ?_⟩
  refine ⟨_, rfl, _, rfl, ac, v, W, o, c, rfl, wok, hW, cg, hc, fun ho D H2 s2 n2 hd => ?_, fun ho H1 s1 => qe ho _ s1⟩
  obtain ⟨xs, e1, g1⟩ := hd
  have lx := dpAll_len g1
  rw [List.length_map] at lx
  have q1 := q ho _ s2
  rw [← lx] at q1
  exact ⟨D, xs, rfl, .inl (SqL.of e1), rfl, q1⟩
def spTold (K : PySem.W.Frag) (CS CT CR CP CW : Addr) : Sp := fun vs H Q _ => ∃ (ac : Addr) (v : V) (W : WorldD) (o : Bool) (c : CaseD), vs = [.ref ac, v] ∧ WorldOk W ∧ WorldAt K CS CT CR CP CW H ac W ∧ CaseG W o c ∧ Dp K H v (casePy c) ∧
  (opn c = false → ∀ D H', Same H H' → H D = none → DL K brPy H' D (caseB W c) → Q (.ref D) H') ∧ (opn c = true → ∀ H', Same H H' → Q .non H')
theorem d_told (T : TxtW K mg CL CS CT CR CP CW aS aR fS fT fR fP) (TE : TxtE K mg CB) (D_breaches : DefOk P w K mg base (L2.CX P w) 8 "breaches" ["world", "plan"] (spBrX K CS CT CR CP CW CB)) (A : At K mg "_law_told" s__law_told ["world", "case"]) :
    DefOk P w K mg base CX0 9 "_law_told" ["world", "case"] (spTold K CS CT CR CP CW) := by
  have B := T.L.B
  refine A.ok sc__law_told (fun vs H Q E h => ?_) (fun f cdv A outer s H vs Q E hr h => ?_)
  · obtain ⟨ac, v, W, o, c, rfl, _⟩ := h
    rfl
  obtain ⟨ac, v, W, o, c, rfl, wok, hW, cg, hc, q, qe⟩ := h
  have hr1 : Room 8 _ := hr.mono (by omega)
  refine ⟨_, pss_one (ps_try_only (tb := fun W => tRet (tCallS (spBrX K CS CT CR CP CW CB) (WE W) (tCons (tVar 0) (tCons (tVar 1) tNil)))) (ts := fun _ _ _ => tRet (tC V.non)) (Wout := fun _ _ _ _ => False) rfl rfl ⟨rfl, by decide, Or.inl TE.gB⟩ takes0
      (fun W pn xe tk _ => pss_one (ps_ret (by exact (pe_fS D_breaches hr1 tk (pa_cons (pv 0) (pa_cons (pv 1) pa_nil))))))
      (fun a oe cls d pn hz hf => pss_one (ps_ret pe_non)))
    , ?_⟩
  exact ⟨_, rfl, _, rfl, ac, v, W, o, c, rfl, wok, hW, cg, hc, q, fun ho H1 s1 => ⟨true, TE.te, fun _ a0 _ => qe ho _ s1, fun z => Bool.noConfusion z⟩⟩
def spKept (K : PySem.W.Frag) (CS CT CR CP CW : Addr) : Sp := fun vs H Q _ => ∃ (ac : Addr) (v : V) (W : WorldD) (o : Bool) (c : CaseD), vs = [.ref ac, v] ∧ WorldOk W ∧ WorldAt K CS CT CR CP CW H ac W ∧ CaseG W o c ∧ Dp K H v (casePy c) ∧
  (opn c = false → ∀ H', Same H H' → Q (.bl (decide (V.int ((caseB W c).length : Int) = V.int 0))) H') ∧ (opn c = true → ∀ H', Same H H' → Q .non H')
theorem d_kept (T : TxtW K mg CL CS CT CR CP CW aS aR fS fT fR fP) (TE : TxtE K mg CB) (D_keeps_rules : DefOk P w K mg base (L2.CX P w) 9 "keeps_rules" ["world", "plan"] (spKeepsX K CS CT CR CP CW CB)) (A : At K mg "_law_kept" s__law_kept ["world", "case"]) :
    DefOk P w K mg base CX0 10 "_law_kept" ["world", "case"] (spKept K CS CT CR CP CW) := by
  have B := T.L.B
  refine A.ok sc__law_kept (fun vs H Q E h => ?_) (fun f cdv A outer s H vs Q E hr h => ?_)
  · obtain ⟨ac, v, W, o, c, rfl, _⟩ := h
    rfl
  obtain ⟨ac, v, W, o, c, rfl, wok, hW, cg, hc, q, qe⟩ := h
  have hr1 : Room 9 _ := hr.mono (by omega)
  refine ⟨_, pss_one (ps_try_only (tb := fun W => tRet (tCallS (spKeepsX K CS CT CR CP CW CB) (WE W) (tCons (tVar 0) (tCons (tVar 1) tNil)))) (ts := fun _ _ _ => tRet (tC V.non)) (Wout := fun _ _ _ _ => False) rfl rfl ⟨rfl, by decide, Or.inl TE.gB⟩ takes0
      (fun W pn xe tk _ => pss_one (ps_ret (by exact (pe_fS D_keeps_rules hr1 tk (pa_cons (pv 0) (pa_cons (pv 1) pa_nil))))))
      (fun a oe cls d pn hz hf => pss_one (ps_ret pe_non)))
    , ?_⟩
  exact ⟨_, rfl, _, rfl, ac, v, W, o, c, rfl, wok, hW, cg, hc, q, fun ho H1 s1 => ⟨true, TE.te, fun _ a0 _ => qe ho _ s1, fun z => Bool.noConfusion z⟩⟩
end
end DP
namespace DP
open PySem PySem.Spec PyProof.Rows L2
abbrev s__law_meet : Stmt := topS 100
theorem sc__law_meet : FnScope ["one", "other", "more"] ["one", "other", "more"] (defScope s__law_meet) := ⟨rfl, rfl, rfl, by decide +kernel, rfl, by decide +kernel, by decide +kernel⟩
abbrev s__law_things : Stmt := topS 101
theorem sc__law_things : FnScope ["world", "case", "s", "found", "r", "start", "p"] ["world", "case", "s"] (defScope s__law_things) := ⟨rfl, rfl, rfl, by decide +kernel, rfl, by decide +kernel, by decide +kernel⟩
section
variable {P : Program} {w : World} {K : PySem.W.Frag} {mg : Str → Option Value} {base : Heap}
def spLawMeet (K : PySem.W.Frag) : Sp := fun vs H Q _ => ∃ (a b : Addr) (x y : Int × Int) (n : Int), vs = [.ref a, .ref b, .int n] ∧ SqT K H a [.int x.1, .int x.2] ∧ SqT K H b [.int y.1, .int y.2] ∧ Q (.bl (closeB x y n)) H
theorem d_lmeet (B : Bt mg) (A : At K mg "_law_meet" s__law_meet ["one", "other", "more"]) : DefOk P w K mg base CX0 1 "_law_meet" ["one", "other", "more"] (spLawMeet K) := by
  refine A.ok sc__law_meet (fun vs H Q E h => ?_) (fun f cdv A outer s H vs Q E hr h => ?_)
  · obtain ⟨a, b, x, y, n, rfl, _⟩ := h
    rfl
  obtain ⟨a, b, x, y, n, rfl, ha, hb, q⟩ := h
  refine ⟨_, pss_one (ps_ret (pe_and (pe_cmpR op_lt (pe_ix ix_tup (pv 0) pe_int (fun _ _ => rfl)) (pe_op op_add (pe_ix ix_tup (pv 1) pe_int (fun _ _ => rfl)) (pv 2)) (nomark _)) (pe_one (pe_cmpR op_lt (pe_ix ix_tup (pv 1) pe_int (fun _ _ => rfl)) (pe_op op_add (pe_ix ix_tup (pv 0) pe_int (fun _ _ => rfl)) (pv 2)) (nomark _)))))
    , ?_⟩
  unfold closeB at q
  refine ⟨_, rfl, a, _, 0, _, rfl, rfl, ha, rfl, _, rfl, b, _, 1, _, rfl, rfl, hb, rfl, _, rfl, _, _, rfl, rfl, _, _, rfl, rfl, _, rfl, ite2 (fun k1 => ?_) (fun k1 => ?_)⟩
  · refine ⟨_, rfl, b, _, 0, _, rfl, rfl, hb, rfl, _, rfl, a, _, 1, _, rfl, rfl, ha, rfl, _, rfl, _, _, rfl, rfl, _, _, rfl, rfl, ?_⟩
    rw [show decide (x.1 < y.2 + n) = true from k1, Bool.true_and] at q
    exact q
  · rw [show decide (x.1 < y.2 + n) = false from Bool.eq_false_iff.mpr k1, Bool.false_and] at q
    exact q
def spLawThings (K : PySem.W.Frag) : Sp := fun vs H Q _ => ∃ (wd : Addr) (v : V) (W : WorldD) (o : Bool) (c : CaseD) (s : Nat), vs = [.ref wd, v, .int (s : Int)] ∧ WorldOk W ∧ WdAt K H wd W ∧ CaseG W o c ∧ Dp K H v (casePy c) ∧ ∀ D H', Same H H' → H D = none → DL K thgPy H' D (busyL W c s) → Q (.ref D) H'
set_option maxHeartbeats 4000000 in
theorem d_lthings (B : Bt mg) (D_law_made : DefOk P w K mg base CX0 2 "_law_made" ["world", "case", "s"] (spLawMade K)) (D_law_taken : DefOk P w K mg base CX0 2 "_law_taken" ["world", "case", "s"] (spLawTaken K)) (A : At K mg "_law_things" s__law_things ["world", "case", "s"]) : DefOk P w K mg base CX0 3 "_law_things" ["world", "case", "s"] (spLawThings K) := by
  refine A.ok sc__law_things (fun vs H Q E h => ?_) (fun f cdv A outer s H vs Q E hr h => ?_)
  · obtain ⟨wd, v, W, o, c, n, rfl, _⟩ := h
    rfl
  obtain ⟨wd, v, W, o, c, n, rfl, wok, hwd, cg, hc, q⟩ := h
  obtain ⟨wa, wb, wc, we, xa, xb, xc, xd, g, a1, a2, b1, b2, c1, c2, e1, e2⟩ := hwd.ex
  have nR := wok.nRecs
  have nP := wok.nPass
  refine ⟨_, pss_cons (ps_set (i := 3) sc__law_things.nd rfl (Or.inl rfl) (pe_lst pa_nil))
  (pss_cons (ps_for PassesOwn.never rfl (pi_list (pe_f D_law_made (hr.mono (by omega)) pass0 (pa_cons (pv 0) (pa_cons (pv 1) (pa_cons (pv 2) pa_nil))))) (pg_tup (by rfl) (pgs_cons (pg_name (i := 4) sc__law_things.nd rfl (Or.inl rfl)) (pgs_cons (pg_name (i := 5) sc__law_things.nd rfl (Or.inl rfl)) (pgs_cons (pg_name (i := 6) sc__law_things.nd rfl (Or.inl rfl)) (pgs_nil)))))
      (pss_one (ps_expr (pe_bm PySem.F.plainAttrs_list PySem.F.slot_list_append PySem.F.type_list_append mt_append (pv 3) (pa_cons (pe_tup (pa_cons (pe_tup (pa_cons pe_str (pa_cons (pv 4) pa_nil))) (pa_cons (pe_tup (pa_cons (pv 5) (pa_cons (pe_op op_add (pv 5) (pe_ix ix_tup (pe_ix ix_tup (pe_ix ix_list (pe_dget (hu_of hr) (pv 0) pe_str (fun _ _ => rfl)) (pv 4) (fun _ _ => rfl)) pe_int (fun _ _ => rfl)) pe_int (fun _ _ => rfl))) pa_nil))) pa_nil))) pa_nil)))))
  (pss_cons (ps_for PassesOwn.never rfl (pi_list (pe_f D_law_taken (hr.mono (by omega)) pass0 (pa_cons (pv 0) (pa_cons (pv 1) (pa_cons (pv 2) pa_nil))))) (pg_name (i := 6) sc__law_things.nd rfl (Or.inl rfl))
      (pss_one (ps_expr (pe_bm PySem.F.plainAttrs_list PySem.F.slot_list_append PySem.F.type_list_append mt_append (pv 3) (pa_cons (pe_tup (pa_cons (pe_tup (pa_cons pe_str (pa_cons (pv 6) pa_nil))) (pa_cons (pe_ix ix_tup (pe_ix ix_list (pe_dget (hu_of hr) (pv 0) pe_str (fun _ _ => rfl)) (pv 6) (fun _ _ => rfl)) pe_int (fun _ _ => rfl)) pa_nil))) pa_nil)))))
  (pss_one (ps_ret (pv 3)))))
    , ?_⟩
  refine ⟨Nat.zero_le _, fun D hD => ?_⟩
  have sD := same_new hD (.lst [])
  refine ⟨_, rfl, _, rfl, _, rfl, wd, v, W, o, c, n, rfl, wok, hwd.same sD, cg, dp_same sD hc, fun M H1 s1 nM hM => ?_⟩
  have hD1 := s1 _ _ (show (upd H D (.lst [])) D = some (.lst []) from upd_same)
  obtain ⟨xm, hM1, hM2⟩ := hM
  have lM := dpAll_len hM2
  rw [List.length_map] at lM
  have nMD : M ≠ D := fun z => by rw [z, upd_same] at nM; cases nM
  have lms : (madeS W c n W.recs.length).length ≤ W.recs.length := Nat.le_trans (List.length_filter_le _ _) (madeL_len W c _)
  have lts : (takS W c n W.pass.length).length ≤ W.pass.length := by
    unfold takS
    refine Nat.le_trans (List.length_filter_le _ _) ?_
    rw [List.length_range]
    exact Nat.le_refl _
  have f0 := flat_len1 (recThg_len W n) (madeS W c n W.recs.length)
  refine ⟨M, rfl, ⟨_, SqL.of hM1⟩, ?_⟩
  refine for_it (walk_list (K := K) (a := M) (xs := xm)) (fun j σ H' => ∃ y4 y5 y6, σ = [some (.ref wd), some v, some (.int (n : Int)), some (.ref D), y4, y5, y6] ∧ SameX D H1 H' ∧ DL K thgPy H' D (((madeS W c n W.recs.length).take j).flatMap (recThg W n))) ⟨none, none, none, rfl, SameX.refl _ _, [], hD1, .nil⟩ (fun j σ H2 _ hI => ?_) (fun j v' σ H2 H3 hj hI hy => ?_) (fun σ H2 hI => ?_)
  · obtain ⟨y4, y5, y6, rfl, hs, _⟩ := hI
    exact SqL.of (hs _ _ nMD hM1)
  · obtain ⟨y4, y5, y6, rfl, hs, hd⟩ := hI
    obtain ⟨rfl, hx⟩ := hy
    obtain ⟨q1, hq1, dq1⟩ := dpAll_get (dpAll_sx (noLs_map noL_trip _) hD1 hs hM2) hx
    obtain ⟨r0, z, y, hz, es, hy2, p0, ho, er⟩ := mem_madeS (List.mem_of_getElem? hq1)
    obtain ⟨tt, rfl, htt⟩ := dp_trip dq1
    have hsH := sx_same (sD.trans s1) hD hs
    obtain ⟨x, ex, dx⟩ := dpAll_get2 c2 hz
    obtain ⟨rt', rt1, rt2, rfl, u1, u2, u3⟩ := rec_open dx
    have ft := fm_take (g := recThg W n) hq1
    have fl := flat_len1 (recThg_len W n) ((madeS W c n W.recs.length).take j)
    rw [List.length_take] at fl
    refine ⟨tt, _, rfl, htt, rfl, _, _, rfl, _, _, rfl, _, _, rfl, rfl, ?_⟩
    obtain ⟨xs0, hx0, _⟩ := id hd
    refine ⟨_, rfl, .inl ⟨rfl, _, SqL.of hx0⟩, _, rfl, sz2_, fun a1' h1 => ⟨_, rfl, _, rfl, _, rfl, wd, _, rfl, get_r ((hsH.trans (same_new h1 _)) _ _ g), _, rfl, wc, xc, (q1.1 : Int), _, rfl, rfl, SqL.of ((hsH.trans (same_new h1 _)) _ _ c1), atI_nat ex, rt', _, 2, _, rfl, rfl, Same.tup (hsH.trans (same_new h1 _)) u1, rfl, rt1, _, 2, _, rfl, rfl, Same.tup (hsH.trans (same_new h1 _)) u2, rfl, _, _, rfl, rfl, sz2_, fun a2' h2 => ⟨sz2_, fun a3' h3 => ?_⟩⟩⟩
    have b1 := same_new h1 (.tup [.str "recording", .int (q1.1 : Int)])
    have b2 := same_new h2 (.tup [.int q1.2.1, .int (q1.2.1 + z.length)])
    have b3 := same_new h3 (.tup [.ref a1', .ref a2'])
    have b123 := b1.trans (b2.trans b3)
    have tv : Dp K (upd (upd (upd H3 a1' (.tup [.str "recording", .int (q1.1 : Int)])) a2' (.tup [.int q1.2.1, .int (q1.2.1 + z.length)])) a3' (.tup [.ref a1', .ref a2'])) (.ref a3') (thgPy (false, q1.1, q1.2.1, q1.2.1 + z.length)) :=
      .tup (SqT.of upd_same) (.cons (.tup (SqT.of ((b2.trans b3) _ _ upd_same)) (.cons (.str _) (.cons (.int _) .nil))) (.cons (.tup (SqT.of (b3 _ _ upd_same)) (.cons (.int _) (.cons (.int _) .nil))) .nil))
    obtain ⟨xs, g1, g2, g3⟩ := (hd.same b123).push noL_thg tv (by (clear B D_law_made D_law_taken hr wok hwd cg hc q g a1 a2 c1 c2 e1 e2 nP hD sD s1 nM hD1 hM1 hM2 nMD lts f0 hs hd hq1 r0 hz es hy2 p0 ho er htt hx dq1 hsH ex dx u1 u2 u3 ft hx0 h1 h2 h3 b1 b2 b3 b123 tv; omega))
    refine ⟨D, xs, _, rfl, rfl, g1, g2, _, _, _, rfl, (hs.trans (SameX.of b123)).at_, ?_⟩
    rw [ft, er]
    exact g3
  · obtain ⟨y4, y5, y6, rfl, hs, hd⟩ := hI
    rw [lM, List.take_length] at hd
    have hsH := sx_same (sD.trans s1) hD hs
    refine ⟨_, rfl, _, rfl, _, rfl, wd, v, W, o, c, n, rfl, wok, hwd.same hsH, cg, dp_same hsH hc, fun N H3 s3 nN hN => ?_⟩
    have hd3 := hd.same s3
    obtain ⟨ys3, hD3, _⟩ := id hd3
    have nDN : N ≠ D := fun z => by
      obtain ⟨ys2, hD2, _⟩ := id hd
      rw [z, hD2] at nN
      cases nN
    have hs3 := hsH.trans s3
    refine ⟨N, rfl, ⟨_, SqL.of hN⟩, ?_⟩
    refine for_it (walk_list (K := K) (a := N) (xs := (takS W c n W.pass.length).map fun (p : Nat) => V.int (p : Int))) (fun i σ H' => ∃ y7, σ = [some (.ref wd), some v, some (.int (n : Int)), some (.ref D), y4, y5, y7] ∧ SameX D H3 H' ∧ DL K thgPy H' D ((madeS W c n W.recs.length).flatMap (recThg W n) ++ ((takS W c n W.pass.length).take i).flatMap (pasThg W n))) ⟨y6, rfl, SameX.refl _ _, (by rw [List.take_zero, List.flatMap_nil, List.append_nil]; exact hd3)⟩ (fun i σ H4 _ hI => ?_) (fun i v' σ H4 H5 hi hI hy => ?_) (fun σ H4 hI => ?_)
    · obtain ⟨y7, rfl, hx, _⟩ := hI
      exact SqL.of (hx _ _ nDN hN)
    · obtain ⟨y7, rfl, hx, hd⟩ := hI
      obtain ⟨rfl, hy⟩ := hy
      rw [List.getElem?_map] at hy
      cases hm : (takS W c n W.pass.length)[i]? with
      | none => rw [hm] at hy; cases hy
      | some p =>
        rw [hm] at hy
        have ev : V.int (p : Int) = v' := Option.some.inj hy
        subst ev
        obtain ⟨pk, ha, z, hz, es, ep⟩ := mem_takS (List.mem_of_getElem? hm)
        have hsG := sx_same (hsH.trans s3) hD hx
        obtain ⟨vp, evp, dvp⟩ := dpAll_get2 e2 hz
        obtain ⟨tp, tp1, tp2, rfl, w1, w2, w3⟩ := pas_open dvp
        have ft := fm_take (g := pasThg W n) hm
        have fl := flat_len1 (pasThg_len W n) ((takS W c n W.pass.length).take i)
        rw [List.length_take] at fl
        obtain ⟨xs0, hx0, _⟩ := id hd
        refine ⟨_, rfl, .inl ⟨rfl, _, SqL.of hx0⟩, _, rfl, sz2_, fun a1' h1 => ⟨_, rfl, wd, _, rfl, get_p ((hsG.trans (same_new h1 _)) _ _ g), _, rfl, we, xd, (p : Int), _, rfl, rfl, SqL.of ((hsG.trans (same_new h1 _)) _ _ e1), atI_nat evp, tp, _, 3, _, rfl, rfl, Same.tup (hsG.trans (same_new h1 _)) w1, rfl, sz2_, fun a3' h3 => ?_⟩⟩
        have b1 := same_new h1 (.tup [.str "pass", .int (p : Int)])
        have b3 := same_new h3 (.tup [.ref a1', .ref tp1])
        have b13 := b1.trans b3
        have tv : Dp K (upd (upd H5 a1' (.tup [.str "pass", .int (p : Int)])) a3' (.tup [.ref a1', .ref tp1])) (.ref a3') (thgPy (true, p, z.first, z.fin)) :=
          .tup (SqT.of upd_same) (.cons (.tup (SqT.of (b3 _ _ upd_same)) (.cons (.str _) (.cons (.int _) .nil))) (.cons (.tup (Same.tup (hsG.trans b13) w2) (.cons (.int _) (.cons (.int _) .nil))) .nil))
        obtain ⟨xs, g1, g2, g3⟩ := (hd.same b13).push noL_thg tv (by rw [List.length_append]; omega)
        refine ⟨D, xs, _, rfl, rfl, g1, g2, _, rfl, (hx.trans (SameX.of b13)).at_, ?_⟩
        rw [ft, ep, ← List.append_assoc]
        exact g3
    · obtain ⟨y7, rfl, hx, hd⟩ := hI
      rw [List.length_map, List.take_length, ← busy_S] at hd
      exact ⟨_, rfl, q D _ (sx_same hs3 hD hx) hD hd⟩
end
end DP
namespace DP
open PySem PySem.Spec PyProof.Rows L2
abbrev s__law_first_breaches : Stmt := topS 102
theorem sc__law_first_breaches : FnScope ["world", "case", "found", "r", "entry", "p", "sizes", "x"] ["world", "case"] (defScope s__law_first_breaches) := ⟨rfl, rfl, rfl, by decide +kernel, rfl, by decide +kernel, by decide +kernel⟩
def szL (W : WorldD) (l : List Trip) (p : Int) : List Int := (l.filter fun q => decide (q.2.2 = p)).map (sizeT W)
theorem sz_sent (W : WorldD) (p : Int) : ∀ l : List Trip, (szL W l p).sum = sentL W l p
  | [] => rfl
  | q :: l => by
    have ih := sz_sent W p l
    unfold szL sentL at ih ⊢
    rw [List.filter_cons, List.map_cons, List.sum_cons]
    by_cases h : q.2.2 = p
    · rw [if_pos (decide_eq_true h), if_pos h, List.map_cons, List.sum_cons, ih]
    · rw [if_neg (by rw [decide_eq_false h]; exact Bool.false_ne_true), if_neg h, ih, Int.zero_add]
theorem sz_S {W : WorldD} {c : CaseD} {n p : Nat} {y : PasD} (hy : W.pass[p]? = some y) : szL W (madeS W c y.sat n) (p : Int) = szL W (madeL W c n) (p : Int) := by
  unfold szL madeS
  rw [List.filter_filter]
  refine congrArg _ (List.filter_congr fun q hq => ?_)
  obtain ⟨_, z, y2, hz, hy2, h0, ho⟩ := mem_made hq
  by_cases h : q.2.2 = (p : Int)
  · rw [h, Int.toNat_natCast, hy] at hy2
    cases hy2
    unfold isOpt okP at ho
    obtain ⟨_, ho⟩ := Bool.and_eq_true_iff.mp ho
    obtain ⟨_, ho⟩ := Bool.and_eq_true_iff.mp ho
    obtain ⟨hs, _⟩ := Bool.and_eq_true_iff.mp ho
    have hs := of_decide_eq_true hs
    have : satOf W y.sat q.1 = true := by
      unfold satOf
      rw [hz]
      exact decide_eq_true (by (clear hy hq hz h0 h ho; omega))
    rw [this, Bool.and_true]
  · rw [decide_eq_false h, Bool.false_and]
theorem sz_take {W : WorldD} {l : List Trip} {j : Nat} {q : Trip} (h : l[j]? = some q) (p : Int) : szL W (l.take (j + 1)) p = szL W (l.take j) p ++ if decide (q.2.2 = p) = true then [sizeT W q] else [] := by
  unfold szL
  rw [List.take_add_one, h, Option.toList_some, List.filter_append, List.map_append, List.filter_cons, List.filter_nil]
  split <;> rfl
theorem sz_len (W : WorldD) (l : List Trip) (p : Int) : (szL W l p).length ≤ l.length := by
  unfold szL
  rw [List.length_map]
  exact List.length_filter_le _ _
section
variable {P : Program} {w : World} {K : PySem.W.Frag} {mg : Str → Option Value} {base : Heap}
def spLawFirst (K : PySem.W.Frag) : Sp := fun vs H Q _ => ∃ (wd : Addr) (v : V) (W : WorldD) (o : Bool) (c : CaseD), vs = [.ref wd, v] ∧ WorldOk W ∧ WdAt K H wd W ∧ CaseG W o c ∧ Dp K H v (casePy c) ∧ ∀ D H', Same H H' → H D = none → DL K brPy H' D (recB W c W.recs.length ++ pasB W c W.pass.length) → Q (.ref D) H'
set_option maxHeartbeats 8000000 in
theorem d_lfirst (B : Bt mg) (D_law_options : DefOk P w K mg base CX0 1 "_law_options" ["world", "number"] (spLawOptions K)) (D_law_made : DefOk P w K mg base CX0 2 "_law_made" ["world", "case", "s"] (spLawMade K)) (D_law_has_antenna : DefOk P w K mg base CX0 1 "_law_has_antenna" ["world", "case", "p"] (spLawAnt K)) (A : At K mg "_law_first_breaches" s__law_first_breaches ["world", "case"]) : DefOk P w K mg base CX0 3 "_law_first_breaches" ["world", "case"] (spLawFirst K) := by
  refine A.ok sc__law_first_breaches (fun vs H Q E h => ?_) (fun f cdv A outer s H vs Q E hr h => ?_)
  · obtain ⟨wd, v, W, o, c, rfl, _⟩ := h
    rfl
  obtain ⟨wd, v, W, o, c, rfl, wok, hwd, cg, hc, q⟩ := h
  have hc0 := hc
  obtain ⟨t, tm, tt, xm, xt, ev, ht, hm, htt, hxm, hxt, lm, lt⟩ := case_two hc
  subst ev
  obtain ⟨wa, wb, wc, we, xa, xb, xc, xd, g, a1, a2, b1, b2, c1, c2, e1, e2⟩ := hwd.ex
  have m2 := dpAll_len c2
  rw [List.length_map] at m2
  have m3 := dpAll_len e2
  rw [List.length_map] at m3
  have nM := cg.nM
  have nT := cg.nT
  have nR := wok.nRecs
  have nP := wok.nPass
  refine ⟨_, pss_cons (ps_set (i := 2) sc__law_first_breaches.nd rfl (Or.inl rfl) (pe_lst pa_nil))
  (pss_cons (ps_for PassesOwn.never rfl (pi_range1 (by rfl) B.range (pa_cons (pe_callB (call_len_seq) (by rfl) B.len (by decide +kernel) (pa_cons (pe_dget (hu_of hr) (pv 0) pe_str (fun _ _ => rfl)) pa_nil)) pa_nil)) (pg_name (i := 3) sc__law_first_breaches.nd rfl (Or.inl rfl))
      (pss_cons (ps_set (i := 4) sc__law_first_breaches.nd rfl (Or.inl rfl) (pe_ix ix_tup (pe_ix ix_tup (pv 1) pe_int (fun _ _ => rfl)) (pv 3) (fun _ _ => rfl)))
      (pss_one (ps_if (PW.pt (pw_and (pt_cmpR op_notN (pv 4) pe_non (nomark _)) (pw_and1 (pt_cmpR (op_neD (hu64 hr)) (pv 4) pe_str (nomark _)))))
          (pss_one (ps_if (pt_cmpR (op_notInD (hu65 hr)) (pv 4) (pe_f D_law_options (hr.mono (by omega)) pass0 (pa_cons (pv 0) (pa_cons (pv 3) pa_nil))) (by rfl))
              (pss_one (ps_expr (pe_bm PySem.F.plainAttrs_list PySem.F.slot_list_append PySem.F.type_list_append mt_append (pv 2) (pa_cons (pe_tup (pa_cons pe_str (pa_cons (pv 3) pa_nil))) pa_nil))))
              (pss_one (ps_if (pt_cmpR op_isN (pe_ix ix_tup (pe_ix ix_tup (pv 1) pe_int (fun _ _ => rfl)) (pe_ix ix_tup (pv 4) pe_int (fun _ _ => rfl)) (fun _ _ => rfl)) pe_non (nomark _))
                  (pss_one (ps_expr (pe_bm PySem.F.plainAttrs_list PySem.F.slot_list_append PySem.F.type_list_append mt_append (pv 2) (pa_cons (pe_tup (pa_cons pe_str (pa_cons (pv 3) pa_nil))) pa_nil))))
                  (pss_nil)))))
          (pss_nil)))))
  (pss_cons (ps_for PassesOwn.never rfl (pi_range1 (by rfl) B.range (pa_cons (pe_callB (call_len_seq) (by rfl) B.len (by decide +kernel) (pa_cons (pe_dget (hu_of hr) (pv 0) pe_str (fun _ _ => rfl)) pa_nil)) pa_nil)) (pg_name (i := 5) sc__law_first_breaches.nd rfl (Or.inr rfl))
      (pss_cons (ps_set (i := 4) sc__law_first_breaches.nd rfl (Or.inl rfl) (pe_ix ix_tup (pe_ix ix_tup (pv 1) pe_int (fun _ _ => rfl)) (pv 5) (fun _ _ => rfl)))
      (pss_one (ps_if (PW.pt (pw_and (pt_cmpR op_notN (pv 4) pe_non (nomark _)) (pw_and1 (pt_cmpR (op_neD (hu64 hr)) (pv 4) pe_str (nomark _)))))
          (pss_cons (ps_setLc (own := [("x", 7)]) (i := 6) rfl sc__law_first_breaches.nd rfl rfl (sw_true rfl rfl rfl (by decide +kernel)) (pi_list (pe_f D_law_made (hr.mono (by omega)) pass0 (pa_cons (pv 0) (pa_cons (pv 1) (pa_cons (pe_ix ix_tup (pe_ix ix_list (pe_dget (hu_of hr) (pv 0) pe_str (fun _ _ => rfl)) (pv 5) (fun _ _ => rfl)) pe_int (fun _ _ => rfl)) pa_nil))))) (blkOk_by (own := [("x", 7)]) (N := ["world", "case", "found", "r", "entry", "p", "sizes", "x"]) (sc := defScope s__law_first_breaches) (by decide +kernel)) (fun _ _ _ _ _ => pg_name (i := 7) sc__law_first_breaches.nd rfl (Or.inl rfl)) (fun _ _ _ _ _ => pts_one (pt_cmpR op_eq (pe_ix (ix_tupK (K := K) rfl) (pv 7) pe_int (fun _ _ => rfl)) (pv 5) (nomark _))) (fun _ _ _ _ _ => (pe_ix (ix_tupK (K := K) rfl) (pe_ix (ix_tupK (K := K) rfl) (pe_ix (ix_listK (K := K) rfl) (pe_dget (hu_of hr) (pv 0) pe_str (fun _ _ => rfl)) (pe_ix (ix_tupK (K := K) rfl) (pv 7) pe_int (fun _ _ => rfl)) (fun _ _ => rfl)) pe_int (fun _ _ => rfl)) pe_int (fun _ _ => rfl))))
          (pss_one (ps_if (pt_not (pt_val (pe_f D_law_has_antenna (hr.mono (by omega)) pass0 (pa_cons (pv 0) (pa_cons (pv 1) (pa_cons (pv 5) pa_nil))))))
              (pss_one (ps_expr (pe_bm PySem.F.plainAttrs_list PySem.F.slot_list_append PySem.F.type_list_append mt_append (pv 2) (pa_cons (pe_tup (pa_cons pe_str (pa_cons (pv 5) pa_nil))) pa_nil))))
              (pss_one (ps_if (pt_cmpR op_gt (pe_callB (cr_sum rfl) (by rfl) B.sum (by decide +kernel) (pa_cons (pv 6) pa_nil)) (pe_ix ix_tup (pe_ix ix_tup (pe_ix ix_list (pe_dget (hu_of hr) (pv 0) pe_str (fun _ _ => rfl)) (pv 5) (fun _ _ => rfl)) pe_int (fun _ _ => rfl)) pe_int (fun _ _ => rfl)) (nomark _))
                  (pss_one (ps_expr (pe_bm PySem.F.plainAttrs_list PySem.F.slot_list_append PySem.F.type_list_append mt_append (pv 2) (pa_cons (pe_tup (pa_cons pe_str (pa_cons (pv 5) pa_nil))) pa_nil))))
                  (pss_nil))))))
          (pss_nil)))))
  (pss_one (ps_ret (pv 2)))))
    , ?_⟩
  refine ⟨Nat.zero_le _, fun D hD => ?_⟩
  have sD := same_new hD (.lst [])
  refine ⟨_, rfl, wd, _, rfl, get_r (sD _ _ g), wc, xc, rfl, .inl (SqL.of (sD _ _ c1)), _, rfl, by (clear B D_law_options D_law_made D_law_has_antenna hr wok hwd cg q ht hm htt hxm hxt lm lt hc hc0 g a1 a2 b1 b2 c1 c2 e1 e2 m3 nM nT nP hD sD; omega), by (clear B D_law_options D_law_made D_law_has_antenna hr wok hwd cg q ht hm htt hxm hxt lm lt hc hc0 g a1 a2 b1 b2 c1 c2 e1 e2 m3 nM nT nP hD sD; omega), ?_⟩
  refine for_range (lo := 0) (n := (xc.length : Int).toNat) (fun i σ H' => ∃ y3 y4, σ = [some (.ref wd), some (.ref t), some (.ref D), y3, y4, none, none, none] ∧ Same H H' ∧ DL K brPy H' D (recB W c i)) ⟨none, none, rfl, sD, DL.nil⟩ (fun i σ H1 hi hI => ?_) (fun σ H1 hI => ?_)
  · obtain ⟨y3, y4, rfl, hs, hd⟩ := hI
    have hi' : i < W.recs.length := by (clear B D_law_options D_law_made D_law_has_antenna hr wok hwd cg q ht hm htt hxm hxt lm lt hc hc0 g a1 a2 b1 b2 c1 c2 e1 e2 m3 nM nT nR nP hD sD hs hd; omega)
    obtain ⟨z, hz⟩ : ∃ z, W.recs[i]? = some z := ⟨_, List.getElem?_eq_getElem hi'⟩
    obtain ⟨e, he⟩ : ∃ e, c.made[i]? = some e := ⟨_, List.getElem?_eq_getElem (by (clear B D_law_options D_law_made D_law_has_antenna hr wok hwd cg q ht hm htt hxm hxt lm lt hc hc0 g a1 a2 b1 b2 c1 c2 e1 e2 m2 m3 nT nR nP hD sD hi hs hd hz; omega))⟩
    have ok := wok.recs z (List.mem_of_getElem? hz)
    obtain ⟨y, hy, dy⟩ := dpAll_get2 hxm he
    have dy := dp_same hs dy
    have eok := cg.mOk e (List.mem_of_getElem? he)
    have ll : (recB W c i).length ≤ i := rg_len (recBAt_len W c) i
    have ms : recB W c (i + 1) = recB W c i ++ recBAt W c i := rg_succ _ i
    have ma : recBAt W c i = match W.recs[i]?, c.made[i]? with | some z, some (.at_ s p) => if optB W z s p = true then (match c.taken[p.toNat]? with | some .non => [Br.unt i] | _ => []) else [.opt i] | _, _ => [] := rfl
    rw [hz, he] at ma
    have skip : ∀ H2, Same H H2 → DL K brPy H2 D (recB W c i) → recBAt W c i = [] → ∃ y3 y4, ([some (.ref wd), some (.ref t), some (.ref D), some (.int (0 + (i : Int))), some y, none, none, none] : L2.St) = [some (.ref wd), some (.ref t), some (.ref D), y3, y4, none, none, none] ∧ Same H H2 ∧ DL K brPy H2 D (recB W c (i + 1)) := fun H2 s2 d2 e => by
      rw [ms, e, List.append_nil]
      exact ⟨_, _, rfl, s2, d2⟩
    refine ⟨_, rfl, t, _, 0, _, rfl, rfl, Same.tup hs ht, rfl, _, rfl, tm, xm, (i : Int), y, rfl, by rw [Int.zero_add], Same.tup hs hm, atI_nat hy, ?_⟩
    cases e with
    | non =>
      cases dy
      exact ⟨_, rfl, rfl, _, rfl, iteF' rfl (skip _ hs hd (by rw [ma]))⟩
    | opn =>
      cases dy
      exact ⟨_, rfl, rfl, _, rfl, iteT' rfl ⟨_, rfl, .str "open", .str "open", .str _, .str _, by decide +kernel, by decide +kernel, _, rfl, iteF' (by decide +kernel) (skip _ hs hd (by rw [ma]))⟩⟩
    | at_ st p =>
      obtain ⟨h0, h1, h2, h3⟩ := eok
      obtain ⟨k, rfl⟩ : ∃ k : Nat, p = (k : Int) := ⟨p.toNat, by (clear B D_law_options D_law_made D_law_has_antenna hr wok hwd cg q ht hm htt hxm hxt lm lt hc hc0 g a1 a2 b1 b2 c1 c2 e1 e2 m2 m3 nM nT nR nP hD sD hi hs hd hi' hz ok hy ll ms skip he dy ma h0 h1 h3; omega)⟩
      have dy0 := dy
      obtain ⟨te, xe, rfl, hte, hxe⟩ := dp_tup dy
      have exx := dp_ints (ns := [st, (k : Int)]) hxe
      subst exx
      obtain ⟨et, het⟩ : ∃ et, c.taken[k]? = some et := ⟨_, List.getElem?_eq_getElem (by (clear B D_law_options D_law_made D_law_has_antenna hr wok hwd cg q ht hm htt hxm hxt lm lt hc hc0 g a1 a2 b1 b2 c1 c2 e1 e2 m2 m3 nM nR nP hD sD hi hs hd hi' hz ok ll ms h0 h1 he ma h2 hy skip dy dy0 hte hxe; omega))⟩
      obtain ⟨yt, hyt, dyt⟩ := dpAll_get2 hxt het
      rw [show (match some z, some (EntM.at_ st (k : Int)) with | some z, some (.at_ s p) => if optB W z s p = true then (match c.taken[p.toNat]? with | some .non => [Br.unt i] | _ => []) else [.opt i] | _, _ => []) = if optB W z st (k : Int) = true then (match c.taken[(k : Int).toNat]? with | some .non => [Br.unt i] | _ => []) else [.opt i] from rfl, Int.toNat_natCast, het] at ma
      refine ⟨_, rfl, rfl, _, rfl, iteT' rfl ⟨_, rfl, entM (.at_ st (k : Int)), .str "open", dy0, .str _, lay_entM _, by decide +kernel, _, rfl, iteT' rfl ?_⟩⟩
      refine ⟨_, rfl, _, rfl, _, rfl, wd, W, i, z, by rw [Int.zero_add]; rfl, wok, hwd.same hs, hz, fun l ls H3 s3 hl0 hl3 hx => ?_⟩
      have hsA := hs.trans s3
      have hd3 := hd.same s3
      obtain ⟨xs0, hx0, _⟩ := id hd3
      refine ⟨spanPy (st, (k : Int)), (optsW W z).map spanPy, dp_same s3 dy0, .lst (SqL.of hl3) (spans_dp hx), lay_entM (.at_ st (k : Int)), shp_spans _, _, rfl, ?_⟩
      rw [any_opt ok h2 h3]
      cases gb : optB W z st (k : Int) with
      | false =>
        refine iteT' rfl ⟨_, rfl, .inl ⟨rfl, _, SqL.of hx0⟩, _, rfl, sz2_, fun a1 b1 => ?_⟩
        have sB := same_new b1 (.tup [.str "option", .int (0 + (i : Nat))])
        have tv : Dp K (upd H3 a1 (.tup [.str "option", .int (0 + (i : Nat))])) (.ref a1) (brPy (.opt i)) := .tup (SqT.of (by rw [upd_same, Int.zero_add])) (.cons (.str _) (.cons (.int _) .nil))
        obtain ⟨xs, g1, g2, g3⟩ := (hd3.same sB).push noL_br tv (by (clear B D_law_options D_law_made D_law_has_antenna hr wok hwd cg q ht hm htt hxm hxt lm lt hc hc0 g a2 b2 c1 c2 e1 e2 m3 nM nT nP hD sD hi hs hd hz ok ms h0 h1 he h2 h3 hy skip dy dy0 hte hxe ma het hyt dyt s3 hl0 hl3 hx hsA hd3 hx0 gb b1 sB tv; omega))
        refine ⟨D, xs, _, rfl, rfl, g1, g2, _, _, rfl, same_at hD (hsA.trans sB) _, ?_⟩
        rw [ms, ma, gb, if_neg Bool.false_ne_true]
        exact g3
      | true =>
        rw [gb, if_pos rfl] at ma
        refine iteF' rfl ⟨_, rfl, t, _, 1, _, rfl, rfl, Same.tup hsA ht, rfl, _, rfl, te, _, 1, _, rfl, rfl, Same.tup s3 hte, rfl, tt, xt, (k : Int), yt, rfl, rfl, Same.tup hsA htt, atI_nat hyt, rfl, _, rfl, ?_⟩
        have dyt := dp_same hsA dyt
        cases et with
        | non =>
          cases dyt
          refine iteT' rfl ⟨_, rfl, .inl ⟨rfl, _, SqL.of hx0⟩, _, rfl, sz2_, fun a1 b1 => ?_⟩
          have sB := same_new b1 (.tup [.str "untaken", .int (0 + (i : Nat))])
          have tv : Dp K (upd H3 a1 (.tup [.str "untaken", .int (0 + (i : Nat))])) (.ref a1) (brPy (.unt i)) := .tup (SqT.of (by rw [upd_same, Int.zero_add])) (.cons (.str _) (.cons (.int _) .nil))
          obtain ⟨xs, g1, g2, g3⟩ := (hd3.same sB).push noL_br tv (by (clear B D_law_options D_law_made D_law_has_antenna hr wok hwd cg q ht hm htt hxm hxt lm lt hc hc0 g a2 b2 c1 c2 e1 e2 m3 nM nT nP hD sD hi hs hd hz ok ms h0 h1 he h2 h3 hy skip dy dy0 hte hxe s3 hl0 hl3 hx hsA hd3 hx0 gb ma het hyt dyt b1 sB tv; omega))
          refine ⟨D, xs, _, rfl, rfl, g1, g2, _, _, rfl, same_at hD (hsA.trans sB) _, ?_⟩
          rw [ms, ma]
          exact g3
        | opn =>
          cases dyt
          exact iteF' rfl (skip _ hsA hd3 (by rw [ma]))
        | ant n =>
          cases dyt
          exact iteF' rfl (skip _ hsA hd3 (by rw [ma]))
  obtain ⟨y3, y4, rfl, hs, hd⟩ := hI
  rw [show (xc.length : Int).toNat = W.recs.length by (clear B D_law_options D_law_made D_law_has_antenna hr wok hwd cg q ht hm htt hxm hxt lm lt hc hc0 g a1 a2 b1 b2 c1 c2 e1 e2 m3 nM nT nP hD sD hs hd; omega)] at hd
  generalize hb0 : recB W c W.recs.length = b0 at hd q
  have lb0 : b0.length ≤ 10 := by
    have : (recB W c W.recs.length).length ≤ W.recs.length := rg_len (recBAt_len W c) _
    rw [← hb0]
    (clear B D_law_options D_law_made D_law_has_antenna hr wok hwd cg ht hm htt hxm hxt lm lt hc hc0 g a1 a2 b1 b2 c1 c2 e1 e2 m3 nM nT nP hD sD hs hb0 hd q; omega)
  refine ⟨_, rfl, wd, _, rfl, get_p (hs _ _ g), we, xd, rfl, .inl (SqL.of (hs _ _ e1)), _, rfl, by (clear B D_law_options D_law_made D_law_has_antenna hr wok hwd cg ht hm htt hxm hxt lm lt hc hc0 g a1 a2 b1 b2 c1 c2 e1 e2 m2 nM nT nR hD sD hs hb0 hd q lb0; omega), by (clear B D_law_options D_law_made D_law_has_antenna hr wok hwd cg ht hm htt hxm hxt lm lt hc hc0 g a1 a2 b1 b2 c1 c2 e1 e2 m2 nM nT nR hD sD hs hb0 hd q lb0; omega), ?_⟩
  refine for_range (lo := 0) (n := (xd.length : Int).toNat) (fun i σ H' => ∃ y4 y5 y6, σ = [some (.ref wd), some (.ref t), some (.ref D), y3, y4, y5, y6, none] ∧ Same H H' ∧ DL K brPy H' D (b0 ++ pasB W c i)) ⟨y4, none, none, rfl, hs, by rw [show pasB W c 0 = [] from rfl, List.append_nil]; exact hd⟩ (fun i σ H2 hi hI => ?_) (fun σ H2 hI => ?_)
  · obtain ⟨y4, y5, y6, rfl, hs, hd⟩ := hI
    have hi' : i < W.pass.length := by (clear B D_law_options D_law_made D_law_has_antenna hr wok hwd cg ht hm htt hxm hxt lm lt hc hc0 g a1 a2 b1 b2 c1 c2 e1 e2 m2 nM nT nR hD sD hb0 q lb0 hs hd; omega)
    have z0 : (0 + (i : Int)) = (i : Int) := Int.zero_add _
    obtain ⟨z, hz⟩ : ∃ z, W.pass[i]? = some z := ⟨_, List.getElem?_eq_getElem hi'⟩
    obtain ⟨e, he⟩ : ∃ e, c.taken[i]? = some e := ⟨_, List.getElem?_eq_getElem (by (clear B D_law_options D_law_made D_law_has_antenna hr wok hwd cg ht hm htt hxm hxt lm lt hc hc0 g a1 a2 b1 b2 c1 c2 e1 e2 m2 m3 nM nR nP hD sD hb0 q lb0 hi hs hd z0 hz; omega))⟩
    obtain ⟨y, hy, dy⟩ := dpAll_get2 hxt he
    have dy := dp_same hs dy
    obtain ⟨vp, evp, dvp⟩ := dpAll_get2 e2 hz
    obtain ⟨tp, tp1, tp2, rfl, w1, w2, w3⟩ := pas_open dvp
    have ll : (pasB W c i).length ≤ i := rg_len (pasBAt_len W c) i
    have ms : pasB W c (i + 1) = pasB W c i ++ pasBAt W c i := rg_succ _ i
    have ma : pasBAt W c i = match W.pass[i]?, c.taken[i]? with | some z, some (.ant _) => if antB W c i = true then (if z.room < sentL W (madeL W c W.recs.length) (i : Int) then [Br.room i] else []) else [.ant i] | _, _ => [] := rfl
    rw [hz, he] at ma
    have skip : ∀ H3 y4 y5 y6, Same H H3 → DL K brPy H3 D (b0 ++ pasB W c i) → pasBAt W c i = [] → ∃ z4 z5 z6, ([some (.ref wd), some (.ref t), some (.ref D), y3, y4, y5, y6, none] : L2.St) = [some (.ref wd), some (.ref t), some (.ref D), y3, z4, z5, z6, none] ∧ Same H H3 ∧ DL K brPy H3 D (b0 ++ pasB W c (i + 1)) := fun H3 y4 y5 y6 s2 d2 e => by
      rw [ms, e, List.append_nil]
      exact ⟨_, _, _, rfl, s2, d2⟩
    refine ⟨_, rfl, t, _, 1, _, rfl, rfl, Same.tup hs ht, rfl, _, rfl, tt, xt, (i : Int), y, rfl, by rw [Int.zero_add], Same.tup hs htt, atI_nat hy, ?_⟩
    cases e with
    | non =>
      cases dy
      exact ⟨_, rfl, rfl, _, rfl, iteF' rfl (skip _ _ _ _ hs hd (by rw [ma]))⟩
    | opn =>
      cases dy
      exact ⟨_, rfl, rfl, _, rfl, iteT' rfl ⟨_, rfl, .str "open", .str "open", .str _, .str _, by decide +kernel, by decide +kernel, _, rfl, iteF' (by decide +kernel) (skip _ _ _ _ hs hd (by rw [ma]))⟩⟩
    | ant n =>
      have dy0 := dy
      cases dy
      dsimp only at ma
      refine ⟨_, rfl, rfl, _, rfl, iteT' rfl ⟨_, rfl, .int n, .str "open", .int _, .str _, rfl, by decide +kernel, _, rfl, iteT' rfl ?_⟩⟩
      refine ⟨_, rfl, _, rfl, _, rfl, wd, _, rfl, get_p (hs _ _ g), _, rfl, we, xd, (i : Int), _, rfl, by rw [Int.zero_add], SqL.of (hs _ _ e1), atI_nat evp, tp, _, 1, _, rfl, rfl, Same.tup hs w1, rfl, wd, .ref t, W, o, c, z.sat, rfl, wok, hwd.same hs, cg, dp_same hs hc0, fun M H3 s3 nM0 hM => ?_⟩
      obtain ⟨xmm, hM1, hM2⟩ := hM
      have lM := dpAll_len hM2
      rw [List.length_map] at lM
      have lms : (madeS W c z.sat W.recs.length).length ≤ W.recs.length := Nat.le_trans (List.length_filter_le _ _) (madeL_len W c _)
      have hsA := hs.trans s3
      refine ⟨M, rfl, ⟨_, SqL.of hM1⟩, fun S hS => lc_it (walk_list (K := K) (a := M) (xs := xmm)) (fun j H' => Same H3 H' ∧ H' S = some (.lst ((szL W ((madeS W c z.sat W.recs.length).take j) (i : Int)).map V.int))) ⟨same_new hS _, upd_same⟩ (fun j H' _ hI => SqL.of (hI.1 _ _ hM1)) (fun j x H4 H5 hj hI hy2 => ?_) (fun H4 hI => ?_)⟩
      · obtain ⟨s4, hSS⟩ := hI
        obtain ⟨rfl, hx⟩ := hy2
        obtain ⟨q1, hq1, dq1⟩ := dpAll_get hM2 hx
        obtain ⟨r0, rz, ry, hrz, es, hy3, p0, ho, er⟩ := mem_madeS (List.mem_of_getElem? hq1)
        obtain ⟨qt, rfl, hqt⟩ := dp_trip dq1
        obtain ⟨rx, erx, drx⟩ := dpAll_get2 c2 hrz
        obtain ⟨rt', rt1, rt2, rfl, u1, u2, u3⟩ := rec_open drx
        have hsB := hsA.trans s4
        have ez : sizeT W q1 = rz.size := by
          unfold sizeT
          rw [hrz]
          rfl
        have st := sz_take (W := W) hq1 (i : Int)
        have sl := sz_len W ((madeS W c z.sat W.recs.length).take j) (i : Int)
        rw [List.length_take] at sl
        refine ⟨rfl, _, rfl, qt, _, 2, _, rfl, rfl, Same.tup s4 hqt, rfl, _, rfl, rfl, _, rfl, ite2 (fun k1 => ?_) (fun k1 => ?_)⟩
        · have k2 : q1.2.2 = (i : Int) := by
            have := V.int.inj (of_decide_eq_true k1)
            (clear B D_law_options D_law_made D_law_has_antenna hr wok hwd cg ht hm htt hxm hxt lm lt hc hc0 g a1 a2 b1 b2 c1 c2 e1 e2 m2 m3 nM nT nR nP hD sD hb0 q lb0 hi hs hd hi' z0 hz evp dvp w1 w2 w3 ll ms skip he ma hy dy dy0 s3 nM0 hM1 hM2 lM lms hsA hS hj s4 hSS hq1 r0 hrz es hy3 p0 ho er hqt hx dq1 erx drx u1 u2 u3 hsB ez st sl k1; omega)
          refine ⟨_, rfl, wd, _, rfl, get_r (hsB _ _ g), _, rfl, qt, _, 0, _, rfl, rfl, Same.tup s4 hqt, rfl, wc, xc, (q1.1 : Int), _, rfl, rfl, SqL.of (hsB _ _ c1), atI_nat erx, rt', _, 2, _, rfl, rfl, Same.tup hsB u1, rfl, rt1, _, 3, _, rfl, rfl, Same.tup hsB u2, rfl, _, hSS, by rw [List.length_map]; exact small1000 (by (clear B D_law_options D_law_made D_law_has_antenna hr wok hwd cg ht hm htt hxm hxt lm lt hc hc0 g a1 a2 b1 b2 c1 c2 e1 e2 m3 nM nT nP hD sD hb0 q lb0 hi hs hd hi' z0 hz evp dvp w1 w2 w3 ll ms skip he ma hy dy dy0 s3 nM0 hM1 hM2 hsA hS s4 hSS hq1 r0 hrz es hy3 p0 ho er hqt hx dq1 erx drx u1 u2 u3 hsB ez st k1 k2; omega)), same_at hS s4 _, ?_⟩
          rw [upd_same, st, if_pos (decide_eq_true k2), List.map_append, ez]
          rfl
        · have k2 : ¬ q1.2.2 = (i : Int) := fun e => k1 (decide_eq_true (by rw [e, Int.zero_add]))
          refine ⟨s4, ?_⟩
          rw [st, if_neg (by rw [decide_eq_false k2]; exact Bool.false_ne_true), List.append_nil]
          exact hSS
      obtain ⟨s4, hSS⟩ := hI
      rw [lM, List.take_length, sz_S hz] at hSS
      have hsB := hsA.trans s4
      have hdB := (hd.same s3).same s4
      obtain ⟨xs0, hx0, _⟩ := id hdB
      refine ⟨_, rfl, _, rfl, _, rfl, wd, .ref t, W, o, c, i, by rw [Int.zero_add]; rfl, wok, hwd.same hsB, cg, dp_same hsB hc0, hi', _, rfl, ?_⟩
      cases ga : antB W c i with
      | false =>
        refine iteT' rfl ⟨_, rfl, .inl ⟨rfl, _, SqL.of hx0⟩, _, rfl, sz2_, fun a1 b1 => ?_⟩
        have sB := same_new b1 (.tup [.str "antenna", .int (0 + (i : Nat))])
        have tv : Dp K (upd H4 a1 (.tup [.str "antenna", .int (0 + (i : Nat))])) (.ref a1) (brPy (.ant i)) := .tup (SqT.of (by rw [upd_same, Int.zero_add])) (.cons (.str _) (.cons (.int _) .nil))
        obtain ⟨xs, g1, g2, g3⟩ := (hdB.same sB).push noL_br tv (by rw [List.length_append]; (clear B D_law_options D_law_made D_law_has_antenna hr wok hwd cg ht hm htt hxm hxt lm lt hc hc0 g a2 b2 c1 c2 e1 e2 m2 nM nT nR hD sD hb0 q hi hs hd z0 hz evp dvp w1 w2 w3 ms skip he ma hy dy dy0 s3 nM0 hM1 hM2 lM lms hsA hS s4 hSS hsB hdB hx0 ga b1 sB tv; omega))
        refine ⟨D, xs, _, rfl, rfl, g1, g2, _, _, _, rfl, same_at hD (hsB.trans sB) _, ?_⟩
        rw [ms, ma, ga, if_neg Bool.false_ne_true, ← List.append_assoc]
        exact g3
      | true =>
        rw [ga, if_pos rfl] at ma
        refine iteF' rfl ⟨_, rfl, S, _, rfl, SqL.of hSS, _, rfl, wd, _, rfl, get_p (hsB _ _ g), _, rfl, we, xd, (i : Int), _, rfl, by rw [Int.zero_add], SqL.of (hsB _ _ e1), atI_nat evp, tp, _, 4, _, rfl, rfl, Same.tup hsB w1, rfl, tp2, _, 0, _, rfl, rfl, Same.tup hsB w3, rfl, _, _, rfl, rfl, _, rfl, ite2 (fun k1 => ?_) (fun k1 => ?_)⟩
        · have k1 : z.room < (szL W (madeL W c W.recs.length) (i : Int)).sum := of_decide_eq_true k1
          rw [sz_sent] at k1
          refine ⟨_, rfl, .inl ⟨rfl, _, SqL.of hx0⟩, _, rfl, sz2_, fun a1 b1 => ?_⟩
          have sB := same_new b1 (.tup [.str "room", .int (0 + (i : Nat))])
          have tv : Dp K (upd H4 a1 (.tup [.str "room", .int (0 + (i : Nat))])) (.ref a1) (brPy (.room i)) := .tup (SqT.of (by rw [upd_same, Int.zero_add])) (.cons (.str _) (.cons (.int _) .nil))
          obtain ⟨xs, g1, g2, g3⟩ := (hdB.same sB).push noL_br tv (by rw [List.length_append]; (clear B D_law_options D_law_made D_law_has_antenna hr wok hwd cg ht hm htt hxm hxt lm lt hc hc0 g a2 b2 c1 c2 e1 e2 m2 nM nT nR hD sD hb0 q hi hs hd z0 hz evp dvp w1 w2 w3 ms skip he ma hy dy dy0 s3 nM0 hM1 hM2 lM lms hsA hS s4 hSS hsB hdB hx0 ga k1 b1 sB tv; omega))
          refine ⟨D, xs, _, rfl, rfl, g1, g2, _, _, _, rfl, same_at hD (hsB.trans sB) _, ?_⟩
          rw [ms, ma, if_pos k1, ← List.append_assoc]
          exact g3
        · have k1 : ¬ z.room < (szL W (madeL W c W.recs.length) (i : Int)).sum := fun h => k1 (decide_eq_true h)
          rw [sz_sent] at k1
          exact skip _ _ _ _ hsB hdB (by rw [ma, if_neg k1])
  · obtain ⟨y4, y5, y6, rfl, hs, hd⟩ := hI
    rw [show (xd.length : Int).toNat = W.pass.length by (clear B D_law_options D_law_made D_law_has_antenna hr wok hwd cg ht hm htt hxm hxt lm lt hc hc0 g a1 a2 b1 b2 c1 c2 e1 e2 m2 nM nT nR hD sD hb0 q lb0 hs hd; omega)] at hd
    exact ⟨_, rfl, q D _ hs hD hd⟩
end
end DP
namespace DP
open PySem PySem.Spec PyProof.Rows L2
abbrev s__law_breaches : Stmt := topS 103
theorem sc__law_breaches : FnScope ["world", "case", "found", "count", "p", "q", "station", "s", "things", "k", "j", "numbers", "used", "over", "levels", "under", "m"] ["world", "case"] (defScope s__law_breaches) := ⟨rfl, rfl, rfl, by decide +kernel, rfl, by decide +kernel, by decide +kernel⟩
def antG (W : WorldD) (c : CaseD) (p q : Nat) : List Br := if (antB W c p && antB W c q) = true then turnG W c p q else []
theorem turn_R (W : WorldD) (c : CaseD) : turnB W c = pairsI (antG W c) (List.range W.pass.length) W.pass.length := by
  have h := pairsI_all (antG W c) (List.range W.pass.length)
  rw [List.length_range] at h
  unfold turnB
  rw [pairsI_all, h]
  exact pairsL_filter (g := turnG W c) (p := antB W c) (List.range W.pass.length)
theorem antG_len (W : WorldD) (c : CaseD) (p q : Nat) : (antG W c p q).length ≤ 1 := by
  unfold antG
  split
  · exact turnG_len W c p q
  · exact Nat.zero_le _
theorem busy_len2 (W : WorldD) (c : CaseD) (s : Nat) : (busyL W c s).length ≤ W.recs.length + W.pass.length := by
  have a := flat_len1 (recThg_len W s) (madeL W c W.recs.length)
  have b := flat_len1 (pasThg_len W s) (takL W c W.pass.length)
  have d := madeL_len W c W.recs.length
  have e := takL_len W c W.pass.length
  unfold busyL
  rw [List.length_append]
  omega
theorem pI_le {α β : Type} {g : α → α → List β} (h : ∀ a b, (g a b).length ≤ 1) {l : List α} {i m : Nat} (hi : i ≤ l.length) (hl : l.length ≤ m) : (pairsI g l i).length ≤ m * m :=
  Nat.le_trans (pairsI_len h l i) (Nat.mul_le_mul (Nat.le_trans hi hl) hl)
theorem in_le {α β : Type} {g : α → α → List β} (h : ∀ a b, (g a b).length ≤ 1) {l : List α} {i j m : Nat} (hl : l.length ≤ m) (a : α) : (((l.drop i).take j).flatMap (g a)).length ≤ m := by
  have := flat_len1 (h a) ((l.drop i).take j)
  rw [List.length_take, List.length_drop] at this
  omega
theorem DL.keep {α : Type} {K : PySem.W.Frag} {f : α → PyData} {H : Hp} {D D' : Addr} {l : List α} {ys : List V} {o : HO} (nf : ∀ a, noL (f a)) (h : DL K f H D l) (e : H D' = some (.lst ys)) (n : D ≠ D') : DL K f (upd H D' o) D l := by
  obtain ⟨xs, h1, h2⟩ := h
  exact ⟨xs, by rw [upd_ne n]; exact h1, dpTs_up (noLs_map nf l) e h2⟩
theorem at0 {α : Type} {v : α} {xs : List α} : atI (v :: xs) 0 = some v := atI_nat (j := 0) rfl
section
variable {P : Program} {w : World} {K : PySem.W.Frag} {mg : Str → Option Value} {base : Heap}
def spLawBr (K : PySem.W.Frag) : Sp := fun vs H Q _ => ∃ (wd : Addr) (v : V) (W : WorldD) (o : Bool) (c : CaseD), vs = [.ref wd, v] ∧ WG W ∧ WdAt K H wd W ∧ CaseG W o c ∧ Dp K H v (casePy c) ∧ ∀ D H', Same H H' → H D = none → DL K brPy H' D (caseB W c) → Q (.ref D) H'
set_option maxHeartbeats 16000000 in
theorem d_lbr (B : Bt mg) (D_law_first_breaches : DefOk P w K mg base CX0 3 "_law_first_breaches" ["world", "case"] (spLawFirst K)) (D_law_has_antenna : DefOk P w K mg base CX0 1 "_law_has_antenna" ["world", "case", "p"] (spLawAnt K)) (D_law_meet : DefOk P w K mg base CX0 1 "_law_meet" ["one", "other", "more"] (spLawMeet K)) (D_law_things : DefOk P w K mg base CX0 3 "_law_things" ["world", "case", "s"] (spLawThings K))
    (D_law_used : DefOk P w K mg base CX0 3 "_law_used" ["world", "case", "s"] (spLawUsed K)) (D_law_levels : DefOk P w K mg base CX0 4 "_law_levels" ["world", "case", "s"] (spLawLevels K)) (A : At K mg "_law_breaches" s__law_breaches ["world", "case"]) : DefOk P w K mg base CX0 5 "_law_breaches" ["world", "case"] (spLawBr K) := by
  refine A.ok sc__law_breaches (fun vs H Q E h => ?_) (fun f cdv A outer s H vs Q E hr h => ?_)
  · obtain ⟨wd, v, W, o, c, rfl, _⟩ := h
    rfl
  obtain ⟨wd, v, W, o, c, rfl, wg, hwd, cg, hc, q⟩ := h
  have wok := wg.ok
  have hc0 := hc
  obtain ⟨t, tm, tt, xm, xt, ev, ht, hm, htt, hxm, hxt, lm, lt⟩ := case_two hc
  subst ev
  obtain ⟨wa, wb, wc, we, xa, xb, xc, xd, g, a1, a2, b1, b2, c1, c2, e1, e2⟩ := hwd.ex
  have m1 := dpAll_len a2
  rw [List.length_map] at m1
  have m3 := dpAll_len e2
  rw [List.length_map] at m3
  have nM := cg.nM
  have nT := cg.nT
  have nR := wg.nR
  have nP := wg.nP
  have nS := wok.nSats
  have hh := wok.horizon
  have z0 : ∀ i : Nat, (0 + (i : Int)) = (i : Int) := fun i => Int.zero_add _
  refine ⟨_, pss_cons (ps_set (i := 2) sc__law_breaches.nd rfl (Or.inl rfl) (pe_f D_law_first_breaches (hr.mono (by omega)) pass0 (pa_cons (pv 0) (pa_cons (pv 1) pa_nil))))
  (pss_cons (ps_set (i := 3) sc__law_breaches.nd rfl (Or.inl rfl) (pe_callB (call_len_seq) (by rfl) B.len (by decide +kernel) (pa_cons (pe_dget (hu_of hr) (pv 0) pe_str (fun _ _ => rfl)) pa_nil)))
  (pss_cons (ps_for PassesOwn.never rfl (pi_range1 (by rfl) B.range (pa_cons (pv 3) pa_nil)) (pg_name (i := 4) sc__law_breaches.nd rfl (Or.inl rfl))
      (pss_one (ps_for PassesOwn.never rfl (pi_range2 (by rfl) B.range (pa_cons (pe_op op_add (pv 4) pe_int) (pa_cons (pv 3) pa_nil))) (pg_name (i := 5) sc__law_breaches.nd rfl (Or.inl rfl))
          (pss_one (ps_if (PW.pt (pw_and (pt_val (pe_f D_law_has_antenna (hr.mono (by omega)) pass0 (pa_cons (pv 0) (pa_cons (pv 1) (pa_cons (pv 4) pa_nil))))) (pw_and (pt_val (pe_f D_law_has_antenna (hr.mono (by (clear B D_law_first_breaches D_law_has_antenna D_law_meet D_law_things D_law_used D_law_levels hr wg hwd cg q wok ht hm htt hxm hxt lm lt hc hc0 g a1 a2 b1 b2 c1 c2 e1 e2 m1 m3 nM nT nR nP nS hh z0; omega))) pass0 (pa_cons (pv 0) (pa_cons (pv 1) (pa_cons (pv 5) pa_nil))))) (pw_and1 (pt_cmpR op_eq (pe_ix ix_tup (pe_ix ix_tup (pv 1) pe_int (fun _ _ => rfl)) (pv 4) (fun _ _ => rfl)) (pe_ix ix_tup (pe_ix ix_tup (pv 1) pe_int (fun _ _ => rfl)) (pv 5) (fun _ _ => rfl)) (nomark _))))))
              (pss_cons (ps_set (i := 6) sc__law_breaches.nd rfl (Or.inl rfl) (pe_ix ix_tup (pe_ix ix_list (pe_dget (hu_of hr) (pv 0) pe_str (fun _ _ => rfl)) (pv 4) (fun _ _ => rfl)) pe_int (fun _ _ => rfl)))
              (pss_one (ps_if (pt_cmpR op_eq (pe_ix ix_tup (pe_ix ix_list (pe_dget (hu_of hr) (pv 0) pe_str (fun _ _ => rfl)) (pv 5) (fun _ _ => rfl)) pe_int (fun _ _ => rfl)) (pv 6) (nomark _))
                  (pss_one (ps_if (pt_val (pe_f D_law_meet (hr.mono (by (clear B D_law_first_breaches D_law_has_antenna D_law_meet D_law_things D_law_used D_law_levels hr wg hwd cg q wok ht hm htt hxm hxt lm lt hc hc0 g a1 a2 b1 b2 c1 c2 e1 e2 m1 m3 nM nT nR nP nS hh z0; omega))) pass0 (pa_cons (pe_ix ix_tup (pe_ix ix_list (pe_dget (hu_of hr) (pv 0) pe_str (fun _ _ => rfl)) (pv 4) (fun _ _ => rfl)) pe_int (fun _ _ => rfl)) (pa_cons (pe_ix ix_tup (pe_ix ix_list (pe_dget (hu_of hr) (pv 0) pe_str (fun _ _ => rfl)) (pv 5) (fun _ _ => rfl)) pe_int (fun _ _ => rfl)) (pa_cons (pe_ix ix_tup (pe_ix ix_list (pe_dget (hu_of hr) (pv 0) pe_str (fun _ _ => rfl)) (pv 6) (fun _ _ => rfl)) pe_int (fun _ _ => rfl)) pa_nil)))))
                      (pss_one (ps_expr (pe_bm PySem.F.plainAttrs_list PySem.F.slot_list_append PySem.F.type_list_append mt_append (pv 2) (pa_cons (pe_tup (pa_cons pe_str (pa_cons (pv 4) (pa_cons (pv 5) pa_nil)))) pa_nil))))
                      (pss_nil)))
                  (pss_nil))))
              (pss_nil))))))
  (pss_cons (ps_for PassesOwn.never rfl (pi_range1 (by rfl) B.range (pa_cons (pe_callB (call_len_seq) (by rfl) B.len (by decide +kernel) (pa_cons (pe_dget (hu_of hr) (pv 0) pe_str (fun _ _ => rfl)) pa_nil)) pa_nil)) (pg_name (i := 7) sc__law_breaches.nd rfl (Or.inl rfl))
      (pss_cons (ps_set (i := 8) sc__law_breaches.nd rfl (Or.inl rfl) (pe_f D_law_things (hr.mono (by omega)) pass0 (pa_cons (pv 0) (pa_cons (pv 1) (pa_cons (pv 7) pa_nil)))))
      (pss_one (ps_for PassesOwn.never rfl (pi_range1 (by rfl) B.range (pa_cons (pe_callB (call_len_seq) (by rfl) B.len (by decide +kernel) (pa_cons (pv 8) pa_nil)) pa_nil)) (pg_name (i := 9) sc__law_breaches.nd rfl (Or.inl rfl))
          (pss_one (ps_for PassesOwn.never rfl (pi_range2 (by rfl) B.range (pa_cons (pe_op op_add (pv 9) pe_int) (pa_cons (pe_callB (call_len_seq) (by rfl) B.len (by decide +kernel) (pa_cons (pv 8) pa_nil)) pa_nil))) (pg_name (i := 10) sc__law_breaches.nd rfl (Or.inl rfl))
              (pss_one (ps_if (pt_val (pe_f D_law_meet (hr.mono (by (clear B D_law_first_breaches D_law_has_antenna D_law_meet D_law_things D_law_used D_law_levels hr wg hwd cg q wok ht hm htt hxm hxt lm lt hc hc0 g a1 a2 b1 b2 c1 c2 e1 e2 m1 m3 nM nT nR nP nS hh z0; omega))) pass0 (pa_cons (pe_ix ix_tup (pe_ix ix_list (pv 8) (pv 9) (fun _ _ => rfl)) pe_int (fun _ _ => rfl)) (pa_cons (pe_ix ix_tup (pe_ix ix_list (pv 8) (pv 10) (fun _ _ => rfl)) pe_int (fun _ _ => rfl)) (pa_cons (pe_ix ix_tup (pe_ix ix_tup (pe_ix ix_list (pe_dget (hu_of hr) (pv 0) pe_str (fun _ _ => rfl)) (pv 7) (fun _ _ => rfl)) pe_int (fun _ _ => rfl)) pe_int (fun _ _ => rfl)) pa_nil)))))
                  (pss_one (ps_expr (pe_bm PySem.F.plainAttrs_list PySem.F.slot_list_append PySem.F.type_list_append mt_append (pv 2) (pa_cons (pe_tup (pa_cons pe_str (pa_cons (pe_ix ix_tup (pe_ix ix_list (pv 8) (pv 9) (fun _ _ => rfl)) pe_int (fun _ _ => rfl)) (pa_cons (pe_ix ix_tup (pe_ix ix_list (pv 8) (pv 10) (fun _ _ => rfl)) pe_int (fun _ _ => rfl)) pa_nil)))) pa_nil))))
                  (pss_nil)))))))))
  (pss_cons (ps_for PassesOwn.never rfl (pi_range1 (by rfl) B.range (pa_cons (pe_callB (call_len_seq) (by rfl) B.len (by decide +kernel) (pa_cons (pe_dget (hu_of hr) (pv 0) pe_str (fun _ _ => rfl)) pa_nil)) pa_nil)) (pg_name (i := 7) sc__law_breaches.nd rfl (Or.inl rfl))
      (pss_cons (ps_set (i := 11) sc__law_breaches.nd rfl (Or.inr rfl) (pe_ix ix_tup (pe_ix ix_list (pe_dget (hu_of hr) (pv 0) pe_str (fun _ _ => rfl)) (pv 7) (fun _ _ => rfl)) pe_int (fun _ _ => rfl)))
      (pss_cons (ps_set (i := 12) sc__law_breaches.nd rfl (Or.inr rfl) (pe_f D_law_used (hr.mono (by omega)) pass0 (pa_cons (pv 0) (pa_cons (pv 1) (pa_cons (pv 7) pa_nil)))))
      (pss_cons (ps_setLc (own := [("m", 16)]) (i := 13) rfl sc__law_breaches.nd rfl rfl (sw_true rfl rfl rfl (by decide +kernel)) (pi_range1 (by rfl) B.range (pa_cons (pe_dget (hu_of hr) (pv 0) pe_str (fun _ _ => rfl)) pa_nil)) (blkOk_by (own := [("m", 16)]) (N := ["world", "case", "found", "count", "p", "q", "station", "s", "things", "k", "j", "numbers", "used", "over", "levels", "under", "m"]) (sc := defScope s__law_breaches) (by decide +kernel)) (fun _ _ _ _ _ => pg_name (i := 16) sc__law_breaches.nd rfl (Or.inl rfl)) (fun _ _ _ _ _ => pts_one (pt_cmpR op_gt (pe_ix (ix_tupK (K := K) rfl) (pv 12) (pv 16) (fun _ _ => rfl)) (pe_ix (ix_tupK (K := K) rfl) (pv 11) pe_int (fun _ _ => rfl)) (nomark _))) (fun _ _ _ _ _ => (pv 16)))
      (C8.pss_cut (ps_if (pt_truth (pv 13) (by intro _; rfl))
          (pss_one (ps_expr (pe_bm PySem.F.plainAttrs_list PySem.F.slot_list_append PySem.F.type_list_append mt_append (pv 2) (pa_cons (pe_tup (pa_cons pe_str (pa_cons (pv 7) (pa_cons (pe_ix ix_list (pv 13) pe_int (fun _ _ => rfl)) pa_nil)))) pa_nil))))
          (pss_nil))
      (pss_cons (ps_set (i := 14) sc__law_breaches.nd rfl (Or.inr rfl) (pe_f D_law_levels (hr.mono (by omega)) pass0 (pa_cons (pv 0) (pa_cons (pv 1) (pa_cons (pv 7) pa_nil)))))
      (pss_cons (ps_setLc (own := [("m", 16)]) (i := 15) rfl sc__law_breaches.nd rfl rfl (sw_true rfl rfl rfl (by decide +kernel)) (pi_range1 (by rfl) B.range (pa_cons (pe_dget (hu_of hr) (pv 0) pe_str (fun _ _ => rfl)) pa_nil)) (blkOk_by (own := [("m", 16)]) (N := ["world", "case", "found", "count", "p", "q", "station", "s", "things", "k", "j", "numbers", "used", "over", "levels", "under", "m"]) (sc := defScope s__law_breaches) (by decide +kernel)) (fun _ _ _ _ _ => pg_name (i := 16) sc__law_breaches.nd rfl (Or.inl rfl)) (fun _ _ _ _ _ => pts_one (pt_cmpR op_lt (pe_ix (ix_tupK (K := K) rfl) (pv 14) (pv 16) (fun _ _ => rfl)) (pe_ix (ix_tupK (K := K) rfl) (pv 11) pe_int (fun _ _ => rfl)) (nomark _))) (fun _ _ _ _ _ => (pv 16)))
      (pss_one (ps_if (pt_truth (pv 15) (by intro _; rfl))
          (pss_one (ps_expr (pe_bm PySem.F.plainAttrs_list PySem.F.slot_list_append PySem.F.type_list_append mt_append (pv 2) (pa_cons (pe_tup (pa_cons pe_str (pa_cons (pv 7) (pa_cons (pe_ix ix_list (pv 15) pe_int (fun _ _ => rfl)) pa_nil)))) pa_nil))))
          (pss_nil))))))))))
  (pss_one (ps_ret (pv 2)))))))
    , ?_⟩
  refine ⟨_, rfl, _, rfl, wd, .ref t, W, o, c, rfl, wok, hwd, cg, hc0, fun D H1 s1 nD hd => ?_⟩
  generalize hb0 : recB W c W.recs.length ++ pasB W c W.pass.length = b0 at hd
  have lb0 : b0.length ≤ 10 := by
    have : (recB W c W.recs.length).length ≤ W.recs.length := rg_len (recBAt_len W c) _
    have : (pasB W c W.pass.length).length ≤ W.pass.length := rg_len (pasBAt_len W c) _
    rw [← hb0, List.length_append]
    (clear B D_law_first_breaches D_law_has_antenna D_law_meet D_law_things D_law_used D_law_levels hr wg hwd cg q wok ht hm htt hxm hxt lt hc hc0 g a1 a2 b1 b2 c1 c2 e1 e2 m1 nT nS hh z0 s1 nD hb0 hd; omega)
  have lR : (List.range W.pass.length).length = W.pass.length := List.length_range
  refine ⟨_, rfl, wd, _, rfl, get_p (s1 _ _ g), we, xd, rfl, .inl (SqL.of (s1 _ _ e1)), ?_⟩
  refine ⟨_, rfl, _, rfl, by omega, by (clear B D_law_first_breaches D_law_has_antenna D_law_meet D_law_things D_law_used D_law_levels hr wg hwd cg q wok ht hm htt hxm hxt lm lt hc hc0 g a1 a2 b1 b2 c1 c2 e1 e2 m1 nM nT nR nS hh z0 s1 nD hb0 hd lb0; omega), ?_⟩
  refine for_range (lo := 0) (n := (xd.length : Int).toNat) (fun i σ H' => ∃ y4 y5 y6, σ = [some (.ref wd), some (.ref t), some (.ref D), some (.int (xd.length : Int)), y4, y5, y6, none, none, none, none, none, none, none, none, none, none] ∧ Same H H' ∧ DL K brPy H' D (b0 ++ pairsI (antG W c) (List.range W.pass.length) i)) ⟨none, none, none, rfl, s1, by rw [show pairsI (antG W c) (List.range W.pass.length) 0 = [] from rfl, List.append_nil]; exact hd⟩ (fun i σ H2 hi hI => ?_) (fun σ H2 hI => ?_)
  · obtain ⟨y4, y5, y6, rfl, hs, hd⟩ := hI
    have hi' : i < W.pass.length := by (clear B D_law_first_breaches D_law_has_antenna D_law_meet D_law_things D_law_used D_law_levels hr wg hwd cg q wok ht hm htt hxm hxt lm lt hc hc0 g a1 a2 b1 b2 c1 c2 e1 e2 m1 nM nT nR nS hh z0 s1 nD hb0 lb0 hs hd; omega)
    obtain ⟨z, hz⟩ : ∃ z, W.pass[i]? = some z := ⟨_, List.getElem?_eq_getElem hi'⟩
    have zok := wok.pass z (List.mem_of_getElem? hz)
    obtain ⟨st, hst⟩ : ∃ st, W.stas[z.sta]? = some st := ⟨_, List.getElem?_eq_getElem zok.sta⟩
    obtain ⟨vp, evp, dvp⟩ := dpAll_get2 e2 hz
    obtain ⟨tp, tp1, tp2, rfl, w1, w2, w3⟩ := pas_open dvp
    obtain ⟨vs', evs, dvs⟩ := dpAll_get2 b2 hst
    obtain ⟨tst, rfl, w4⟩ := sta_open dvs
    have ri : (List.range W.pass.length)[i]? = some i := List.getElem?_range hi'
    have lp := pI_le (antG_len W c) (i := i) (l := List.range W.pass.length) (m := 5) (by omega) (by (clear B D_law_first_breaches D_law_has_antenna D_law_meet D_law_things D_law_used D_law_levels hr wg hwd cg q wok ht hm htt hxm hxt lm lt hc hc0 g a1 a2 b1 b2 c1 c2 e1 e2 m1 nM nT nR nS hh z0 s1 nD hb0 lb0 hi hs hd hi' hz zok hst evp dvp w1 w2 w3 w4 evs dvs ri; omega))
    refine ⟨_, rfl, _, _, rfl, rfl, _, rfl, 0 + (i : Int) + 1, (xd.length : Int), rfl, ⟨by omega, by omega, by omega, by (clear B D_law_first_breaches D_law_has_antenna D_law_meet D_law_things D_law_used D_law_levels hr wg hwd cg q wok ht hm htt hxm hxt lm lt hc hc0 g a1 a2 b1 b2 c1 c2 e1 e2 m1 nM nT nR nS hh z0 s1 nD hb0 lb0 hi hs hd hi' hz zok hst evp dvp w1 w2 w3 w4 evs dvs ri lp; omega)⟩, ?_⟩
    refine for_range (lo := 0 + (i : Int) + 1) (n := ((xd.length : Int) - (0 + (i : Int) + 1)).toNat) (fun j σ H' => ∃ y5 y6, σ = [some (.ref wd), some (.ref t), some (.ref D), some (.int (xd.length : Int)), some (.int (0 + (i : Int))), y5, y6, none, none, none, none, none, none, none, none, none, none] ∧ Same H H' ∧ DL K brPy H' D (b0 ++ pairsI (antG W c) (List.range W.pass.length) i ++ (((List.range W.pass.length).drop (i + 1)).take j).flatMap (antG W c i))) ⟨_, _, rfl, hs, by rw [List.take_zero, List.flatMap_nil, List.append_nil]; exact hd⟩ (fun j σ H3 hj hI => ?_) (fun σ H3 hI => ?_)
    · obtain ⟨y5, y6, rfl, hs, hd⟩ := hI
      have hk' : i + 1 + j < W.pass.length := by (clear B D_law_first_breaches D_law_has_antenna D_law_meet D_law_things D_law_used D_law_levels hr wg hwd cg q wok ht hm htt hxm hxt lm lt hc hc0 g a1 a2 b1 b2 c1 c2 e1 e2 m1 nM nT nR nP nS hh z0 s1 nD hb0 lb0 hi hi' hz zok hst evp dvp w1 w2 w3 w4 evs dvs ri lp hs hd; omega)
      generalize hk : i + 1 + j = k at hk'
      have kk : 0 + (i : Int) + 1 + (j : Int) = (k : Int) := by (clear B D_law_first_breaches D_law_has_antenna D_law_meet D_law_things D_law_used D_law_levels hr wg hwd cg q wok ht hm htt hxm hxt lm lt hc hc0 g a1 a2 b1 b2 c1 c2 e1 e2 m1 m3 nM nT nR nP nS hh z0 s1 nD hb0 lb0 lR hi hi' hz zok hst evp dvp w1 w2 w3 w4 evs dvs ri lp hj hs hd hk'; omega)
      have rk : ((List.range W.pass.length).drop (i + 1))[j]? = some k := by rw [List.getElem?_drop, hk]; exact List.getElem?_range hk'
      obtain ⟨y, hy⟩ : ∃ y, W.pass[k]? = some y := ⟨_, List.getElem?_eq_getElem hk'⟩
      obtain ⟨vq, evq, dvq⟩ := dpAll_get2 e2 hy
      obtain ⟨tq, tq1, tq2, rfl, x1, x2, x3⟩ := pas_open dvq
      have ft := fm_take (g := antG W c i) rk
      have fl := in_le (antG_len W c) (l := List.range W.pass.length) (i := i + 1) (j := j) (m := 5) (by (clear B D_law_first_breaches D_law_has_antenna D_law_meet D_law_things D_law_used D_law_levels hr wg hwd cg q wok ht hm htt hxm hxt lm lt hc hc0 g a1 a2 b1 b2 c1 c2 e1 e2 m1 nM nT nR nS hh z0 s1 nD hb0 lb0 hi hi' hz zok hst evp dvp w1 w2 w3 w4 evs dvs ri lp hj hs hd hk hk' kk rk hy evq dvq x1 x2 x3 ft; omega)) i
      have skip : ∀ y6, antG W c i k = [] → ∃ y5' y6', ([some (.ref wd), some (.ref t), some (.ref D), some (.int (xd.length : Int)), some (.int (0 + (i : Int))), some (.int (0 + (i : Int) + 1 + (j : Int))), y6, none, none, none, none, none, none, none, none, none, none] : L2.St) = [some (.ref wd), some (.ref t), some (.ref D), some (.int (xd.length : Int)), some (.int (0 + (i : Int))), y5', y6', none, none, none, none, none, none, none, none, none, none] ∧ Same H H3 ∧ DL K brPy H3 D (b0 ++ pairsI (antG W c) (List.range W.pass.length) i ++ (((List.range W.pass.length).drop (i + 1)).take (j + 1)).flatMap (antG W c i)) := fun y6 e => by
        rw [ft, e, List.append_nil]
        exact ⟨_, _, rfl, hs, hd⟩
      refine ⟨_, rfl, _, rfl, _, rfl, wd, .ref t, W, o, c, i, by rw [z0]; rfl, wok, hwd.same hs, cg, dp_same hs hc0, hi', _, rfl, ite2 (fun ka => ?_) (fun ka => ?_)⟩
      · refine ⟨_, rfl, _, rfl, _, rfl, wd, .ref t, W, o, c, k, by rw [kk]; rfl, wok, hwd.same hs, cg, dp_same hs hc0, hk', _, rfl, ite2 (fun kb => ?_) (fun kb => ?_)⟩
        · obtain ⟨z', n, st', gz, gn, gst, n0, n1⟩ := ant_of ka
          rw [hz] at gz
          cases gz
          rw [hst] at gst
          cases gst
          obtain ⟨y', m, st2, gy, gm, gst2, m0, m1'⟩ := ant_of kb
          rw [hy] at gy
          cases gy
          obtain ⟨ya, hya, dya⟩ := dpAll_get2 hxt gn
          obtain ⟨yb, hyb, dyb⟩ := dpAll_get2 hxt gm
          cases dya
          cases dyb
          have ag : antG W c i k = if ((decide ((z.sta : Int) = (y.sta : Int)) && decide (n = m)) && closeB (z.first, z.fin) (y.first, y.fin) st.turn) = true then [.turn i k] else [] := by
            have tn : turnOf W z.sta = st.turn := by
              unfold turnOf
              rw [hst]
              rfl
            unfold antG
            rw [ka, kb]
            unfold turnG turnC
            rw [hz, hy, gn, gm]
            show (if ((decide ((z.sta : Int) = (y.sta : Int)) && decide (n = m)) && closeB (z.first, z.fin) (y.first, y.fin) (turnOf W z.sta)) = true then [Br.turn i k] else []) = _
            rw [tn]
          refine ⟨_, rfl, t, _, 1, _, rfl, rfl, Same.tup hs ht, rfl, _, rfl, tt, xt, (i : Int), _, rfl, by rw [z0], Same.tup hs htt, atI_nat hya, ?_⟩
          refine ⟨_, rfl, t, _, 1, _, rfl, rfl, Same.tup hs ht, rfl, _, rfl, tt, xt, (k : Int), _, rfl, by rw [kk], Same.tup hs htt, atI_nat hyb, rfl, _, rfl, ite2 (fun k1 => ?_) (fun k1 => ?_)⟩
          · have k2 : n = m := V.int.inj (of_decide_eq_true k1)
            refine ⟨_, rfl, wd, _, rfl, get_p (hs _ _ g), _, rfl, we, xd, (i : Int), _, rfl, by rw [z0], SqL.of (hs _ _ e1), atI_nat evp, tp, _, 2, _, rfl, rfl, Same.tup hs w1, rfl, ?_⟩
            refine ⟨_, rfl, wd, _, rfl, get_p (hs _ _ g), _, rfl, we, xd, (k : Int), _, rfl, by rw [kk], SqL.of (hs _ _ e1), atI_nat evq, tq, _, 2, _, rfl, rfl, Same.tup hs x1, rfl, _, rfl, rfl, _, rfl, ite2 (fun k3 => ?_) (fun k3 => ?_)⟩
            · have k4 : (z.sta : Int) = (y.sta : Int) := (V.int.inj (of_decide_eq_true k3)).symm
              refine ⟨_, rfl, wd, _, rfl, get_p (hs _ _ g), _, rfl, we, xd, (i : Int), _, rfl, by rw [z0], SqL.of (hs _ _ e1), atI_nat evp, tp, _, 3, _, rfl, rfl, Same.tup hs w1, rfl, ?_⟩
              refine ⟨_, rfl, wd, _, rfl, get_p (hs _ _ g), _, rfl, we, xd, (k : Int), _, rfl, by rw [kk], SqL.of (hs _ _ e1), atI_nat evq, tq, _, 3, _, rfl, rfl, Same.tup hs x1, rfl, ?_⟩
              refine ⟨_, rfl, wd, _, rfl, get_t (hs _ _ g), _, rfl, wb, xb, (z.sta : Int), _, rfl, rfl, SqL.of (hs _ _ b1), atI_nat evs, tst, _, 2, _, rfl, rfl, Same.tup hs w4, rfl, ?_⟩
              refine ⟨tp1, tq1, (z.first, z.fin), (y.first, y.fin), st.turn, rfl, Same.tup hs w2, Same.tup hs x2, _, rfl, ite2 (fun k5 => ?_) (fun k5 => ?_)⟩
              · obtain ⟨xs0, hx0, _⟩ := id hd
                refine ⟨_, rfl, .inl ⟨rfl, _, SqL.of hx0⟩, _, rfl, _, rfl, (by show 3 ≤ sizeLine; decide), fun t3 h3 => ?_⟩
                have b3 := same_new h3 (.tup [.str "turn", .int (0 + (i : Int)), .int (0 + (i : Int) + 1 + (j : Int))])
                have tv : Dp K (upd H3 t3 (.tup [.str "turn", .int (0 + (i : Int)), .int (0 + (i : Int) + 1 + (j : Int))])) (.ref t3) (brPy (.turn i k)) := .tup (SqT.of (by rw [upd_same, kk, z0])) (.cons (.str _) (.cons (.int _) (.cons (.int _) .nil)))
                obtain ⟨xs, g1, g2, g3⟩ := (hd.same b3).push (a := Br.turn i k) noL_br tv (by rw [List.length_append, List.length_append]; (clear B D_law_first_breaches D_law_has_antenna D_law_meet D_law_things D_law_used D_law_levels hr wg hwd cg q wok ht hm htt hxm hxt lm lt hc hc0 g a1 a2 b1 b2 c1 c2 e1 e2 m1 m3 nM nT nR nP nS hh z0 s1 nD hb0 lR hi hi' hz zok hst evp dvp w1 w2 w3 w4 evs dvs ri hj hs hd hk hk' kk rk hy evq dvq x1 x2 x3 ft skip ka kb gn n0 n1 gm m0 m1' gst2 hya hyb ag k1 k2 k3 k4 k5 hx0 h3 b3 tv; omega))
                refine ⟨D, xs, _, rfl, rfl, g1, g2, _, _, rfl, same_at nD (hs.trans b3) _, ?_⟩
                rw [ft, ag, if_pos (by rw [decide_eq_true k4, decide_eq_true k2, show closeB (z.first, z.fin) (y.first, y.fin) st.turn = true from k5]; rfl), ← List.append_assoc]
                exact g3
              · exact skip _ (by rw [ag, show closeB (z.first, z.fin) (y.first, y.fin) st.turn = false from Bool.eq_false_iff.mpr k5, Bool.and_false]; rfl)
            · exact skip _ (by rw [ag, decide_eq_false (show ¬ (z.sta : Int) = (y.sta : Int) from fun e => k3 (decide_eq_true (by rw [e]))), Bool.false_and, Bool.false_and]; rfl)
          · exact skip _ (by rw [ag, decide_eq_false (show ¬ n = m from fun e => k1 (decide_eq_true (by rw [e]))), Bool.and_false, Bool.false_and]; rfl)
        · exact iteF' rfl (skip _ (by unfold antG; rw [Bool.eq_false_iff.mpr kb, Bool.and_false]; rfl))
      · exact iteF' rfl (skip _ (by unfold antG; rw [Bool.eq_false_iff.mpr ka, Bool.false_and]; rfl))
    · obtain ⟨y5, y6, rfl, hs, hd⟩ := hI
      refine ⟨_, _, _, rfl, hs, ?_⟩
      rw [pairsI_succ ri, ← List.append_assoc]
      rw [List.take_of_length_le (by rw [List.length_drop, List.length_range]; (clear B D_law_first_breaches D_law_has_antenna D_law_meet D_law_things D_law_used D_law_levels hr wg hwd cg q wok ht hm htt hxm hxt lm lt hc hc0 g a1 a2 b1 b2 c1 c2 e1 e2 m1 nM nT nR nP nS hh z0 s1 nD hb0 lb0 hi hz zok hst evp dvp w1 w2 w3 w4 evs dvs ri lp hs hd; omega))] at hd
      exact hd
  obtain ⟨y4, y5, y6, rfl, hs, hd⟩ := hI
  rw [show (xd.length : Int).toNat = W.pass.length by (clear B D_law_first_breaches D_law_has_antenna D_law_meet D_law_things D_law_used D_law_levels hr wg hwd cg q wok ht hm htt hxm hxt lm lt hc hc0 g a1 a2 b1 b2 c1 c2 e1 e2 m1 nM nT nR nS hh z0 s1 nD hb0 lb0 hs hd; omega), ← turn_R] at hd
  generalize hb1 : b0 ++ turnB W c = bb1 at hd
  have lb1 : bb1.length ≤ 35 := by
    have := turnB_len (W := W) c nP
    rw [← hb1, List.length_append]
    (clear B D_law_first_breaches D_law_has_antenna D_law_meet D_law_things D_law_used D_law_levels hr wg hwd cg q wok ht hm htt hxm hxt lm lt hc hc0 g a1 a2 b1 b2 c1 c2 e1 e2 m1 m3 nM nT nR nP nS hh z0 s1 nD hb0 lR hs hb1 hd; omega)
  refine ⟨_, rfl, wd, _, rfl, get_s (hs _ _ g), wa, xa, rfl, .inl (SqL.of (hs _ _ a1)), _, rfl, by omega, by (clear B D_law_first_breaches D_law_has_antenna D_law_meet D_law_things D_law_used D_law_levels hr wg hwd cg q wok ht hm htt hxm hxt lm lt hc hc0 g a1 a2 b1 b2 c1 c2 e1 e2 m3 nM nT nR nP hh z0 s1 nD hb0 lb0 lR hs hb1 hd lb1; omega), ?_⟩
  refine for_range (lo := 0) (n := (xa.length : Int).toNat) (fun i σ H' => ∃ y7 y8 y9 y10, σ = [some (.ref wd), some (.ref t), some (.ref D), some (.int (xd.length : Int)), y4, y5, y6, y7, y8, y9, y10, none, none, none, none, none, none] ∧ Same H H' ∧ DL K brPy H' D (bb1 ++ (List.range i).flatMap (busyB W c))) ⟨none, none, none, none, rfl, hs, by rw [List.range_zero, List.flatMap_nil, List.append_nil]; exact hd⟩ (fun i σ H2 hi hI => ?_) (fun σ H2 hI => ?_)
  · obtain ⟨y7, y8, y9, y10, rfl, hs, hd⟩ := hI
    have hi' : i < W.sats.length := by (clear B D_law_first_breaches D_law_has_antenna D_law_meet D_law_things D_law_used D_law_levels hr wg hwd cg q wok ht hm htt hxm hxt lm lt hc hc0 g a1 a2 b1 b2 c1 c2 e1 e2 m3 nM nT nR nP nS hh z0 s1 nD hb0 lb0 lR hb1 lb1 hs hd; omega)
    obtain ⟨zs, hzs⟩ : ∃ zs, W.sats[i]? = some zs := ⟨_, List.getElem?_eq_getElem hi'⟩
    obtain ⟨vsa, evsa, dvsa⟩ := dpAll_get2 a2 hzs
    obtain ⟨ts, ts1, ts2, ls, rfl, w1, w2, w3, w4⟩ := sat_open dvsa
    have bl := busy_len2 W c i
    have lbB : ((List.range i).flatMap (busyB W c)).length ≤ 200 := by
      have hb : ∀ s, (busyB W c s).length ≤ 100 := fun s => pI_le (busyG_len W s) (m := 10) (Nat.le_refl _) (by have := busy_len2 W c s; (clear B D_law_first_breaches D_law_has_antenna D_law_meet D_law_things D_law_used D_law_levels hr wg hwd cg q wok ht hm htt hxm hxt lt hc hc0 g a1 a2 b1 b2 c1 c2 e1 e2 m1 nT nS hh z0 s1 nD hb0 lb0 hb1 lb1 hi hs hd hi' hzs evsa dvsa w1 w2 w3 w4 bl; omega))
      have h := rg_lenk hb i
      have := Nat.mul_le_mul (show i ≤ 2 by (clear B D_law_first_breaches D_law_has_antenna D_law_meet D_law_things D_law_used D_law_levels hr wg hwd cg q wok ht hm htt hxm hxt lm lt hc hc0 g a1 a2 b1 b2 c1 c2 e1 e2 m3 nM nT nR nP hh z0 s1 nD hb0 lb0 lR hb1 lb1 hi hs hd hzs evsa dvsa w1 w2 w3 w4 bl hb h; omega)) (Nat.le_refl 100)
      (clear B D_law_first_breaches D_law_has_antenna D_law_meet D_law_things D_law_used D_law_levels hr wg hwd cg q wok ht hm htt hxm hxt lm lt hc hc0 g a1 a2 b1 b2 c1 c2 e1 e2 m1 m3 nM nT nR nP nS hh z0 s1 nD hb0 lb0 lR hb1 lb1 hi hs hd hi' hzs evsa dvsa w1 w2 w3 w4 bl hb; omega)
    have se : settleOf W i = zs.settle := by
      unfold settleOf
      rw [hzs]
      rfl
    refine ⟨_, rfl, _, rfl, _, rfl, wd, .ref t, W, o, c, i, by rw [z0]; rfl, wok, hwd.same hs, cg, dp_same hs hc0, fun TH H3 s3 nTH hTH => ?_⟩
    have nTD : TH ≠ D := fun e => by
      obtain ⟨ys, hy, _⟩ := hd
      rw [← e, nTH] at hy
      cases hy
    have hd3 := hd.same s3
    have hs3 := hs.trans s3
    obtain ⟨xth, hT1, hT2⟩ := id hTH
    have lth := dpAll_len hT2
    rw [List.length_map] at lth
    generalize hbi : bb1 ++ (List.range i).flatMap (busyB W c) = bi at hd3
    have lbi : bi.length ≤ 235 := by
      rw [← hbi, List.length_append]
      (clear B D_law_first_breaches D_law_has_antenna D_law_meet D_law_things D_law_used D_law_levels hr wg hwd cg q wok ht hm htt hxm hxt lm lt hc hc0 g a1 a2 b1 b2 c1 c2 e1 e2 m1 m3 nM nT nR nP nS hh z0 s1 nD hb0 lb0 lR hb1 hi hs hd hi' hzs evsa dvsa w1 w2 w3 w4 bl se s3 nTH hTH nTD hs3 hT1 hT2 lth hbi hd3; omega)
    refine ⟨_, rfl, TH, xth, rfl, .inl (SqL.of hT1), _, rfl, by omega, by (clear B D_law_first_breaches D_law_has_antenna D_law_meet D_law_things D_law_used D_law_levels hr wg hwd cg q wok ht hm htt hxm hxt lt hc hc0 g a1 a2 b1 b2 c1 c2 e1 e2 m1 nT nS hh z0 s1 nD hb0 lb0 hb1 lb1 hi hs hd hi' hzs evsa dvsa w1 w2 w3 w4 lbB se s3 nTH hTH nTD hs3 hT1 hT2 hbi hd3 lbi; omega), ?_⟩
    refine for_range (lo := 0) (n := (xth.length : Int).toNat) (fun k σ H' => ∃ y9 y10, σ = [some (.ref wd), some (.ref t), some (.ref D), some (.int (xd.length : Int)), y4, y5, y6, some (.int (0 + (i : Int))), some (.ref TH), y9, y10, none, none, none, none, none, none] ∧ Same H H' ∧ DL K thgPy H' TH (busyL W c i) ∧ DL K brPy H' D (bi ++ pairsI (busyG W i) (busyL W c i) k)) ⟨_, _, rfl, hs3, hTH, by rw [show pairsI (busyG W i) (busyL W c i) 0 = [] from rfl, List.append_nil]; exact hd3⟩ (fun k σ H4 hk hI => ?_) (fun σ H4 hI => ?_)
    · obtain ⟨y9, y10, rfl, hs, hth, hd⟩ := hI
      have hk' : k < (busyL W c i).length := by (clear B D_law_first_breaches D_law_has_antenna D_law_meet D_law_things D_law_used D_law_levels hr wg hwd cg q wok ht hm htt hxm hxt lm lt hc hc0 g a1 a2 b1 b2 c1 c2 e1 e2 m1 m3 nM nT nR nP nS hh z0 s1 nD hb0 lb0 lR hb1 lb1 hi hi' hzs evsa dvsa w1 w2 w3 w4 bl lbB se s3 nTH hTH nTD hs3 hT1 hT2 hbi hd3 lbi hs hth hd; omega)
      obtain ⟨x, hx⟩ : ∃ x, (busyL W c i)[k]? = some x := ⟨_, List.getElem?_eq_getElem hk'⟩
      have lp := pI_le (busyG_len W i) (i := k) (l := busyL W c i) (m := 10) (by omega) (by (clear B D_law_first_breaches D_law_has_antenna D_law_meet D_law_things D_law_used D_law_levels hr wg hwd cg q wok ht hm htt hxm hxt lt hc hc0 g a1 a2 b1 b2 c1 c2 e1 e2 m1 nT nS hh z0 s1 nD hb0 lb0 hb1 lb1 hi hi' hzs evsa dvsa w1 w2 w3 w4 lbB se s3 nTH hTH nTD hs3 hT1 hT2 hbi hd3 lbi hk hs hth hd hk' hx; omega))
      obtain ⟨xq, hq1, hq2⟩ := id hth
      have lq := dpAll_len hq2
      rw [List.length_map] at lq
      refine ⟨_, rfl, _, _, rfl, rfl, _, rfl, TH, xq, rfl, .inl (SqL.of hq1), 0 + (k : Int) + 1, (xq.length : Int), rfl, ⟨by omega, by omega, by omega, by (clear B D_law_first_breaches D_law_has_antenna D_law_meet D_law_things D_law_used D_law_levels hr wg hwd cg q wok ht hm htt hxm hxt lt hc hc0 g a1 a2 b1 b2 c1 c2 e1 e2 m1 nT nS hh z0 s1 nD hb0 lb0 hb1 lb1 hi hi' hzs evsa dvsa w1 w2 w3 w4 lbB se s3 nTH hTH nTD hs3 hT1 hT2 hbi hd3 lbi hk hs hth hd hk' hx lp hq1 hq2; omega)⟩, ?_⟩
      refine for_range (lo := 0 + (k : Int) + 1) (n := ((xq.length : Int) - (0 + (k : Int) + 1)).toNat) (fun j σ H' => ∃ y10, σ = [some (.ref wd), some (.ref t), some (.ref D), some (.int (xd.length : Int)), y4, y5, y6, some (.int (0 + (i : Int))), some (.ref TH), some (.int (0 + (k : Int))), y10, none, none, none, none, none, none] ∧ Same H H' ∧ DL K thgPy H' TH (busyL W c i) ∧ DL K brPy H' D (bi ++ pairsI (busyG W i) (busyL W c i) k ++ (((busyL W c i).drop (k + 1)).take j).flatMap (busyG W i x))) ⟨_, rfl, hs, hth, by rw [List.take_zero, List.flatMap_nil, List.append_nil]; exact hd⟩ (fun j σ H5 hj hI => ?_) (fun σ H5 hI => ?_)
      · obtain ⟨y10, rfl, hs, hth, hd⟩ := hI
        have hl' : k + 1 + j < (busyL W c i).length := by (clear B D_law_first_breaches D_law_has_antenna D_law_meet D_law_things D_law_used D_law_levels hr wg hwd cg q wok ht hm htt hxm hxt lm lt hc hc0 g a1 a2 b1 b2 c1 c2 e1 e2 m1 m3 nM nT nR nP nS hh z0 s1 nD hb0 lb0 lR hb1 lb1 hi hi' hzs evsa dvsa w1 w2 w3 w4 bl lbB se s3 nTH hTH nTD hs3 hT1 hT2 hbi hd3 lbi hk hx lp hq1 hq2 hs hth hd; omega)
        generalize hl : k + 1 + j = l at hl'
        have kk : 0 + (k : Int) + 1 + (j : Int) = (l : Int) := by (clear B D_law_first_breaches D_law_has_antenna D_law_meet D_law_things D_law_used D_law_levels hr wg hwd cg q wok ht hm htt hxm hxt lm lt hc hc0 g a1 a2 b1 b2 c1 c2 e1 e2 m1 m3 nM nT nR nP nS hh z0 s1 nD hb0 lb0 lR hb1 lb1 hi hi' hzs evsa dvsa w1 w2 w3 w4 bl lbB se s3 nTH hTH nTD hs3 hT1 hT2 lth hbi hd3 lbi hk hk' hx lp hq1 hq2 lq hj hs hth hd hl'; omega)
        obtain ⟨y, hy⟩ : ∃ y, (busyL W c i)[l]? = some y := ⟨_, List.getElem?_eq_getElem hl'⟩
        have rk : ((busyL W c i).drop (k + 1))[j]? = some y := by rw [List.getElem?_drop, hl]; exact hy
        have ft := fm_take (g := busyG W i x) rk
        have fl := in_le (busyG_len W i) (l := busyL W c i) (i := k + 1) (j := j) (m := 10) (by (clear B D_law_first_breaches D_law_has_antenna D_law_meet D_law_things D_law_used D_law_levels hr wg hwd cg q wok ht hm htt hxm hxt lt hc hc0 g a1 a2 b1 b2 c1 c2 e1 e2 m1 nT nS hh z0 s1 nD hb0 lb0 hb1 lb1 hi hi' hzs evsa dvsa w1 w2 w3 w4 lbB se s3 nTH hTH nTD hs3 hT1 hT2 hbi hd3 lbi hk hk' hx lp hq1 hq2 hj hs hth hd hl hl' kk hy rk ft; omega)) x
        obtain ⟨xr, hr1, hr2⟩ := id hth
        obtain ⟨vx, evx, dvx⟩ := dpAll_get2 hr2 hx
        obtain ⟨vy, evy, dvy⟩ := dpAll_get2 hr2 hy
        obtain ⟨tx, tx1, tx2, rfl, u1, u2, u3⟩ := dp_thg dvx
        obtain ⟨ty, ty1, ty2, rfl, r1, r2, r3⟩ := dp_thg dvy
        have bg : busyG W i x y = if closeB (x.2.2.1, x.2.2.2) (y.2.2.1, y.2.2.2) zs.settle = true then [.busy (x.1, x.2.1) (y.1, y.2.1)] else [] := by
          unfold busyG
          rw [se]
        refine ⟨_, rfl, _, rfl, TH, xr, (k : Int), _, rfl, by rw [z0], SqL.of hr1, atI_nat evx, tx, _, 1, _, rfl, rfl, u1, rfl, ?_⟩
        refine ⟨_, rfl, _, rfl, TH, xr, (l : Int), _, rfl, by rw [kk], SqL.of hr1, atI_nat evy, ty, _, 1, _, rfl, rfl, r1, rfl, ?_⟩
        refine ⟨_, rfl, wd, _, rfl, get_s (hs _ _ g), _, rfl, wa, xa, (i : Int), _, rfl, by rw [z0], SqL.of (hs _ _ a1), atI_nat evsa, ts, _, 1, _, rfl, rfl, Same.tup hs w1, rfl, ts1, _, 5, _, rfl, rfl, Same.tup hs w2, rfl, ?_⟩
        refine ⟨tx2, ty2, (x.2.2.1, x.2.2.2), (y.2.2.1, y.2.2.2), zs.settle, rfl, u3, r3, _, rfl, ite2 (fun k5 => ?_) (fun k5 => ?_)⟩
        · obtain ⟨xs0, hx0, _⟩ := id hd
          refine ⟨_, rfl, .inl ⟨rfl, _, SqL.of hx0⟩, ?_⟩
          refine ⟨_, rfl, _, rfl, TH, xr, (k : Int), _, rfl, by rw [z0], SqL.of hr1, atI_nat evx, tx, _, 0, _, rfl, rfl, u1, rfl, ?_⟩
          refine ⟨_, rfl, _, rfl, TH, xr, (l : Int), _, rfl, by rw [kk], SqL.of hr1, atI_nat evy, ty, _, 0, _, rfl, rfl, r1, rfl, (by show 3 ≤ sizeLine; decide), fun t3 h3 => ?_⟩
          have b3 := same_new h3 (.tup [.str "busy", .ref tx1, .ref ty1])
          have tv : Dp K (upd H5 t3 (.tup [.str "busy", .ref tx1, .ref ty1])) (.ref t3) (brPy (.busy (x.1, x.2.1) (y.1, y.2.1))) := .tup (SqT.of upd_same) (.cons (.str _) (.cons (.tup (Same.tup b3 u2) (.cons (.str _) (.cons (.int _) .nil))) (.cons (.tup (Same.tup b3 r2) (.cons (.str _) (.cons (.int _) .nil))) .nil)))
          obtain ⟨xs, g1, g2, g3⟩ := (hd.same b3).push (a := Br.busy (x.1, x.2.1) (y.1, y.2.1)) noL_br tv (by rw [List.length_append, List.length_append]; (clear B D_law_first_breaches D_law_has_antenna D_law_meet D_law_things D_law_used D_law_levels hr wg hwd cg q wok ht hm htt hxm hxt lm lt hc hc0 g a1 a2 b1 b2 c1 c2 e1 e2 m1 m3 nM nT nR nP nS hh z0 s1 nD hb0 lb0 lR hb1 lb1 hi hi' hzs evsa dvsa w1 w2 w3 w4 bl lbB se s3 nTH hTH nTD hs3 hT1 hT2 lth hbi hd3 hk hk' hx hq1 hq2 lq hj hs hth hd hl hl' kk hy rk ft hr1 hr2 evx dvx u1 u2 u3 evy dvy r1 r2 r3 bg k5 hx0 h3 b3 tv; omega))
          refine ⟨D, xs, _, rfl, rfl, g1, g2, _, rfl, same_at nD (hs.trans b3) _, (hth.same b3).keep noL_thg g1 nTD, ?_⟩
          rw [ft, bg, if_pos k5, ← List.append_assoc]
          exact g3
        · refine ⟨_, rfl, hs, hth, ?_⟩
          rw [ft, bg, if_neg k5, List.append_nil]
          exact hd
      · obtain ⟨y10, rfl, hs, hth, hd⟩ := hI
        refine ⟨_, _, rfl, hs, hth, ?_⟩
        rw [pairsI_succ hx, ← List.append_assoc]
        rw [List.take_of_length_le (by rw [List.length_drop]; (clear B D_law_first_breaches D_law_has_antenna D_law_meet D_law_things D_law_used D_law_levels hr wg hwd cg q wok ht hm htt hxm hxt lm lt hc hc0 g a1 a2 b1 b2 c1 c2 e1 e2 m1 m3 nM nT nR nP nS hh z0 s1 nD hb0 lb0 lR hb1 lb1 hi hi' hzs evsa dvsa w1 w2 w3 w4 bl lbB se s3 nTH hTH nTD hs3 hT1 hT2 hbi hd3 lbi hk hx lp hq1 hq2 hs hth hd; omega))] at hd
        exact hd
    · obtain ⟨y9, y10, rfl, hs, hth, hd⟩ := hI
      refine ⟨_, _, _, _, rfl, hs, ?_⟩
      rw [show (xth.length : Int).toNat = (busyL W c i).length by (clear B D_law_first_breaches D_law_has_antenna D_law_meet D_law_things D_law_used D_law_levels hr wg hwd cg q wok ht hm htt hxm hxt lm lt hc hc0 g a1 a2 b1 b2 c1 c2 e1 e2 m1 m3 nM nT nR nP nS hh z0 s1 nD hb0 lb0 lR hb1 lb1 hi hi' hzs evsa dvsa w1 w2 w3 w4 bl lbB se s3 nTH hTH nTD hs3 hT1 hT2 hbi hd3 lbi hs hth hd; omega)] at hd
      rw [rg_succ, ← List.append_assoc, hbi]
      exact hd
  obtain ⟨y7, y8, y9, y10, rfl, hs, hd⟩ := hI
  rw [show (xa.length : Int).toNat = W.sats.length by (clear B D_law_first_breaches D_law_has_antenna D_law_meet D_law_things D_law_used D_law_levels hr wg hwd cg q wok ht hm htt hxm hxt lm lt hc hc0 g a1 a2 b1 b2 c1 c2 e1 e2 m3 nM nT nR nP hh z0 s1 nD hb0 lb0 lR hb1 lb1 hs hd; omega)] at hd
  generalize hb2 : bb1 ++ (List.range W.sats.length).flatMap (busyB W c) = bb2 at hd
  have lb2 : bb2.length ≤ 335 := by
    have hb : ∀ s, (busyB W c s).length ≤ 100 := fun s => pI_le (busyG_len W s) (m := 10) (Nat.le_refl _) (by have := busy_len2 W c s; (clear B D_law_first_breaches D_law_has_antenna D_law_meet D_law_things D_law_used D_law_levels hr wg hwd cg q wok ht hm htt hxm hxt lt hc hc0 g a1 a2 b1 b2 c1 c2 e1 e2 m1 nT nS hh z0 s1 nD hb0 lb0 hb1 lb1 hs hb2 hd; omega))
    have h := rg_lenk hb W.sats.length
    have := Nat.mul_le_mul nS (Nat.le_refl 100)
    rw [← hb2, List.length_append]
    (clear B D_law_first_breaches D_law_has_antenna D_law_meet D_law_things D_law_used D_law_levels hr wg hwd cg q wok ht hm htt hxm hxt lm lt hc hc0 g a1 a2 b1 b2 c1 c2 e1 e2 m3 nM nT nR nP hh z0 s1 nD hb0 lb0 lR hb1 hs hb2 hd hb this; omega)
  refine ⟨_, rfl, wd, _, rfl, get_s (hs _ _ g), wa, xa, rfl, .inl (SqL.of (hs _ _ a1)), _, rfl, by omega, by (clear B D_law_first_breaches D_law_has_antenna D_law_meet D_law_things D_law_used D_law_levels hr wg hwd cg q wok ht hm htt hxm hxt lm lt hc hc0 g a1 a2 b1 b2 c1 c2 e1 e2 m3 nM nT nR nP hh z0 s1 nD hb0 lb0 lR hb1 lb1 hs hb2 hd lb2; omega), ?_⟩
  refine for_range (lo := 0) (n := (xa.length : Int).toNat) (fun i σ H' => ∃ y7 z1 z2 z3 z4 z5, σ = [some (.ref wd), some (.ref t), some (.ref D), some (.int (xd.length : Int)), y4, y5, y6, y7, y8, y9, y10, z1, z2, z3, z4, z5, none] ∧ Same H H' ∧ DL K brPy H' D (bb2 ++ (List.range i).flatMap (unitB W c))) ⟨y7, none, none, none, none, none, rfl, hs, by rw [List.range_zero, List.flatMap_nil, List.append_nil]; exact hd⟩ (fun i σ H2 hi hI => ?_) (fun σ H2 hI => ?_)
  · obtain ⟨y7, z1, z2, z3, z4, z5, rfl, hs, hd⟩ := hI
    have hi' : i < W.sats.length := by (clear B D_law_first_breaches D_law_has_antenna D_law_meet D_law_things D_law_used D_law_levels hr wg hwd cg q wok ht hm htt hxm hxt lm lt hc hc0 g a1 a2 b1 b2 c1 c2 e1 e2 m3 nM nT nR nP nS hh z0 s1 nD hb0 lb0 lR hb1 lb1 hb2 lb2 hs hd; omega)
    obtain ⟨zs, hzs⟩ : ∃ zs, W.sats[i]? = some zs := ⟨_, List.getElem?_eq_getElem hi'⟩
    obtain ⟨vsa, evsa, dvsa⟩ := dpAll_get2 a2 hzs
    obtain ⟨ts, ts1, ts2, ls, rfl, w1, w2, w3, w4⟩ := sat_open dvsa
    have lbU : ((List.range i).flatMap (unitB W c)).length ≤ 6 := by
      have h := rg_lenk (unitB_len W c) i
      (clear B D_law_first_breaches D_law_has_antenna D_law_meet D_law_things D_law_used D_law_levels hr wg hwd cg q wok ht hm htt hxm hxt lm lt hc hc0 g a1 a2 b1 b2 c1 c2 e1 e2 m3 nM nT nR nP hh z0 s1 nD hb0 lb0 lR hb1 lb1 hb2 lb2 hi hs hd hzs evsa dvsa w1 w2 w3 w4; omega)
    have eu : unitB W c i = ((overL W c i zs W.horizon.toNat).take 1).map (Br.store i) ++ ((lowL W c i zs W.horizon.toNat).take 1).map (Br.energy i) := by
      unfold unitB
      rw [hzs]
    have lu : ((usedsW W c i W.horizon.toNat).map V.int).length = W.horizon.toNat := by rw [List.length_map]; unfold usedsW; rw [List.length_map, List.length_range]
    refine ⟨_, rfl, wd, _, rfl, get_s (hs _ _ g), _, rfl, wa, xa, (i : Int), _, rfl, by rw [z0], SqL.of (hs _ _ a1), atI_nat evsa, ts, _, 1, _, rfl, rfl, Same.tup hs w1, rfl, ?_⟩
    refine ⟨_, rfl, _, rfl, _, rfl, wd, .ref t, W, o, c, i, by rw [z0]; rfl, wok, hwd.same hs, cg, dp_same hs hc0, fun tu H3 s3 hu => ?_⟩
    have hs3 := hs.trans s3
    have hd3 := hd.same s3
    generalize hbi : bb2 ++ (List.range i).flatMap (unitB W c) = bi at hd3
    have lbi : bi.length ≤ 341 := by
      rw [← hbi, List.length_append]
      (clear B D_law_first_breaches D_law_has_antenna D_law_meet D_law_things D_law_used D_law_levels hr wg hwd cg q wok ht hm htt hxm hxt lm lt hc hc0 g a1 a2 b1 b2 c1 c2 e1 e2 m1 m3 nM nT nR nP nS hh z0 s1 nD hb0 lb0 lR hb1 lb1 hb2 hi hs hd hi' hzs evsa dvsa w1 w2 w3 w4 eu lu s3 hu hs3 hbi hd3; omega)
    refine ⟨_, rfl, wd, _, rfl, get_h (hs3 _ _ g), W.horizon, rfl, by omega, by (clear B D_law_first_breaches D_law_has_antenna D_law_meet D_law_things D_law_used D_law_levels hr wg hwd cg q wok ht hm htt hxm hxt lm lt hc hc0 g a1 a2 b1 b2 c1 c2 e1 e2 m1 m3 nM nT nR nP nS z0 s1 nD hb0 lb0 lR hb1 lb1 hb2 lb2 hi hs hd hi' hzs evsa dvsa w1 w2 w3 w4 lbU eu lu s3 hu hs3 hbi hd3 lbi; omega), fun S hS => lc_range (lo := 0) (n := W.horizon.toNat) (fun m H' => Same H3 H' ∧ H' S = some (.lst ((overL W c i zs m).map fun (m : Nat) => V.int (m : Int)))) ⟨same_new hS _, upd_same⟩ (fun m H4 hm hI => ?_) (fun H4 hI => ?_)⟩
    · obtain ⟨s4, hSS⟩ := hI
      have hsB := hs3.trans s4
      have fs : overL W c i zs (m + 1) = overL W c i zs m ++ if decide (zs.store < usedW W c i (m : Int)) = true then [m] else [] := fl_succ m
      have fl : (overL W c i zs m).length ≤ m := fl_len _ m
      refine ⟨rfl, _, rfl, _, rfl, tu, _, (m : Int), _, rfl, by rw [z0], Same.tup s4 hu, atI_nat (used_at hm), _, rfl, ts1, _, 0, _, rfl, rfl, Same.tup hsB w2, rfl, _, _, rfl, rfl, _, rfl, ite2 (fun k1 => ?_) (fun k1 => ?_)⟩
      · have k2 : decide (zs.store < usedW W c i (m : Int)) = true := k1
        refine ⟨_, rfl, _, hSS, by rw [List.length_map]; exact small1000 (by (clear B D_law_first_breaches D_law_has_antenna D_law_meet D_law_things D_law_used D_law_levels hr wg hwd cg q wok ht htt hxm hxt lm lt hc hc0 g a1 a2 b1 b2 c1 c2 e1 e2 m1 m3 nM nT nR nP nS z0 s1 nD hb0 lb0 lR hb1 lb1 hb2 lb2 hi hs hd hi' hzs evsa dvsa w1 w2 w3 w4 lbU eu lu s3 hu hs3 hbi hd3 lbi hS s4 hSS hsB fs k1 k2; omega)), same_at hS s4 _, ?_⟩
        rw [upd_same, fs, if_pos k2, List.map_append, Int.zero_add]
        rfl
      · have k2 : ¬ decide (zs.store < usedW W c i (m : Int)) = true := k1
        refine ⟨s4, ?_⟩
        rw [fs, if_neg k2, List.append_nil]
        exact hSS
    obtain ⟨s4, hSS⟩ := hI
    have hsB := hs3.trans s4
    have hdB := hd3.same s4
    generalize hov : overL W c i zs W.horizon.toNat = ov at hSS eu
    refine ⟨fun σ' H' => σ' = [some (.ref wd), some (.ref t), some (.ref D), some (.int (xd.length : Int)), y4, y5, y6, some (.int (0 + (i : Int))), y8, y9, y10, some (.ref ts1), some (.ref tu), some (.ref S), z4, z5, none] ∧ Same H H' ∧ DL K brPy H' D (bi ++ (ov.take 1).map (Br.store i)), ?_, fun σ' H5 hm => ?_⟩
    · cases ov with
      | nil =>
        refine ⟨_, rfl, _, .inl ⟨_, SqL.of hSS, rfl⟩, iteF' rfl ⟨rfl, hsB, ?_⟩⟩
        rw [List.take_nil, List.map_nil, List.append_nil]
        exact hdB
      | cons a l =>
        obtain ⟨xs0, hx0, _⟩ := id hdB
        refine ⟨_, rfl, _, .inl ⟨_, SqL.of hSS, rfl⟩, iteT' rfl ⟨_, rfl, .inl ⟨rfl, _, SqL.of hx0⟩, _, rfl, _, rfl, S, _, 0, _, rfl, rfl, SqL.of hSS, at0, (by show 3 ≤ sizeLine; decide), fun t3 h3 => ?_⟩⟩
        have b3 := same_new h3 (.tup [.str "store", .int (0 + (i : Int)), .int (a : Int)])
        have tv : Dp K (upd H4 t3 (.tup [.str "store", .int (0 + (i : Int)), .int (a : Int)])) (.ref t3) (brPy (.store i a)) := .tup (SqT.of (by rw [upd_same, z0])) (.cons (.str _) (.cons (.int _) (.cons (.int _) .nil)))
        obtain ⟨xs, g1, g2, g3⟩ := (hdB.same b3).push (a := Br.store i a) noL_br tv (by (clear B D_law_first_breaches D_law_has_antenna D_law_meet D_law_things D_law_used D_law_levels hr wg hwd cg q wok ht hm htt hxm hxt lm lt hc hc0 g a1 a2 b1 b2 c1 c2 e1 e2 m1 m3 nM nT nR nP nS hh z0 s1 nD hb0 lb0 lR hb1 lb1 hb2 lb2 hi hs hd hi' hzs evsa dvsa w1 w2 w3 w4 lbU lu s3 hu hs3 hbi hd3 hS s4 hsB hdB hov hSS eu hx0 h3 b3 tv; omega))
        exact ⟨D, xs, _, rfl, rfl, g1, g2, rfl, same_at nD (hsB.trans b3) _, g3⟩
    obtain ⟨rfl, hs5, hd5⟩ := hm
    refine ⟨_, rfl, _, rfl, _, rfl, wd, .ref t, W, o, c, i, zs, by rw [z0]; rfl, wok, hwd.same hs5, cg, dp_same hs5 hc0, hzs, fun tl H6 s6 hl => ?_⟩
    have hs6 := hs5.trans s6
    have hd6 := hd5.same s6
    have ll : ((levelsW W c i zs W.horizon.toNat).map V.int).length = W.horizon.toNat := by rw [List.length_map]; unfold levelsW; rw [List.length_map, List.length_range]
    refine ⟨_, rfl, wd, _, rfl, get_h (hs6 _ _ g), W.horizon, rfl, by omega, by (clear B D_law_first_breaches D_law_has_antenna D_law_meet D_law_things D_law_used D_law_levels hr wg hwd cg q wok ht hm htt hxm hxt lm lt hc hc0 g a1 a2 b1 b2 c1 c2 e1 e2 m1 m3 nM nT nR nP nS z0 s1 nD hb0 lb0 lR hb1 lb1 hb2 lb2 hi hs hd hi' hzs evsa dvsa w1 w2 w3 w4 lbU lu s3 hu hs3 hbi hd3 lbi hS s4 hsB hdB hov hSS eu hs5 hd5 s6 hl hs6 hd6 ll; omega), fun U hU => lc_range (lo := 0) (n := W.horizon.toNat) (fun m H' => Same H6 H' ∧ H' U = some (.lst ((lowL W c i zs m).map fun (m : Nat) => V.int (m : Int)))) ⟨same_new hU _, upd_same⟩ (fun m H7 hm hI => ?_) (fun H7 hI => ?_)⟩
    · obtain ⟨s7, hUU⟩ := hI
      have hsC := hs6.trans s7
      have fs : lowL W c i zs (m + 1) = lowL W c i zs m ++ if decide (lvW W c i zs m < zs.reserve) = true then [m] else [] := fl_succ m
      have fl : (lowL W c i zs m).length ≤ m := fl_len _ m
      obtain ⟨vl, hvl⟩ : ∃ vl, ((levelsW W c i zs W.horizon.toNat).map V.int)[m]? = some vl := ⟨_, List.getElem?_eq_getElem (by (clear B D_law_first_breaches D_law_has_antenna D_law_meet D_law_things D_law_used D_law_levels hr wg hwd cg q wok ht htt hxm hxt lm lt hc hc0 g a1 a2 b1 b2 c1 c2 e1 e2 m1 m3 nM nT nR nP nS hh z0 s1 nD hb0 lb0 lR hb1 lb1 hb2 lb2 hi hs hd hi' hzs evsa dvsa w1 w2 w3 w4 lbU lu s3 hu hs3 hbi hd3 lbi hS s4 hsB hdB hov hSS eu hs5 hd5 s6 hl hs6 hd6 hU s7 hUU hsC fs fl; omega))⟩
      have hvl2 := hvl
      rw [levels_at hm] at hvl2
      have ev := Option.some.inj hvl2
      subst ev
      refine ⟨rfl, _, rfl, _, rfl, tl, _, (m : Int), _, rfl, by rw [z0], Same.tup s7 hl, atI_nat hvl, _, rfl, ts1, _, 3, _, rfl, rfl, Same.tup hsC w2, rfl, _, _, rfl, rfl, _, rfl, ite2 (fun k1 => ?_) (fun k1 => ?_)⟩
      · have k2 : decide (lvW W c i zs m < zs.reserve) = true := k1
        refine ⟨_, rfl, _, hUU, by rw [List.length_map]; exact small1000 (by (clear B D_law_first_breaches D_law_has_antenna D_law_meet D_law_things D_law_used D_law_levels hr wg hwd cg q wok ht htt hxm hxt lm lt hc hc0 g a1 a2 b1 b2 c1 c2 e1 e2 m1 m3 nM nT nR nP nS z0 s1 nD hb0 lb0 lR hb1 lb1 hb2 lb2 hi hs hd hi' hzs evsa dvsa w1 w2 w3 w4 lbU lu s3 hu hs3 hbi hd3 lbi hS s4 hsB hdB hov hSS eu hs5 hd5 s6 hl hs6 hd6 hU s7 hUU hsC fs hvl hvl2 k1 k2; omega)), same_at hU s7 _, ?_⟩
        rw [upd_same, fs, if_pos k2, List.map_append, Int.zero_add]
        rfl
      · have k2 : ¬ decide (lvW W c i zs m < zs.reserve) = true := k1
        refine ⟨s7, ?_⟩
        rw [fs, if_neg k2, List.append_nil]
        exact hUU
    obtain ⟨s7, hUU⟩ := hI
    have hsC := hs6.trans s7
    have hdC := hd6.same s7
    generalize hlo : lowL W c i zs W.horizon.toNat = lo at hUU eu
    have rgs : bb2 ++ (List.range (i + 1)).flatMap (unitB W c) = bi ++ (ov.take 1).map (Br.store i) ++ (lo.take 1).map (Br.energy i) := by
      rw [rg_succ, ← List.append_assoc, hbi, eu, ← List.append_assoc]
    rw [rgs]
    cases lo with
    | nil =>
      refine ⟨_, rfl, _, .inl ⟨_, SqL.of hUU, rfl⟩, iteF' rfl ⟨_, _, _, _, _, _, rfl, hsC, ?_⟩⟩
      rw [List.take_nil, List.map_nil, List.append_nil]
      exact hdC
    | cons a l =>
      obtain ⟨xs0, hx0, _⟩ := id hdC
      refine ⟨_, rfl, _, .inl ⟨_, SqL.of hUU, rfl⟩, iteT' rfl ⟨_, rfl, .inl ⟨rfl, _, SqL.of hx0⟩, _, rfl, _, rfl, U, _, 0, _, rfl, rfl, SqL.of hUU, at0, (by show 3 ≤ sizeLine; decide), fun t3 h3 => ?_⟩⟩
      have b3 := same_new h3 (.tup [.str "energy", .int (0 + (i : Int)), .int (a : Int)])
      have tv : Dp K (upd H7 t3 (.tup [.str "energy", .int (0 + (i : Int)), .int (a : Int)])) (.ref t3) (brPy (.energy i a)) := .tup (SqT.of (by rw [upd_same, z0])) (.cons (.str _) (.cons (.int _) (.cons (.int _) .nil)))
      obtain ⟨xs, g1, g2, g3⟩ := (hdC.same b3).push (a := Br.energy i a) noL_br tv (by rw [List.length_append, List.length_map, List.length_take]; (clear B D_law_first_breaches D_law_has_antenna D_law_meet D_law_things D_law_used D_law_levels hr wg hwd cg q wok ht hm htt hxm hxt lm lt hc hc0 g a1 a2 b1 b2 c1 c2 e1 e2 m1 m3 nM nT nR nP nS hh z0 s1 nD hb0 lb0 lR hb1 lb1 hb2 lb2 hi hs hd hi' hzs evsa dvsa w1 w2 w3 w4 lbU lu s3 hu hs3 hbi hd3 hS s4 hsB hdB hov hSS hs5 hd5 s6 hl hs6 hd6 ll hU s7 hsC hdC hlo hUU eu rgs hx0 h3 b3 tv; omega))
      exact ⟨D, xs, _, rfl, rfl, g1, g2, _, _, _, _, _, _, rfl, same_at nD (hsC.trans b3) _, g3⟩
  · obtain ⟨y7, z1, z2, z3, z4, z5, rfl, hs, hd⟩ := hI
    rw [show (xa.length : Int).toNat = W.sats.length by (clear B D_law_first_breaches D_law_has_antenna D_law_meet D_law_things D_law_used D_law_levels hr wg hwd cg q wok ht hm htt hxm hxt lm lt hc hc0 g a1 a2 b1 b2 c1 c2 e1 e2 m3 nM nT nR nP hh z0 s1 nD hb0 lb0 lR hb1 lb1 hb2 lb2 hs hd; omega), ← hb2, ← hb1, ← hb0] at hd
    exact ⟨_, rfl, q D _ hs nD hd⟩
end
end DP
namespace DP
open PySem PySem.Spec PyProof.Rows L2
abbrev s_law : Stmt := topS 108
theorem sc_law : FnScope ["script", "world", "actual", "case", "expected"] ["script"] (defScope s_law) := ⟨rfl, rfl, rfl, by decide +kernel, rfl, by decide +kernel, by decide +kernel⟩
theorem fit_br (n : Nat) (b : Br) : Fit (n + 3) (brPy b) := by
  have two : ∀ (s : Str) (i : Int), Fit (n + 3) (.tuple [.str s, .int i]) := fun s i => fit_tup (by show 2 ≤ 1000; decide) (fit_cons fit_str (fit_cons fit_int fit_nil))
  have three : ∀ (s : Str) (i j : Int), Fit (n + 3) (.tuple [.str s, .int i, .int j]) := fun s i j => fit_tup (by show 3 ≤ 1000; decide) (fit_cons fit_str (fit_cons fit_int (fit_cons fit_int fit_nil)))
  have th : ∀ x : Bool × Nat, Fit (n + 2) (sthPy x) := fun x => fit_tup (by show 2 ≤ 1000; decide) (fit_cons fit_str (fit_cons fit_int fit_nil))
  cases b with
  | opt r => exact two _ _
  | unt r => exact two _ _
  | ant r => exact two _ _
  | room r => exact two _ _
  | turn p q => exact three _ _ _
  | busy x y => exact fit_tup (by show 3 ≤ 1000; decide) (fit_cons fit_str (fit_cons (th x) (fit_cons (th y) fit_nil)))
  | store s m => exact three _ _ _
  | energy s m => exact three _ _ _
theorem caseB_len {W : WorldD} (wg : WG W) (c : CaseD) : (caseB W c).length ≤ 1000 := by
  have nR := wg.nR
  have nP := wg.nP
  have nS := wg.ok.nSats
  have lR : (recB W c W.recs.length).length ≤ W.recs.length := rg_len (recBAt_len W c) _
  have lP : (pasB W c W.pass.length).length ≤ W.pass.length := rg_len (pasBAt_len W c) _
  have lT : (turnB W c).length ≤ 5 * 5 := turnB_len c nP
  have hb : ∀ s, (busyB W c s).length ≤ 100 := fun s => pI_le (busyG_len W s) (m := 10) (Nat.le_refl _) (by have := busy_len2 W c s; (clear wg nS lR lP lT; omega))
  have lB := rg_lenk hb W.sats.length
  have lU := rg_lenk (unitB_len W c) W.sats.length
  have := Nat.mul_le_mul nS (Nat.le_refl 100)
  have := Nat.mul_le_mul nS (Nat.le_refl 2)
  unfold caseB
  rw [List.length_append, List.length_append, List.length_append, List.length_append]
  omega
section
variable {P : Program} {w : World} {K : PySem.W.Frag} {mg : Str → Option Value} {base : Heap} {CL CS CT CR CP CW aS aR fS fT fR fP : Addr}
def spLaw (K : PySem.W.Frag) : Sp := fun vs H Q _ => ∃ (a : Addr) (ns : List Int), vs = [.ref a] ∧ SqL K H a (ns.map V.int) ∧ ∀ H', Q (.bl true) H'
set_option maxHeartbeats 16000000 in
theorem d_law (T : TxtW K mg CL CS CT CR CP CW aS aR fS fT fR fP) (D_law_world : DefOk P w K mg base CX0 4 "_law_world" ["script"] (spWorld K)) (D_law_text : DefOk P w K mg base CX0 2 "_law_text" ["world"] (spLawText K))
    (D_law_case : DefOk P w K mg base CX0 3 "_law_case" ["script", "first", "world", "open_too"] (spCase K)) (D_law_same : DefOk P w K mg base CX0 9 "_law_same" ["actual", "expected"] (spSame K 8)) (D_law_breaches : DefOk P w K mg base CX0 5 "_law_breaches" ["world", "case"] (spLawBr K))
    (D_case_breaches : DefOk P w K mg base CX0 7 "case_breaches" ["world", "case"] (spBr K CS CT CR CP CW caseB)) (D_law_told : DefOk P w K mg base CX0 9 "_law_told" ["world", "case"] (spTold K CS CT CR CP CW)) (D_law_kept : DefOk P w K mg base CX0 10 "_law_kept" ["world", "case"] (spKept K CS CT CR CP CW))
    (D_World_parse : SDef P w K mg base CX0 7 CW "parse" ["text"] (spParse K CS CT CR CP CW)) (A : At K mg "law" s_law ["script"]) : DefOk P w K mg base CX0 11 "law" ["script"] (spLaw K) := by
  have B := T.L.B
  refine A.ok sc_law (fun vs H Q E h => ?_) (fun f cdv A outer s H0 vs Q E hr h => ?_)
  · obtain ⟨a, ns, rfl, _⟩ := h
    rfl
  obtain ⟨a, ns, rfl, hS, q⟩ := h
  refine ⟨_, pss_cons (ps_set (i := 1) sc_law.nd rfl (Or.inl rfl) (pe_f D_law_world (hr.mono (by omega)) pass0 (pa_cons (pv 0) pa_nil)))
  (pss_cons (ps_set (i := 2) sc_law.nd rfl (Or.inl rfl) (pe_smeth D_World_parse T.rdW (hr.mono (by omega)) pass0 (pe_ga T.c_World.gC) (pa_cons (pe_f D_law_text (hr.mono (by omega)) pass0 (pa_cons (pv 1) pa_nil)) pa_nil)))
  (pss_cons (ps_set (i := 3) sc_law.nd rfl (Or.inl rfl) (pe_f D_law_case (hr.mono (by omega)) pass0 (pa_cons (pv 0) (pa_cons pe_int (pa_cons (pv 1) (pa_cons pe_bl pa_nil))))))
  (pss_cons (ps_set (i := 4) sc_law.nd rfl (Or.inl rfl) (pe_f D_law_breaches (hr.mono (by omega)) pass0 (pa_cons (pv 1) (pa_cons (pv 3) pa_nil))))
  (pss_cons (ps_if (pt_not (pt_val (pe_f D_law_same (hr.mono (by omega)) pass0 (pa_cons (pe_f D_case_breaches (hr.mono (by omega)) pass0 (pa_cons (pv 2) (pa_cons (pv 3) pa_nil))) (pa_cons (pv 4) pa_nil)))))
      (pss_one (ps_ret pe_bl))
      (pss_nil))
  (pss_cons (ps_if (PW.pt (pw_or (pt_cmpR (op_inDT (hu65 hr)) pe_str (pe_ix ix_tup (pv 3) pe_int (fun _ _ => rfl)) (by rfl)) (pw_or1 (pt_cmpR (op_inDT (hu65 hr)) pe_str (pe_ix ix_tup (pv 3) pe_int (fun _ _ => rfl)) (by rfl)))))
      (pss_one (ps_ret (pe_and (pe_cmpR op_isN (pe_f D_law_told (hr.mono (by omega)) pass0 (pa_cons (pv 2) (pa_cons (pv 3) pa_nil))) pe_non (nomark _)) (pe_one (pe_cmpR op_isN (pe_f D_law_kept (hr.mono (by omega)) pass0 (pa_cons (pv 2) (pa_cons (pv 3) pa_nil))) pe_non (nomark _))))))
      (pss_nil))
  (pss_one (ps_ret (pe_and (pe_f D_law_same (hr.mono (by omega)) pass0 (pa_cons (pe_f D_law_told (hr.mono (by omega)) pass0 (pa_cons (pv 2) (pa_cons (pv 3) pa_nil))) (pa_cons (pv 4) pa_nil))) (pe_one (pe_f D_law_same (hr.mono (by omega)) pass0 (pa_cons (pe_f D_law_kept (hr.mono (by omega)) pass0 (pa_cons (pv 2) (pa_cons (pv 3) pa_nil))) (pa_cons (pe_notT (pv 4)) pa_nil))))))))))))
    , ?_⟩
  refine ⟨_, rfl, a, ns, rfl, hS, fun wd H1 W n0 s1 wg hwd => ?_⟩
  refine ⟨rfl, _, rfl, wd, W, rfl, wg, hwd, fun H2 s2 => ⟨W, rfl, wg.ok, fun ac H3 nA s3 hW => ?_⟩⟩
  refine ⟨_, rfl, _, rfl, a, ns, 24, wd, W, true, rfl, s3.seq (s2.seq (s1.seq hS)), by decide, wg, (hwd.same s2).same s3, fun v H4 c s4 cg dpc => ?_⟩
  have hwd := ((hwd.same s2).same s3).same s4
  have hW := hW.same s4
  have wok := wg.ok
  clear hS s1 s2 s3 s4
  refine ⟨_, rfl, _, rfl, wd, v, W, true, c, rfl, wg, hwd, cg, dpc, fun E1 H5 s5 nE hE => ?_⟩
  refine ⟨_, rfl, _, rfl, ac, v, W, true, c, rfl, wok, hW.same s5, cg, dp_same s5 dpc, fun D H6 s6 nD hD => ?_⟩
  obtain ⟨xs, h1, h2⟩ := hE.same s6
  obtain ⟨ys, h3, h4⟩ := hD
  have lx := dpAll_len h2
  rw [List.length_map] at lx
  have fit : Fit 8 (.list ((caseB W c).map brPy)) := fit_lst (by rw [List.length_map]; exact caseB_len wg c) (fit_map fun b _ => fit_br 4 b)
  refine ⟨_, rfl, _, _, _, rfl, fit, .lst (SqL.of h3) h4, .lst (SqL.of h1) h2, _, rfl, iteF' rfl ?_⟩
  have hW := (hW.same s5).same s6
  have dpc := dp_same s6 (dp_same s5 dpc)
  have dpc0 := dpc
  obtain ⟨t, zs, rfl, ht, hx⟩ := dp_tup dpc
  cases hx with
  | cons a0 hx =>
  cases hx with
  | cons a1 hx =>
  cases hx
  have h1 := h1
  refine ⟨_, rfl, t, _, 0, _, rfl, rfl, ht, rfl, .str "open", _, .str _, a0, by decide +kernel, shp_made _, _, rfl, ?_⟩
  cases hm : opnM c with
  | true =>
    have ho : opn c = true := by unfold opn; rw [hm]; rfl
    have no : ¬ opn c = false := by rw [ho]; exact Bool.noConfusion
    exact iteT' hm (iteT' rfl ⟨_, rfl, _, rfl, ac, .ref t, W, true, c, rfl, wok, hW, cg, dpc0, fun z => absurd z no, fun _ H7 s7 => ⟨rfl, _, rfl, iteT' rfl ⟨_, rfl, _, rfl, ac, .ref t, W, true, c, rfl, wok, hW.same s7, cg, dp_same s7 dpc0, fun z => absurd z no, fun _ H8 s8 => ⟨rfl, q _⟩⟩⟩⟩)
  | false =>
    refine iteF' hm ⟨_, rfl, t, _, 1, _, rfl, rfl, ht, rfl, .str "open", _, .str _, a1, by decide +kernel, shp_taken _, _, rfl, ?_⟩
    cases hn : opnT c with
    | true =>
      have ho : opn c = true := by unfold opn; rw [hm, hn]; rfl
      have no : ¬ opn c = false := by rw [ho]; exact Bool.noConfusion
      exact iteT' hn ⟨_, rfl, _, rfl, ac, .ref t, W, true, c, rfl, wok, hW, cg, dpc0, fun z => absurd z no, fun _ H7 s7 => ⟨rfl, _, rfl, iteT' rfl ⟨_, rfl, _, rfl, ac, .ref t, W, true, c, rfl, wok, hW.same s7, cg, dp_same s7 dpc0, fun z => absurd z no, fun _ H8 s8 => ⟨rfl, q _⟩⟩⟩⟩
    | false =>
      have ho : opn c = false := by unfold opn; rw [hm, hn]; rfl
      have no : ¬ opn c = true := by rw [ho]; exact Bool.noConfusion
      refine iteF' hn ⟨_, rfl, _, rfl, ac, .ref t, W, true, c, rfl, wok, hW, cg, dpc0, fun _ D2 H7 s7 n7 hd7 => ?_, fun z => absurd z no⟩
      obtain ⟨us, k3, k4⟩ := hd7
      refine ⟨_, rfl, _, _, _, rfl, fit, .lst (SqL.of k3) k4, .lst (SqL.of (s7 _ _ h1)) (dpAll_same s7 h2), _, rfl, iteT' rfl ?_⟩
      refine ⟨_, rfl, _, rfl, ac, .ref t, W, true, c, rfl, wok, hW.same s7, cg, dp_same s7 dpc0, fun _ H8 s8 => ?_, fun z => absurd z no⟩
      have h1 := s8 _ _ (s7 _ _ h1)
      have fb : ∀ b : Bool, Fit 8 (.bool b) := fun b => True.intro
      generalize caseB W c = cb at lx
      cases cb with
      | nil =>
        cases xs with
        | nil => exact ⟨_, rfl, false, .inl ⟨[], SqL.of h1, rfl⟩, _, _, .bool true, rfl, fb _, .bl _, .bl _, q _⟩
        | cons x xs => cases lx
      | cons b l =>
        cases xs with
        | nil => cases lx
        | cons x xs =>
          have e : decide (V.int (((b :: l).length : Nat) : Int) = V.int 0) = false := decide_eq_false fun h => by
            have := V.int.inj h
            rw [List.length_cons] at this
            (clear T D_law_world D_law_text D_law_case D_law_same D_law_breaches D_case_breaches D_law_told D_law_kept D_World_parse B hr q n0 wg nA cg hwd wok s5 nE hE s6 nD h3 h4 fit hW dpc dpc0 a0 a1 ht hm hn ho no s7 n7 k3 k4 s8 fb h2 h1 lx h; omega)
          rw [e]
          exact ⟨_, rfl, true, .inl ⟨x :: xs, SqL.of h1, rfl⟩, _, _, .bool false, rfl, fb _, .bl _, .bl _, q _⟩
end
end DP
namespace DP
open PySem PySem.Spec PyProof.Rows L2
section
variable {h : Heap} {K : PySem.W.Frag} {mg : Str → Option Value} {x m qual : Str} {st : Stmt} {ps : List Str} {C f p T : Addr} {oc oc' kV doc pm cdv ct : Value} {od od' an : Option Addr} {osl osl' : Array (Option Value)} {rest : List Value}
theorem cls_mk (X : K.In h) (G : h.Ns mainGlobals mg) (g : PySem.W.nsIn K mainGlobals x = some (some (.ref C))) (pg : PySem.W.plainGet K C Str.empty = true) (hd : PySem.W.hasDictIn K C = true) (po : PySem.W.plainOver K C = true)
    (sa : PySem.W.findIn K (.ref C) "__setattr__" = some (some (.builtin "object.__setattr__"))) (mk : PySem.W.makesIn K C = true) (kp : PySem.W.keepIn K (.ref C) = true) : ClsAt K mg x C := ⟨⟨pg, hd, po, sa⟩, mk, kp, PySem.W.mg_of X G g⟩
theorem met_mk (a : PySem.W.findIn K (.ref C) m = some (some (.ref f))) (i : PySem.W.isFn K (.ref f) = true) (l : K.lookup f = some ⟨oc, od, .func (PySem.W.fnOf m qual (defArgs st) (defBody st) (defScope st) .none kV doc pm an cdv ct), osl⟩)
    (c : PySem.W.codeIn K cdv qual = true) (k : PySem.W.keepIn K (.ref f) = true)
    (hb : ∀ (kV doc pm : Value) (an : Option Addr) (cdv ct : Value) (us : List Value), us.length = ps.length → bindArgs (PySem.W.fnOf m qual (defArgs st) (defBody st) (defScope st) .none kV doc pm an cdv ct) ⟨us, []⟩ = pure (ps.zip us)) : MAt K C m qual st ps := by
  have F := fun_mk (st := st) l c k
  exact ⟨f, _, F, ⟨a, i, k⟩, F.binds hb⟩
/-- one default, an int -/
theorem metD_mk {d : Int} {t : Tok} {n : Nat} (a : PySem.W.findIn K (.ref C) m = some (some (.ref f))) (i : PySem.W.isFn K (.ref f) = true) (l : K.lookup f = some ⟨oc, od, .func (PySem.W.fnOf m qual (defArgs st) (defBody st) (defScope st) (.ref T) kV doc pm an cdv ct), osl⟩)
    (lT : K.lookup T = some ⟨oc', od', .seq #[.int d t] n, osl'⟩)
    (c : PySem.W.codeIn K cdv qual = true) (k : PySem.W.keepIn K (.ref f) = true) (j : Nat) (hn : j + 1 = ps.length)
    (hb : ∀ (T : Addr) (kV doc pm : Value) (an : Option Addr) (cdv ct : Value) (us its : List Value), us.length = j → its.length = 1 →
      ∃ k, bindArgs (PySem.W.fnOf m qual (defArgs st) (defBody st) (defScope st) (.ref T) kV doc pm an cdv ct) ⟨us, []⟩ = seqItems? (.ref T) >>= k ∧ k (some its.toArray) = pure (ps.zip (us ++ its.drop 0))) : MAtD K C m qual st ps [.int d] := by
  have F : FunD K m qual (defArgs st) (defBody st) (defScope st) [.int d] [] f (PySem.W.fnOf m qual (defArgs st) (defBody st) (defScope st) (.ref T) kV doc pm an cdv ct) :=
    ⟨⟨oc, od, .ref T, kV, doc, pm, an, cdv, ct, osl, rfl, l, c, .inr ⟨List.cons_ne_nil _ _, T, _, [.int d t], n, rfl, lT, rfl, .cons ⟨t, rfl⟩ .nil⟩, .inl rfl⟩, k⟩
  obtain ⟨ds, v, b⟩ := F.binds1 (ps := ps) j 0 (List.cons_ne_nil _ _) hn hb
  exact ⟨f, _, ds, F, ⟨a, i, k⟩, b, v⟩
theorem smet_mk (a : PySem.W.findCls K (.ref C) (.type "type") m = some (.get (.builtin "staticmethod.__get__") (.ref p) .none (.ref C))) (r : PySem.W.recIn K p "staticmethod" = some (.ref f :: rest))
    (l : K.lookup f = some ⟨oc, od, .func (PySem.W.fnOf m qual (defArgs st) (defBody st) (defScope st) .none kV doc pm an cdv ct), osl⟩)
    (c : PySem.W.codeIn K cdv qual = true) (k : PySem.W.keepIn K (.ref f) = true)
    (hb : ∀ (kV doc pm : Value) (an : Option Addr) (cdv ct : Value) (us : List Value), us.length = ps.length → bindArgs (PySem.W.fnOf m qual (defArgs st) (defBody st) (defScope st) .none kV doc pm an cdv ct) ⟨us, []⟩ = pure (ps.zip us)) : SAt K C m qual st ps := by
  have F := fun_mk (st := st) l c k
  exact ⟨f, _, F, ⟨p, rest, a, r⟩, F.binds hb⟩
theorem int_mk {i : Int} {t : Tok} (X : K.In h) (G : h.Ns mainGlobals mg) (g : PySem.W.nsIn K mainGlobals x = some (some (.int i t))) : ∃ t, mg x = some (.int i t) := ⟨t, PySem.W.mg_of X G g⟩
theorem str_mk {z : Str} {t : Tok} (X : K.In h) (G : h.Ns mainGlobals mg) (g : PySem.W.nsIn K mainGlobals x = some (some (.str z t))) : ∃ t, mg x = some (.str z t) := ⟨t, PySem.W.mg_of X G g⟩
theorem cval_mk {i : Int} {t : Tok} (g : PySem.W.findCls K (.ref C) (.type "type") x = some (.val (.int i t))) : ∃ t, ClX.CVal K C (.type "type") x (.int i) (.int i t) := ⟨t, g, ⟨t, rfl⟩⟩
theorem tup4s_mk {a b c d : Str} {t0 t1 t2 t3 : Tok} {n : Nat} (l : K.lookup T = some ⟨.type "tuple", none, .seq #[.str a t0, .str b t1, .str c t2, .str d t3] n, osl⟩) : ∀ H, SqT K H T (([a, b, c, d]).map V.str) := fun H =>
  .inr ⟨_, _, _, l, rfl, rfl, by show 4 ≤ sizeLine; exact sz4_, .cons ⟨_, rfl⟩ (.cons ⟨_, rfl⟩ (.cons ⟨_, rfl⟩ (.cons ⟨_, rfl⟩ .nil)))⟩
theorem tup4r_mk {a b c d : Addr} {n : Nat} (l : K.lookup T = some ⟨.type "tuple", none, .seq #[.ref a, .ref b, .ref c, .ref d] n, osl⟩) : ∀ H, SqT K H T [.ref a, .ref b, .ref c, .ref d] := fun H =>
  .inr ⟨_, _, _, l, rfl, rfl, by show 4 ≤ sizeLine; exact sz4_, .cons rfl (.cons rfl (.cons rfl (.cons rfl .nil)))⟩
theorem tupk_mk {its : Array Value} {n : Nat} (l : K.lookup T = some ⟨.type "tuple", none, .seq its n, osl⟩) : ∃ o, K.lookup T = some o ∧ o.cls = .type "tuple" ∧ o.dict = none := ⟨_, l, rfl, rfl⟩
end
end DP
namespace DP
open PySem PySem.Spec PyProof.Rows L2
structure PF (K : PySem.W.Frag) (mg : Str → Option Value) (CL CS CT CR CP CW : Addr) : Prop where
  p_names_of : At K mg "names_of" s_names_of ["things"]
  p_read_light : At K mg "read_light" s_read_light ["line", "horizon"]
  p_read_satellite : At K mg "read_satellite" s_read_satellite ["line", "horizon", "things"]
  p_read_station : At K mg "read_station" s_read_station ["line", "_", "things"]
  p_read_recording : At K mg "read_recording" s_read_recording ["line", "horizon", "things"]
  p_read_pass : At K mg "read_pass" s_read_pass ["line", "horizon", "things"]
  p_most_things : At K mg "most_things" s_most_things ["sort"]
  p_read_sort : At K mg "read_sort" s_read_sort ["line", "ahead", "things"]
  p_read_things : At K mg "read_things" s_read_things ["lines", "horizon"]
  p_lines_of : At K mg "lines_of" s_lines_of ["text"]
  p_is_name : At K mg "is_name" s_is_name ["word"]
  p_is_number : At K mg "is_number" s_is_number ["word"]
  p_Line___init__ : MAt K CL "__init__" "Line.__init__" s_Line___init__ ["self", "number", "row"]
  p_Line_has_more : MAt K CL "has_more" "Line.has_more" s_Line_has_more ["self"]
  p_Line_due : MAt K CL "due" "Line.due" s_Line_due ["self"]
  p_Line_step : MAt K CL "step" "Line.step" s_Line_step ["self"]
  p_Line_read_choice : MAt K CL "read_choice" "Line.read_choice" s_Line_read_choice ["self", "choices"]
  p_Line_read_number : MAt K CL "read_number" "Line.read_number" s_Line_read_number ["self", "least", "most"]
  p_Line_read_field : MAt K CL "read_field" "Line.read_field" s_Line_read_field ["self", "word", "least", "most"]
  p_Line_due_name : MAt K CL "due_name" "Line.due_name" s_Line_due_name ["self"]
  p_Line_read_new_name : MAt K CL "read_new_name" "Line.read_new_name" s_Line_read_new_name ["self", "used"]
  p_Line_read_known_name : MAtD K CL "read_known_name" "Line.read_known_name" s_Line_read_known_name ["self", "names", "least"] [.int 0]
  p_Line_finish : MAt K CL "finish" "Line.finish" s_Line_finish ["self"]
  p_Satellite___init__ : MAt K CS "__init__" "Satellite.__init__" s_Satellite___init__ ["self", "name", "store", "battery", "start_level", "reserve", "charge", "settle", "light"]
  p_Station___init__ : MAt K CT "__init__" "Station.__init__" s_Station___init__ ["self", "name", "antennas", "turn"]
  p_Recording___init__ : MAt K CR "__init__" "Recording.__init__" s_Recording___init__ ["self", "name", "satellite", "earliest", "latest", "length", "size", "energy", "worth", "rank", "deadline"]
  p_Pass___init__ : MAt K CP "__init__" "Pass.__init__" s_Pass___init__ ["self", "name", "satellite", "station", "span", "room", "energy", "fee"]
  p_World___init__ : MAt K CW "__init__" "World.__init__" s_World___init__ ["self", "text", "horizon", "things"]
  p_World_parse : SAt K CW "parse" "World.parse" s_World_parse ["text"]
theorem hb_names_of : ∀ (kV doc pm : Value) (an : Option Addr) (cdv ct : Value) (us : List Value), us.length = (["things"] : List Str).length → bindArgs (PySem.W.fnOf "names_of" "names_of" (defArgs s_names_of) (defBody s_names_of) (defScope s_names_of) .none kV doc pm an cdv ct) ⟨us, []⟩ = pure ((["things"] : List Str).zip us) :=
  fun _ _ _ _ _ _ us hl => match us, hl with | [_], _ => rfl
theorem hb_read_light : ∀ (kV doc pm : Value) (an : Option Addr) (cdv ct : Value) (us : List Value), us.length = (["line", "horizon"] : List Str).length → bindArgs (PySem.W.fnOf "read_light" "read_light" (defArgs s_read_light) (defBody s_read_light) (defScope s_read_light) .none kV doc pm an cdv ct) ⟨us, []⟩ = pure ((["line", "horizon"] : List Str).zip us) :=
  fun _ _ _ _ _ _ us hl => match us, hl with | [_, _], _ => rfl
theorem hb_read_satellite : ∀ (kV doc pm : Value) (an : Option Addr) (cdv ct : Value) (us : List Value), us.length = (["line", "horizon", "things"] : List Str).length → bindArgs (PySem.W.fnOf "read_satellite" "read_satellite" (defArgs s_read_satellite) (defBody s_read_satellite) (defScope s_read_satellite) .none kV doc pm an cdv ct) ⟨us, []⟩ = pure ((["line", "horizon", "things"] : List Str).zip us) :=
  fun _ _ _ _ _ _ us hl => match us, hl with | [_, _, _], _ => rfl
theorem hb_read_station : ∀ (kV doc pm : Value) (an : Option Addr) (cdv ct : Value) (us : List Value), us.length = (["line", "_", "things"] : List Str).length → bindArgs (PySem.W.fnOf "read_station" "read_station" (defArgs s_read_station) (defBody s_read_station) (defScope s_read_station) .none kV doc pm an cdv ct) ⟨us, []⟩ = pure ((["line", "_", "things"] : List Str).zip us) :=
  fun _ _ _ _ _ _ us hl => match us, hl with | [_, _, _], _ => rfl
theorem hb_read_recording : ∀ (kV doc pm : Value) (an : Option Addr) (cdv ct : Value) (us : List Value), us.length = (["line", "horizon", "things"] : List Str).length → bindArgs (PySem.W.fnOf "read_recording" "read_recording" (defArgs s_read_recording) (defBody s_read_recording) (defScope s_read_recording) .none kV doc pm an cdv ct) ⟨us, []⟩ = pure ((["line", "horizon", "things"] : List Str).zip us) :=
  fun _ _ _ _ _ _ us hl => match us, hl with | [_, _, _], _ => rfl
theorem hb_read_pass : ∀ (kV doc pm : Value) (an : Option Addr) (cdv ct : Value) (us : List Value), us.length = (["line", "horizon", "things"] : List Str).length → bindArgs (PySem.W.fnOf "read_pass" "read_pass" (defArgs s_read_pass) (defBody s_read_pass) (defScope s_read_pass) .none kV doc pm an cdv ct) ⟨us, []⟩ = pure ((["line", "horizon", "things"] : List Str).zip us) :=
  fun _ _ _ _ _ _ us hl => match us, hl with | [_, _, _], _ => rfl
theorem hb_most_things : ∀ (kV doc pm : Value) (an : Option Addr) (cdv ct : Value) (us : List Value), us.length = (["sort"] : List Str).length → bindArgs (PySem.W.fnOf "most_things" "most_things" (defArgs s_most_things) (defBody s_most_things) (defScope s_most_things) .none kV doc pm an cdv ct) ⟨us, []⟩ = pure ((["sort"] : List Str).zip us) :=
  fun _ _ _ _ _ _ us hl => match us, hl with | [_], _ => rfl
theorem hb_read_sort : ∀ (kV doc pm : Value) (an : Option Addr) (cdv ct : Value) (us : List Value), us.length = (["line", "ahead", "things"] : List Str).length → bindArgs (PySem.W.fnOf "read_sort" "read_sort" (defArgs s_read_sort) (defBody s_read_sort) (defScope s_read_sort) .none kV doc pm an cdv ct) ⟨us, []⟩ = pure ((["line", "ahead", "things"] : List Str).zip us) :=
  fun _ _ _ _ _ _ us hl => match us, hl with | [_, _, _], _ => rfl
theorem hb_read_things : ∀ (kV doc pm : Value) (an : Option Addr) (cdv ct : Value) (us : List Value), us.length = (["lines", "horizon"] : List Str).length → bindArgs (PySem.W.fnOf "read_things" "read_things" (defArgs s_read_things) (defBody s_read_things) (defScope s_read_things) .none kV doc pm an cdv ct) ⟨us, []⟩ = pure ((["lines", "horizon"] : List Str).zip us) :=
  fun _ _ _ _ _ _ us hl => match us, hl with | [_, _], _ => rfl
theorem hb_lines_of : ∀ (kV doc pm : Value) (an : Option Addr) (cdv ct : Value) (us : List Value), us.length = (["text"] : List Str).length → bindArgs (PySem.W.fnOf "lines_of" "lines_of" (defArgs s_lines_of) (defBody s_lines_of) (defScope s_lines_of) .none kV doc pm an cdv ct) ⟨us, []⟩ = pure ((["text"] : List Str).zip us) :=
  fun _ _ _ _ _ _ us hl => match us, hl with | [_], _ => rfl
theorem hb_is_name : ∀ (kV doc pm : Value) (an : Option Addr) (cdv ct : Value) (us : List Value), us.length = (["word"] : List Str).length → bindArgs (PySem.W.fnOf "is_name" "is_name" (defArgs s_is_name) (defBody s_is_name) (defScope s_is_name) .none kV doc pm an cdv ct) ⟨us, []⟩ = pure ((["word"] : List Str).zip us) :=
  fun _ _ _ _ _ _ us hl => match us, hl with | [_], _ => rfl
theorem hb_is_number : ∀ (kV doc pm : Value) (an : Option Addr) (cdv ct : Value) (us : List Value), us.length = (["word"] : List Str).length → bindArgs (PySem.W.fnOf "is_number" "is_number" (defArgs s_is_number) (defBody s_is_number) (defScope s_is_number) .none kV doc pm an cdv ct) ⟨us, []⟩ = pure ((["word"] : List Str).zip us) :=
  fun _ _ _ _ _ _ us hl => match us, hl with | [_], _ => rfl
theorem hb_Line___init__ : ∀ (kV doc pm : Value) (an : Option Addr) (cdv ct : Value) (us : List Value), us.length = (["self", "number", "row"] : List Str).length → bindArgs (PySem.W.fnOf "__init__" "Line.__init__" (defArgs s_Line___init__) (defBody s_Line___init__) (defScope s_Line___init__) .none kV doc pm an cdv ct) ⟨us, []⟩ = pure ((["self", "number", "row"] : List Str).zip us) :=
  fun _ _ _ _ _ _ us hl => match us, hl with | [_, _, _], _ => rfl
theorem hb_Line_has_more : ∀ (kV doc pm : Value) (an : Option Addr) (cdv ct : Value) (us : List Value), us.length = (["self"] : List Str).length → bindArgs (PySem.W.fnOf "has_more" "Line.has_more" (defArgs s_Line_has_more) (defBody s_Line_has_more) (defScope s_Line_has_more) .none kV doc pm an cdv ct) ⟨us, []⟩ = pure ((["self"] : List Str).zip us) :=
  fun _ _ _ _ _ _ us hl => match us, hl with | [_], _ => rfl
theorem hb_Line_due : ∀ (kV doc pm : Value) (an : Option Addr) (cdv ct : Value) (us : List Value), us.length = (["self"] : List Str).length → bindArgs (PySem.W.fnOf "due" "Line.due" (defArgs s_Line_due) (defBody s_Line_due) (defScope s_Line_due) .none kV doc pm an cdv ct) ⟨us, []⟩ = pure ((["self"] : List Str).zip us) :=
  fun _ _ _ _ _ _ us hl => match us, hl with | [_], _ => rfl
theorem hb_Line_step : ∀ (kV doc pm : Value) (an : Option Addr) (cdv ct : Value) (us : List Value), us.length = (["self"] : List Str).length → bindArgs (PySem.W.fnOf "step" "Line.step" (defArgs s_Line_step) (defBody s_Line_step) (defScope s_Line_step) .none kV doc pm an cdv ct) ⟨us, []⟩ = pure ((["self"] : List Str).zip us) :=
  fun _ _ _ _ _ _ us hl => match us, hl with | [_], _ => rfl
theorem hb_Line_read_choice : ∀ (kV doc pm : Value) (an : Option Addr) (cdv ct : Value) (us : List Value), us.length = (["self", "choices"] : List Str).length → bindArgs (PySem.W.fnOf "read_choice" "Line.read_choice" (defArgs s_Line_read_choice) (defBody s_Line_read_choice) (defScope s_Line_read_choice) .none kV doc pm an cdv ct) ⟨us, []⟩ = pure ((["self", "choices"] : List Str).zip us) :=
  fun _ _ _ _ _ _ us hl => match us, hl with | [_, _], _ => rfl
theorem hb_Line_read_number : ∀ (kV doc pm : Value) (an : Option Addr) (cdv ct : Value) (us : List Value), us.length = (["self", "least", "most"] : List Str).length → bindArgs (PySem.W.fnOf "read_number" "Line.read_number" (defArgs s_Line_read_number) (defBody s_Line_read_number) (defScope s_Line_read_number) .none kV doc pm an cdv ct) ⟨us, []⟩ = pure ((["self", "least", "most"] : List Str).zip us) :=
  fun _ _ _ _ _ _ us hl => match us, hl with | [_, _, _], _ => rfl
theorem hb_Line_read_field : ∀ (kV doc pm : Value) (an : Option Addr) (cdv ct : Value) (us : List Value), us.length = (["self", "word", "least", "most"] : List Str).length → bindArgs (PySem.W.fnOf "read_field" "Line.read_field" (defArgs s_Line_read_field) (defBody s_Line_read_field) (defScope s_Line_read_field) .none kV doc pm an cdv ct) ⟨us, []⟩ = pure ((["self", "word", "least", "most"] : List Str).zip us) :=
  fun _ _ _ _ _ _ us hl => match us, hl with | [_, _, _, _], _ => rfl
theorem hb_Line_due_name : ∀ (kV doc pm : Value) (an : Option Addr) (cdv ct : Value) (us : List Value), us.length = (["self"] : List Str).length → bindArgs (PySem.W.fnOf "due_name" "Line.due_name" (defArgs s_Line_due_name) (defBody s_Line_due_name) (defScope s_Line_due_name) .none kV doc pm an cdv ct) ⟨us, []⟩ = pure ((["self"] : List Str).zip us) :=
  fun _ _ _ _ _ _ us hl => match us, hl with | [_], _ => rfl
theorem hb_Line_read_new_name : ∀ (kV doc pm : Value) (an : Option Addr) (cdv ct : Value) (us : List Value), us.length = (["self", "used"] : List Str).length → bindArgs (PySem.W.fnOf "read_new_name" "Line.read_new_name" (defArgs s_Line_read_new_name) (defBody s_Line_read_new_name) (defScope s_Line_read_new_name) .none kV doc pm an cdv ct) ⟨us, []⟩ = pure ((["self", "used"] : List Str).zip us) :=
  fun _ _ _ _ _ _ us hl => match us, hl with | [_, _], _ => rfl
theorem hb_Line_read_known_name : ∀ (T : Addr) (kV doc pm : Value) (an : Option Addr) (cdv ct : Value) (us its : List Value), us.length = 2 → its.length = 1 →
    ∃ k, bindArgs (PySem.W.fnOf "read_known_name" "Line.read_known_name" (defArgs s_Line_read_known_name) (defBody s_Line_read_known_name) (defScope s_Line_read_known_name) (.ref T) kV doc pm an cdv ct) ⟨us, []⟩ = seqItems? (.ref T) >>= k ∧ k (some its.toArray) = pure ((["self", "names", "least"] : List Str).zip (us ++ its.drop 0)) :=
  fun _ _ _ _ _ _ _ us its h1 h2 => match us, its, h1, h2 with | [_, _], [_], _, _ => ⟨_, rfl, rfl⟩
theorem hb_Line_finish : ∀ (kV doc pm : Value) (an : Option Addr) (cdv ct : Value) (us : List Value), us.length = (["self"] : List Str).length → bindArgs (PySem.W.fnOf "finish" "Line.finish" (defArgs s_Line_finish) (defBody s_Line_finish) (defScope s_Line_finish) .none kV doc pm an cdv ct) ⟨us, []⟩ = pure ((["self"] : List Str).zip us) :=
  fun _ _ _ _ _ _ us hl => match us, hl with | [_], _ => rfl
theorem hb_Satellite___init__ : ∀ (kV doc pm : Value) (an : Option Addr) (cdv ct : Value) (us : List Value), us.length = (["self", "name", "store", "battery", "start_level", "reserve", "charge", "settle", "light"] : List Str).length → bindArgs (PySem.W.fnOf "__init__" "Satellite.__init__" (defArgs s_Satellite___init__) (defBody s_Satellite___init__) (defScope s_Satellite___init__) .none kV doc pm an cdv ct) ⟨us, []⟩ = pure ((["self", "name", "store", "battery", "start_level", "reserve", "charge", "settle", "light"] : List Str).zip us) :=
  fun _ _ _ _ _ _ us hl => match us, hl with | [_, _, _, _, _, _, _, _, _], _ => rfl
theorem hb_Station___init__ : ∀ (kV doc pm : Value) (an : Option Addr) (cdv ct : Value) (us : List Value), us.length = (["self", "name", "antennas", "turn"] : List Str).length → bindArgs (PySem.W.fnOf "__init__" "Station.__init__" (defArgs s_Station___init__) (defBody s_Station___init__) (defScope s_Station___init__) .none kV doc pm an cdv ct) ⟨us, []⟩ = pure ((["self", "name", "antennas", "turn"] : List Str).zip us) :=
  fun _ _ _ _ _ _ us hl => match us, hl with | [_, _, _, _], _ => rfl
theorem hb_Recording___init__ : ∀ (kV doc pm : Value) (an : Option Addr) (cdv ct : Value) (us : List Value), us.length = (["self", "name", "satellite", "earliest", "latest", "length", "size", "energy", "worth", "rank", "deadline"] : List Str).length → bindArgs (PySem.W.fnOf "__init__" "Recording.__init__" (defArgs s_Recording___init__) (defBody s_Recording___init__) (defScope s_Recording___init__) .none kV doc pm an cdv ct) ⟨us, []⟩ = pure ((["self", "name", "satellite", "earliest", "latest", "length", "size", "energy", "worth", "rank", "deadline"] : List Str).zip us) :=
  fun _ _ _ _ _ _ us hl => match us, hl with | [_, _, _, _, _, _, _, _, _, _, _], _ => rfl
theorem hb_Pass___init__ : ∀ (kV doc pm : Value) (an : Option Addr) (cdv ct : Value) (us : List Value), us.length = (["self", "name", "satellite", "station", "span", "room", "energy", "fee"] : List Str).length → bindArgs (PySem.W.fnOf "__init__" "Pass.__init__" (defArgs s_Pass___init__) (defBody s_Pass___init__) (defScope s_Pass___init__) .none kV doc pm an cdv ct) ⟨us, []⟩ = pure ((["self", "name", "satellite", "station", "span", "room", "energy", "fee"] : List Str).zip us) :=
  fun _ _ _ _ _ _ us hl => match us, hl with | [_, _, _, _, _, _, _, _], _ => rfl
theorem hb_World___init__ : ∀ (kV doc pm : Value) (an : Option Addr) (cdv ct : Value) (us : List Value), us.length = (["self", "text", "horizon", "things"] : List Str).length → bindArgs (PySem.W.fnOf "__init__" "World.__init__" (defArgs s_World___init__) (defBody s_World___init__) (defScope s_World___init__) .none kV doc pm an cdv ct) ⟨us, []⟩ = pure ((["self", "text", "horizon", "things"] : List Str).zip us) :=
  fun _ _ _ _ _ _ us hl => match us, hl with | [_, _, _, _], _ => rfl
theorem hb_World_parse : ∀ (kV doc pm : Value) (an : Option Addr) (cdv ct : Value) (us : List Value), us.length = (["text"] : List Str).length → bindArgs (PySem.W.fnOf "parse" "World.parse" (defArgs s_World_parse) (defBody s_World_parse) (defScope s_World_parse) .none kV doc pm an cdv ct) ⟨us, []⟩ = pure ((["text"] : List Str).zip us) :=
  fun _ _ _ _ _ _ us hl => match us, hl with | [_], _ => rfl
section
variable {P : Program} {w : World} {K : PySem.W.Frag} {mg : Str → Option Value} {base : Heap} {CL CS CT CR CP CW aS aR fS fT fR fP : Addr}
theorem prog_parse (T : TxtW K mg CL CS CT CR CP CW aS aR fS fT fR fP) (F : PF K mg CL CS CT CR CP CW) : SDef P w K mg base CX0 7 CW "parse" ["text"] (spParse K CS CT CR CP CW) := by
  have L := T.L
  have B := L.B
  have D_init : MDef P w K mg base CX0 1 CL "__init__" _ [] _ := d_Line_init L F.p_Line___init__
  have D_has_more : MDef P w K mg base CX0 1 CL "has_more" _ [] _ := d_has_more L F.p_Line_has_more
  have D_due : MDef P w K mg base CX0 2 CL "due" _ [] _ := d_due L D_has_more F.p_Line_due
  have D_step : MDef P w K mg base CX0 1 CL "step" _ [] _ := d_step L F.p_Line_step
  have D_choice : MDef P w K mg base CX0 3 CL "read_choice" _ [] _ := d_read_choice L D_due D_step F.p_Line_read_choice
  have D_isnum : DefOk P w K mg base CX0 1 "is_number" _ _ := d_is_number L F.p_is_number
  have D_number : MDef P w K mg base CX0 3 CL "read_number" _ [] _ := d_read_number L D_isnum D_due D_step F.p_Line_read_number
  have D_field : MDef P w K mg base CX0 4 CL "read_field" _ [] _ := d_read_field L D_choice D_number F.p_Line_read_field
  have D_isname : DefOk P w K mg base CX0 1 "is_name" _ _ := d_is_name L F.p_is_name
  have D_due_name : MDef P w K mg base CX0 3 CL "due_name" _ [] _ := d_due_name L D_isname D_due F.p_Line_due_name
  have D_new : MDef P w K mg base CX0 4 CL "read_new_name" _ [] _ := d_read_new_name L D_due_name D_step F.p_Line_read_new_name
  have D_known : MDef P w K mg base CX0 4 CL "read_known_name" _ _ _ := d_read_known_name L D_due_name D_step F.p_Line_read_known_name
  have D_finish : MDef P w K mg base CX0 3 CL "finish" _ [] _ := d_finish L D_has_more F.p_Line_finish
  have D_lines : DefOk P w K mg base CX0 3 "lines_of" _ _ := d_lines_of L D_init F.p_lines_of
  have D_names : DefOk P w K mg base CX0 1 "names_of" _ _ := d_names_of B F.p_names_of
  have D_light : DefOk P w K mg base CX0 4 "read_light" _ _ := d_read_light T D_has_more D_number F.p_read_light
  have D1 : DefOk P w K mg base CX0 5 "read_satellite" _ _ := d_read_satellite T D_names D_new D_field D_choice D_light (dI_Satellite T F.p_Satellite___init__) F.p_read_satellite
  have D2 : DefOk P w K mg base CX0 5 "read_station" _ _ := d_read_station T D_names D_new D_field (dI_Station T F.p_Station___init__) F.p_read_station
  have D3 : DefOk P w K mg base CX0 5 "read_recording" _ _ := d_read_recording T D_names D_new D_field D_choice D_known (dI_Recording T F.p_Recording___init__) F.p_read_recording
  have D4 : DefOk P w K mg base CX0 5 "read_pass" _ _ := d_read_pass T D_names D_new D_field D_choice D_known (dI_Pass T F.p_Pass___init__) F.p_read_pass
  have D_most : DefOk P w K mg base CX0 1 "most_things" _ _ := d_most_things T F.p_most_things
  have D_sort : DefOk P w K mg base CX0 3 "read_sort" _ _ := d_read_sort T D_due D_step D_most F.p_read_sort
  have D_things : DefOk P w K mg base CX0 6 "read_things" _ _ := d_read_things T D_sort D1 D2 D3 D4
    (at_ne F.p_read_station F.p_read_satellite T.r_station T.r_satellite (by decide)) (at_ne F.p_read_recording F.p_read_satellite T.r_recording T.r_satellite (by decide)) (at_ne F.p_read_recording F.p_read_station T.r_recording T.r_station (by decide))
    (at_ne F.p_read_pass F.p_read_satellite T.r_pass T.r_satellite (by decide)) (at_ne F.p_read_pass F.p_read_station T.r_pass T.r_station (by decide)) (at_ne F.p_read_pass F.p_read_recording T.r_pass T.r_recording (by decide)) D_finish F.p_read_things
  exact d_parse T D_lines D_field D_finish D_things (dI_World T F.p_World___init__) F.p_World_parse
end
end DP
namespace DP
open PySem PySem.Spec PyProof.Rows L2
section
variable {P : Program} {w : World} {K : PySem.W.Frag} {mg : Str → Option Value} {base : Heap}
structure LawF (K : PySem.W.Frag) (mg : Str → Option Value) : Prop where
  (a1 : At K mg "_law_cell" s__law_cell ["script", "k"]) (a2 : At K mg "_law_draws" s__law_draws ["cell", "count"]) (a3 : At K mg "_law_stream" s__law_stream ["script", "first", "count"]) (a4 : At K mg "_law_next" s__law_next ["stream", "many"]) (a5 : At K mg "_law_word" s__law_word ["stream", "index"]) (a6 : At K mg "_law_satellite" s__law_satellite ["stream", "index", "horizon"]) (a7 : At K mg "_law_recording" s__law_recording ["stream", "index", "satellites", "horizon"]) (a8 : At K mg "_law_pass" s__law_pass ["stream", "index", "satellites", "stations", "horizon"]) (a9 : At K mg "_law_world" s__law_world ["script"]) (b1 : At K mg "_law_lines" s__law_lines ["world"]) (b2 : At K mg "_law_text" s__law_text ["world"]) (b4 : At K mg "_law_is_integer" s__law_is_integer ["actual"]) (b5 : At K mg "_law_same" s__law_same ["actual", "expected"])
theorem LawF.stream (B : Bt mg) (L : LawF K mg) : DefOk P w K mg base CX0 2 "_law_stream" ["script", "first", "count"] (spStream K) := d_stream (d_stream0 B (d_cell B L.a1) (d_draws B L.a2) L.a3)
theorem LawF.next (B : Bt mg) (L : LawF K mg) : DefOk P w K mg base CX0 1 "_law_next" ["stream", "many"] spNext := d_next (d_next0 B L.a4)
theorem LawF.word (B : Bt mg) (L : LawF K mg) : DefOk P w K mg base CX0 2 "_law_word" ["stream", "index"] spWord := d_word B (L.next B) L.a5
theorem LawF.world (B : Bt mg) (L : LawF K mg) : DefOk P w K mg base CX0 4 "_law_world" ["script"] (spWorld K) :=
  d_world B (L.stream B) (L.next B) (L.word B) (d_gsat B (L.next B) (L.word B) L.a6) (d_grec B (L.next B) (L.word B) L.a7) (d_gpas B (L.next B) (L.word B) L.a8) L.a9
theorem LawF.text (B : Bt mg) (L : LawF K mg) : DefOk P w K mg base CX0 2 "_law_text" ["world"] (spLawText K) := d_law_text B (d_law_lines B L.b1) L.b2
theorem LawF.same (B : Bt mg) (L : LawF K mg) : DefOk P w K mg base CX0 9 "_law_same" ["actual", "expected"] (spSame K 8) := d_same B (d_is_integer B L.b4) L.b5 8
end
end DP
namespace DP
open PySem PySem.Spec PyProof.Rows L2
theorem the_law {P : Program} {w : World} {K : PySem.W.Frag} {mg : Str → Option Value} {base : Heap} {CL CS CT CR CP CW aS aR fS fT fR fP CB : Addr} (T : TxtW K mg CL CS CT CR CP CW aS aR fS fT fR fP) (F : PF K mg CL CS CT CR CP CW)
    (a1 : At K mg "_law_cell" s__law_cell ["script", "k"]) (a2 : At K mg "_law_draws" s__law_draws ["cell", "count"]) (a3 : At K mg "_law_stream" s__law_stream ["script", "first", "count"]) (a4 : At K mg "_law_next" s__law_next ["stream", "many"]) (a5 : At K mg "_law_word" s__law_word ["stream", "index"]) (a6 : At K mg "_law_satellite" s__law_satellite ["stream", "index", "horizon"]) (a7 : At K mg "_law_recording" s__law_recording ["stream", "index", "satellites", "horizon"]) (a8 : At K mg "_law_pass" s__law_pass ["stream", "index", "satellites", "stations", "horizon"]) (a9 : At K mg "_law_world" s__law_world ["script"]) (b1 : At K mg "_law_lines" s__law_lines ["world"]) (b2 : At K mg "_law_text" s__law_text ["world"]) (b4 : At K mg "_law_is_integer" s__law_is_integer ["actual"]) (b5 : At K mg "_law_same" s__law_same ["actual", "expected"]) (f1 : At K mg "is_option" s_is_option ["world", "number", "pair"]) (f2 : At K mg "has_antenna" s_has_antenna ["world", "p", "antenna"]) (f3 : At K mg "is_filled" s_is_filled ["entry"]) (f4 : At K mg "made_recordings" s_made_recordings ["world", "case"]) (f5 : At K mg "taken_passes" s_taken_passes ["world", "case"]) (f6 : At K mg "busy_things" s_busy_things ["world", "case", "number"]) (f7 : At K mg "energy_of" s_energy_of ["world", "thing"]) (f8 : At K mg "spending" s_spending ["world", "case", "number"]) (f9 : At K mg "store_peaks" s_store_peaks ["world", "case", "number"]) (g0 : At K mg "battery_lows" s_battery_lows ["world", "case", "number"]) (g2 : At K mg "has_minute" s_has_minute ["span", "minute"]) (g3 : At K mg "minutes_within" s_minutes_within ["spans", "first", "end"]) (g4 : At K mg "light_minutes" s_light_minutes ["satellite", "first", "end"]) (l1 : At K mg "_law_options" s__law_options ["world", "number"]) (l2 : At K mg "_law_case" s__law_case ["script", "first", "world", "open_too"]) (l3 : At K mg "_law_is_light" s__law_is_light ["world", "s", "minute"]) (l4 : At K mg "_law_made" s__law_made ["world", "case", "s"]) (l5 : At K mg "_law_has_antenna" s__law_has_antenna ["world", "case", "p"]) (l6 : At K mg "_law_taken" s__law_taken ["world", "case", "s"]) (l7 : At K mg "_law_spent" s__law_spent ["world", "case", "s"]) (h3 : At K mg "is_tuple_of" s_is_tuple_of ["thing", "many"]) (h4 : At K mg "is_made_entry" s_is_made_entry ["world", "entry"]) (h5 : At K mg "is_taken_entry" s_is_taken_entry ["entry"]) (h6 : At K mg "check_case" s_check_case ["world", "case"])
    (r0 : At K mg "meet" s_meet ["one", "other"]) (r1 : At K mg "lengthened" s_lengthened ["span", "minutes"]) (r2 : At K mg "too_close" s_too_close ["span", "other", "minutes"]) (r3 : At K mg "recording_breaches" s_recording_breaches ["world", "case"]) (r4 : At K mg "sent_sizes" s_sent_sizes ["world", "case"]) (r5 : At K mg "pass_breaches" s_pass_breaches ["world", "case"]) (r6 : At K mg "on_one_antenna" s_on_one_antenna ["world", "case", "p", "other"]) (r7 : At K mg "too_close_to_turn" s_too_close_to_turn ["world", "p", "other"]) (r8 : At K mg "turn_breaches" s_turn_breaches ["world", "case"]) (r9 : At K mg "busy_breaches" s_busy_breaches ["world", "case", "number"]) (r10 : At K mg "unit_breaches" s_unit_breaches ["world", "case", "number"]) (r11 : At K mg "case_breaches" s_case_breaches ["world", "case"]) (r12 : At K mg "breaches" s_breaches ["world", "plan"]) (r13 : At K mg "keeps_rules" s_keeps_rules ["world", "plan"]) (r14 : At K mg "check_plan" s_check_plan ["world", "plan"])
    (m0 : At K mg "_law_used" s__law_used ["world", "case", "s"]) (m1 : At K mg "_law_levels" s__law_levels ["world", "case", "s"]) (m2 : At K mg "_law_meet" s__law_meet ["one", "other", "more"]) (m3 : At K mg "_law_things" s__law_things ["world", "case", "s"]) (m4 : At K mg "_law_first_breaches" s__law_first_breaches ["world", "case"]) (m5 : At K mg "_law_breaches" s__law_breaches ["world", "case"]) (v1 : At K mg "_law_told" s__law_told ["world", "case"]) (v2 : At K mg "_law_kept" s__law_kept ["world", "case"]) (z1 : At K mg "law" s_law ["script"]) (TO : TxtO mg) (TE : TxtE K mg CB) (BS : mg "sorted" = none) (BE : mg "set" = none) : DefOk P w K mg base CX0 11 "law" ["script"] (spLaw K) := by
  have B := T.L.B
  have L : LawF K mg := ⟨a1, a2, a3, a4, a5, a6, a7, a8, a9, b1, b2, b4, b5⟩
  have D_cell : DefOk P w K mg base CX0 1 "_law_cell" _ _ := d_cell B a1
  have D_filled : DefOk P w K mg base CX0 1 "is_filled" _ _ := d_is_filled B TO f3
  have D_isopt : DefOk P w K mg base CX0 1 "is_option" _ _ := d_is_option T f1
  have D_hasant : DefOk P w K mg base CX0 1 "has_antenna" _ _ := d_has_antenna T f2
  have D_made : DefOk P w K mg base CX0 2 "made_recordings" _ _ := d_made T D_filled D_isopt f4
  have D_taken : DefOk P w K mg base CX0 2 "taken_passes" _ _ := d_taken T D_filled D_hasant f5
  have D_busy : DefOk P w K mg base CX0 3 "busy_things" _ _ := d_busy T D_made D_taken f6
  have D_spending : DefOk P w K mg base CX0 4 "spending" _ _ := d_spending T D_busy (d_energy_of T f7) f8
  have D_lows : DefOk P w K mg base CX0 5 "battery_lows" _ _ := d_lows T BS D_spending (d_light_minutes T (d_minutes_within B g3) g4) g0
  have D_peaks : DefOk P w K mg base CX0 3 "store_peaks" _ _ := d_peaks T BS BE D_made (d_has_minute B g2) f9
  have D_tup : DefOk P w K mg base CX0 1 "is_tuple_of" _ _ := d_is_tuple_of B h3
  have D_check : DefOk P w K mg base CX0 3 "check_case" _ _ := d_check_case T D_tup (d_is_made_entry T TO D_tup h4) (d_is_taken_entry B TO h5) h6
  have D_checkp : DefOk P w K mg base (L2.CX P w) 4 "check_plan" _ _ := d_check_planX T TO TE D_check r14
  have D_close : DefOk P w K mg base CX0 2 "too_close" _ _ := d_too_close B (d_meet B r0) (d_lengthened B r1) r2
  have D_rec : DefOk P w K mg base CX0 2 "recording_breaches" _ _ := d_recbr T D_filled D_isopt r3
  have D_pas : DefOk P w K mg base CX0 4 "pass_breaches" _ _ := d_pasbr T (d_sizes T D_made r4) D_filled D_hasant r5
  have D_turn : DefOk P w K mg base CX0 4 "turn_breaches" _ _ := d_turnbr T D_taken (d_one T r6) (d_turn T D_close r7) r8
  have D_busyb : DefOk P w K mg base CX0 4 "busy_breaches" _ _ := d_busybr T D_busy D_close r9
  have D_unit : DefOk P w K mg base CX0 6 "unit_breaches" _ _ := d_unitbr T D_peaks D_lows r10
  have D_case : DefOk P w K mg base CX0 7 "case_breaches" _ _ := d_casebr T D_check D_rec D_pas D_turn D_busyb D_unit r11
  have D_br : DefOk P w K mg base (L2.CX P w) 8 "breaches" _ _ := d_breachesX T D_checkp D_case r12
  have D_keeps : DefOk P w K mg base (L2.CX P w) 9 "keeps_rules" _ _ := d_keepsX T D_br r13
  have D_lopt : DefOk P w K mg base CX0 1 "_law_options" _ _ := d_law_options B l1
  have D_lmade : DefOk P w K mg base CX0 2 "_law_made" _ _ := d_lmade B D_lopt l4
  have D_lant : DefOk P w K mg base CX0 1 "_law_has_antenna" _ _ := d_lant B l5
  have D_ltaken : DefOk P w K mg base CX0 2 "_law_taken" _ _ := d_ltaken B D_lant l6
  have D_lspent : DefOk P w K mg base CX0 3 "_law_spent" _ _ := d_lspent B D_lmade D_ltaken l7
  have D_lbr : DefOk P w K mg base CX0 5 "_law_breaches" _ _ := d_lbr B (d_lfirst B D_lopt D_lmade D_lant m4) D_lant (d_lmeet B m2) (d_lthings B D_lmade D_ltaken m3) (d_lused B D_lmade m0) (d_llevels B D_lspent (d_is_light B l3) m1) m5
  exact d_law T (L.world B) (L.text B) (d_case B (L.stream B) (L.next B) D_lopt l2) (L.same B) D_lbr D_case (d_told T TE D_br v1) (d_kept T TE D_keeps v2) (prog_parse T F) z1
theorem hb__law_cell : ∀ (kV doc pm : Value) (an : Option Addr) (cdv ct : Value) (us : List Value), us.length = (["script", "k"] : List Str).length → bindArgs (PySem.W.fnOf "_law_cell" "_law_cell" (defArgs s__law_cell) (defBody s__law_cell) (defScope s__law_cell) .none kV doc pm an cdv ct) ⟨us, []⟩ = pure ((["script", "k"] : List Str).zip us) :=
  fun _ _ _ _ _ _ us hl => match us, hl with | [_, _], _ => rfl
theorem hb__law_draws : ∀ (kV doc pm : Value) (an : Option Addr) (cdv ct : Value) (us : List Value), us.length = (["cell", "count"] : List Str).length → bindArgs (PySem.W.fnOf "_law_draws" "_law_draws" (defArgs s__law_draws) (defBody s__law_draws) (defScope s__law_draws) .none kV doc pm an cdv ct) ⟨us, []⟩ = pure ((["cell", "count"] : List Str).zip us) :=
  fun _ _ _ _ _ _ us hl => match us, hl with | [_, _], _ => rfl
theorem hb__law_stream : ∀ (kV doc pm : Value) (an : Option Addr) (cdv ct : Value) (us : List Value), us.length = (["script", "first", "count"] : List Str).length → bindArgs (PySem.W.fnOf "_law_stream" "_law_stream" (defArgs s__law_stream) (defBody s__law_stream) (defScope s__law_stream) .none kV doc pm an cdv ct) ⟨us, []⟩ = pure ((["script", "first", "count"] : List Str).zip us) :=
  fun _ _ _ _ _ _ us hl => match us, hl with | [_, _, _], _ => rfl
theorem hb__law_next : ∀ (kV doc pm : Value) (an : Option Addr) (cdv ct : Value) (us : List Value), us.length = (["stream", "many"] : List Str).length → bindArgs (PySem.W.fnOf "_law_next" "_law_next" (defArgs s__law_next) (defBody s__law_next) (defScope s__law_next) .none kV doc pm an cdv ct) ⟨us, []⟩ = pure ((["stream", "many"] : List Str).zip us) :=
  fun _ _ _ _ _ _ us hl => match us, hl with | [_, _], _ => rfl
theorem hb__law_word : ∀ (kV doc pm : Value) (an : Option Addr) (cdv ct : Value) (us : List Value), us.length = (["stream", "index"] : List Str).length → bindArgs (PySem.W.fnOf "_law_word" "_law_word" (defArgs s__law_word) (defBody s__law_word) (defScope s__law_word) .none kV doc pm an cdv ct) ⟨us, []⟩ = pure ((["stream", "index"] : List Str).zip us) :=
  fun _ _ _ _ _ _ us hl => match us, hl with | [_, _], _ => rfl
theorem hb__law_satellite : ∀ (kV doc pm : Value) (an : Option Addr) (cdv ct : Value) (us : List Value), us.length = (["stream", "index", "horizon"] : List Str).length → bindArgs (PySem.W.fnOf "_law_satellite" "_law_satellite" (defArgs s__law_satellite) (defBody s__law_satellite) (defScope s__law_satellite) .none kV doc pm an cdv ct) ⟨us, []⟩ = pure ((["stream", "index", "horizon"] : List Str).zip us) :=
  fun _ _ _ _ _ _ us hl => match us, hl with | [_, _, _], _ => rfl
theorem hb__law_recording : ∀ (kV doc pm : Value) (an : Option Addr) (cdv ct : Value) (us : List Value), us.length = (["stream", "index", "satellites", "horizon"] : List Str).length → bindArgs (PySem.W.fnOf "_law_recording" "_law_recording" (defArgs s__law_recording) (defBody s__law_recording) (defScope s__law_recording) .none kV doc pm an cdv ct) ⟨us, []⟩ = pure ((["stream", "index", "satellites", "horizon"] : List Str).zip us) :=
  fun _ _ _ _ _ _ us hl => match us, hl with | [_, _, _, _], _ => rfl
theorem hb__law_pass : ∀ (kV doc pm : Value) (an : Option Addr) (cdv ct : Value) (us : List Value), us.length = (["stream", "index", "satellites", "stations", "horizon"] : List Str).length → bindArgs (PySem.W.fnOf "_law_pass" "_law_pass" (defArgs s__law_pass) (defBody s__law_pass) (defScope s__law_pass) .none kV doc pm an cdv ct) ⟨us, []⟩ = pure ((["stream", "index", "satellites", "stations", "horizon"] : List Str).zip us) :=
  fun _ _ _ _ _ _ us hl => match us, hl with | [_, _, _, _, _], _ => rfl
theorem hb__law_world : ∀ (kV doc pm : Value) (an : Option Addr) (cdv ct : Value) (us : List Value), us.length = (["script"] : List Str).length → bindArgs (PySem.W.fnOf "_law_world" "_law_world" (defArgs s__law_world) (defBody s__law_world) (defScope s__law_world) .none kV doc pm an cdv ct) ⟨us, []⟩ = pure ((["script"] : List Str).zip us) :=
  fun _ _ _ _ _ _ us hl => match us, hl with | [_], _ => rfl
theorem hb__law_lines : ∀ (kV doc pm : Value) (an : Option Addr) (cdv ct : Value) (us : List Value), us.length = (["world"] : List Str).length → bindArgs (PySem.W.fnOf "_law_lines" "_law_lines" (defArgs s__law_lines) (defBody s__law_lines) (defScope s__law_lines) .none kV doc pm an cdv ct) ⟨us, []⟩ = pure ((["world"] : List Str).zip us) :=
  fun _ _ _ _ _ _ us hl => match us, hl with | [_], _ => rfl
theorem hb__law_text : ∀ (kV doc pm : Value) (an : Option Addr) (cdv ct : Value) (us : List Value), us.length = (["world"] : List Str).length → bindArgs (PySem.W.fnOf "_law_text" "_law_text" (defArgs s__law_text) (defBody s__law_text) (defScope s__law_text) .none kV doc pm an cdv ct) ⟨us, []⟩ = pure ((["world"] : List Str).zip us) :=
  fun _ _ _ _ _ _ us hl => match us, hl with | [_], _ => rfl
theorem hb__law_is_integer : ∀ (kV doc pm : Value) (an : Option Addr) (cdv ct : Value) (us : List Value), us.length = (["actual"] : List Str).length → bindArgs (PySem.W.fnOf "_law_is_integer" "_law_is_integer" (defArgs s__law_is_integer) (defBody s__law_is_integer) (defScope s__law_is_integer) .none kV doc pm an cdv ct) ⟨us, []⟩ = pure ((["actual"] : List Str).zip us) :=
  fun _ _ _ _ _ _ us hl => match us, hl with | [_], _ => rfl
theorem hb__law_same : ∀ (kV doc pm : Value) (an : Option Addr) (cdv ct : Value) (us : List Value), us.length = (["actual", "expected"] : List Str).length → bindArgs (PySem.W.fnOf "_law_same" "_law_same" (defArgs s__law_same) (defBody s__law_same) (defScope s__law_same) .none kV doc pm an cdv ct) ⟨us, []⟩ = pure ((["actual", "expected"] : List Str).zip us) :=
  fun _ _ _ _ _ _ us hl => match us, hl with | [_, _], _ => rfl
theorem hb_is_option : ∀ (kV doc pm : Value) (an : Option Addr) (cdv ct : Value) (us : List Value), us.length = (["world", "number", "pair"] : List Str).length → bindArgs (PySem.W.fnOf "is_option" "is_option" (defArgs s_is_option) (defBody s_is_option) (defScope s_is_option) .none kV doc pm an cdv ct) ⟨us, []⟩ = pure ((["world", "number", "pair"] : List Str).zip us) :=
  fun _ _ _ _ _ _ us hl => match us, hl with | [_, _, _], _ => rfl
theorem hb_has_antenna : ∀ (kV doc pm : Value) (an : Option Addr) (cdv ct : Value) (us : List Value), us.length = (["world", "p", "antenna"] : List Str).length → bindArgs (PySem.W.fnOf "has_antenna" "has_antenna" (defArgs s_has_antenna) (defBody s_has_antenna) (defScope s_has_antenna) .none kV doc pm an cdv ct) ⟨us, []⟩ = pure ((["world", "p", "antenna"] : List Str).zip us) :=
  fun _ _ _ _ _ _ us hl => match us, hl with | [_, _, _], _ => rfl
theorem hb_is_filled : ∀ (kV doc pm : Value) (an : Option Addr) (cdv ct : Value) (us : List Value), us.length = (["entry"] : List Str).length → bindArgs (PySem.W.fnOf "is_filled" "is_filled" (defArgs s_is_filled) (defBody s_is_filled) (defScope s_is_filled) .none kV doc pm an cdv ct) ⟨us, []⟩ = pure ((["entry"] : List Str).zip us) :=
  fun _ _ _ _ _ _ us hl => match us, hl with | [_], _ => rfl
theorem hb_made_recordings : ∀ (kV doc pm : Value) (an : Option Addr) (cdv ct : Value) (us : List Value), us.length = (["world", "case"] : List Str).length → bindArgs (PySem.W.fnOf "made_recordings" "made_recordings" (defArgs s_made_recordings) (defBody s_made_recordings) (defScope s_made_recordings) .none kV doc pm an cdv ct) ⟨us, []⟩ = pure ((["world", "case"] : List Str).zip us) :=
  fun _ _ _ _ _ _ us hl => match us, hl with | [_, _], _ => rfl
theorem hb_taken_passes : ∀ (kV doc pm : Value) (an : Option Addr) (cdv ct : Value) (us : List Value), us.length = (["world", "case"] : List Str).length → bindArgs (PySem.W.fnOf "taken_passes" "taken_passes" (defArgs s_taken_passes) (defBody s_taken_passes) (defScope s_taken_passes) .none kV doc pm an cdv ct) ⟨us, []⟩ = pure ((["world", "case"] : List Str).zip us) :=
  fun _ _ _ _ _ _ us hl => match us, hl with | [_, _], _ => rfl
theorem hb_busy_things : ∀ (kV doc pm : Value) (an : Option Addr) (cdv ct : Value) (us : List Value), us.length = (["world", "case", "number"] : List Str).length → bindArgs (PySem.W.fnOf "busy_things" "busy_things" (defArgs s_busy_things) (defBody s_busy_things) (defScope s_busy_things) .none kV doc pm an cdv ct) ⟨us, []⟩ = pure ((["world", "case", "number"] : List Str).zip us) :=
  fun _ _ _ _ _ _ us hl => match us, hl with | [_, _, _], _ => rfl
theorem hb_energy_of : ∀ (kV doc pm : Value) (an : Option Addr) (cdv ct : Value) (us : List Value), us.length = (["world", "thing"] : List Str).length → bindArgs (PySem.W.fnOf "energy_of" "energy_of" (defArgs s_energy_of) (defBody s_energy_of) (defScope s_energy_of) .none kV doc pm an cdv ct) ⟨us, []⟩ = pure ((["world", "thing"] : List Str).zip us) :=
  fun _ _ _ _ _ _ us hl => match us, hl with | [_, _], _ => rfl
theorem hb_spending : ∀ (kV doc pm : Value) (an : Option Addr) (cdv ct : Value) (us : List Value), us.length = (["world", "case", "number"] : List Str).length → bindArgs (PySem.W.fnOf "spending" "spending" (defArgs s_spending) (defBody s_spending) (defScope s_spending) .none kV doc pm an cdv ct) ⟨us, []⟩ = pure ((["world", "case", "number"] : List Str).zip us) :=
  fun _ _ _ _ _ _ us hl => match us, hl with | [_, _, _], _ => rfl
theorem hb_store_peaks : ∀ (kV doc pm : Value) (an : Option Addr) (cdv ct : Value) (us : List Value), us.length = (["world", "case", "number"] : List Str).length → bindArgs (PySem.W.fnOf "store_peaks" "store_peaks" (defArgs s_store_peaks) (defBody s_store_peaks) (defScope s_store_peaks) .none kV doc pm an cdv ct) ⟨us, []⟩ = pure ((["world", "case", "number"] : List Str).zip us) :=
  fun _ _ _ _ _ _ us hl => match us, hl with | [_, _, _], _ => rfl
theorem hb_battery_lows : ∀ (kV doc pm : Value) (an : Option Addr) (cdv ct : Value) (us : List Value), us.length = (["world", "case", "number"] : List Str).length → bindArgs (PySem.W.fnOf "battery_lows" "battery_lows" (defArgs s_battery_lows) (defBody s_battery_lows) (defScope s_battery_lows) .none kV doc pm an cdv ct) ⟨us, []⟩ = pure ((["world", "case", "number"] : List Str).zip us) :=
  fun _ _ _ _ _ _ us hl => match us, hl with | [_, _, _], _ => rfl
theorem hb_has_minute : ∀ (kV doc pm : Value) (an : Option Addr) (cdv ct : Value) (us : List Value), us.length = (["span", "minute"] : List Str).length → bindArgs (PySem.W.fnOf "has_minute" "has_minute" (defArgs s_has_minute) (defBody s_has_minute) (defScope s_has_minute) .none kV doc pm an cdv ct) ⟨us, []⟩ = pure ((["span", "minute"] : List Str).zip us) :=
  fun _ _ _ _ _ _ us hl => match us, hl with | [_, _], _ => rfl
theorem hb_minutes_within : ∀ (kV doc pm : Value) (an : Option Addr) (cdv ct : Value) (us : List Value), us.length = (["spans", "first", "end"] : List Str).length → bindArgs (PySem.W.fnOf "minutes_within" "minutes_within" (defArgs s_minutes_within) (defBody s_minutes_within) (defScope s_minutes_within) .none kV doc pm an cdv ct) ⟨us, []⟩ = pure ((["spans", "first", "end"] : List Str).zip us) :=
  fun _ _ _ _ _ _ us hl => match us, hl with | [_, _, _], _ => rfl
theorem hb_light_minutes : ∀ (kV doc pm : Value) (an : Option Addr) (cdv ct : Value) (us : List Value), us.length = (["satellite", "first", "end"] : List Str).length → bindArgs (PySem.W.fnOf "light_minutes" "light_minutes" (defArgs s_light_minutes) (defBody s_light_minutes) (defScope s_light_minutes) .none kV doc pm an cdv ct) ⟨us, []⟩ = pure ((["satellite", "first", "end"] : List Str).zip us) :=
  fun _ _ _ _ _ _ us hl => match us, hl with | [_, _, _], _ => rfl
theorem hb__law_options : ∀ (kV doc pm : Value) (an : Option Addr) (cdv ct : Value) (us : List Value), us.length = (["world", "number"] : List Str).length → bindArgs (PySem.W.fnOf "_law_options" "_law_options" (defArgs s__law_options) (defBody s__law_options) (defScope s__law_options) .none kV doc pm an cdv ct) ⟨us, []⟩ = pure ((["world", "number"] : List Str).zip us) :=
  fun _ _ _ _ _ _ us hl => match us, hl with | [_, _], _ => rfl
theorem hb__law_case : ∀ (kV doc pm : Value) (an : Option Addr) (cdv ct : Value) (us : List Value), us.length = (["script", "first", "world", "open_too"] : List Str).length → bindArgs (PySem.W.fnOf "_law_case" "_law_case" (defArgs s__law_case) (defBody s__law_case) (defScope s__law_case) .none kV doc pm an cdv ct) ⟨us, []⟩ = pure ((["script", "first", "world", "open_too"] : List Str).zip us) :=
  fun _ _ _ _ _ _ us hl => match us, hl with | [_, _, _, _], _ => rfl
theorem hb__law_is_light : ∀ (kV doc pm : Value) (an : Option Addr) (cdv ct : Value) (us : List Value), us.length = (["world", "s", "minute"] : List Str).length → bindArgs (PySem.W.fnOf "_law_is_light" "_law_is_light" (defArgs s__law_is_light) (defBody s__law_is_light) (defScope s__law_is_light) .none kV doc pm an cdv ct) ⟨us, []⟩ = pure ((["world", "s", "minute"] : List Str).zip us) :=
  fun _ _ _ _ _ _ us hl => match us, hl with | [_, _, _], _ => rfl
theorem hb__law_made : ∀ (kV doc pm : Value) (an : Option Addr) (cdv ct : Value) (us : List Value), us.length = (["world", "case", "s"] : List Str).length → bindArgs (PySem.W.fnOf "_law_made" "_law_made" (defArgs s__law_made) (defBody s__law_made) (defScope s__law_made) .none kV doc pm an cdv ct) ⟨us, []⟩ = pure ((["world", "case", "s"] : List Str).zip us) :=
  fun _ _ _ _ _ _ us hl => match us, hl with | [_, _, _], _ => rfl
theorem hb__law_has_antenna : ∀ (kV doc pm : Value) (an : Option Addr) (cdv ct : Value) (us : List Value), us.length = (["world", "case", "p"] : List Str).length → bindArgs (PySem.W.fnOf "_law_has_antenna" "_law_has_antenna" (defArgs s__law_has_antenna) (defBody s__law_has_antenna) (defScope s__law_has_antenna) .none kV doc pm an cdv ct) ⟨us, []⟩ = pure ((["world", "case", "p"] : List Str).zip us) :=
  fun _ _ _ _ _ _ us hl => match us, hl with | [_, _, _], _ => rfl
theorem hb__law_taken : ∀ (kV doc pm : Value) (an : Option Addr) (cdv ct : Value) (us : List Value), us.length = (["world", "case", "s"] : List Str).length → bindArgs (PySem.W.fnOf "_law_taken" "_law_taken" (defArgs s__law_taken) (defBody s__law_taken) (defScope s__law_taken) .none kV doc pm an cdv ct) ⟨us, []⟩ = pure ((["world", "case", "s"] : List Str).zip us) :=
  fun _ _ _ _ _ _ us hl => match us, hl with | [_, _, _], _ => rfl
theorem hb__law_spent : ∀ (kV doc pm : Value) (an : Option Addr) (cdv ct : Value) (us : List Value), us.length = (["world", "case", "s"] : List Str).length → bindArgs (PySem.W.fnOf "_law_spent" "_law_spent" (defArgs s__law_spent) (defBody s__law_spent) (defScope s__law_spent) .none kV doc pm an cdv ct) ⟨us, []⟩ = pure ((["world", "case", "s"] : List Str).zip us) :=
  fun _ _ _ _ _ _ us hl => match us, hl with | [_, _, _], _ => rfl
theorem hb_is_tuple_of : ∀ (kV doc pm : Value) (an : Option Addr) (cdv ct : Value) (us : List Value), us.length = (["thing", "many"] : List Str).length → bindArgs (PySem.W.fnOf "is_tuple_of" "is_tuple_of" (defArgs s_is_tuple_of) (defBody s_is_tuple_of) (defScope s_is_tuple_of) .none kV doc pm an cdv ct) ⟨us, []⟩ = pure ((["thing", "many"] : List Str).zip us) :=
  fun _ _ _ _ _ _ us hl => match us, hl with | [_, _], _ => rfl
theorem hb_is_made_entry : ∀ (kV doc pm : Value) (an : Option Addr) (cdv ct : Value) (us : List Value), us.length = (["world", "entry"] : List Str).length → bindArgs (PySem.W.fnOf "is_made_entry" "is_made_entry" (defArgs s_is_made_entry) (defBody s_is_made_entry) (defScope s_is_made_entry) .none kV doc pm an cdv ct) ⟨us, []⟩ = pure ((["world", "entry"] : List Str).zip us) :=
  fun _ _ _ _ _ _ us hl => match us, hl with | [_, _], _ => rfl
theorem hb_is_taken_entry : ∀ (kV doc pm : Value) (an : Option Addr) (cdv ct : Value) (us : List Value), us.length = (["entry"] : List Str).length → bindArgs (PySem.W.fnOf "is_taken_entry" "is_taken_entry" (defArgs s_is_taken_entry) (defBody s_is_taken_entry) (defScope s_is_taken_entry) .none kV doc pm an cdv ct) ⟨us, []⟩ = pure ((["entry"] : List Str).zip us) :=
  fun _ _ _ _ _ _ us hl => match us, hl with | [_], _ => rfl
theorem hb_check_case : ∀ (kV doc pm : Value) (an : Option Addr) (cdv ct : Value) (us : List Value), us.length = (["world", "case"] : List Str).length → bindArgs (PySem.W.fnOf "check_case" "check_case" (defArgs s_check_case) (defBody s_check_case) (defScope s_check_case) .none kV doc pm an cdv ct) ⟨us, []⟩ = pure ((["world", "case"] : List Str).zip us) :=
  fun _ _ _ _ _ _ us hl => match us, hl with | [_, _], _ => rfl
theorem hb_meet : ∀ (kV doc pm : Value) (an : Option Addr) (cdv ct : Value) (us : List Value), us.length = (["one", "other"] : List Str).length → bindArgs (PySem.W.fnOf "meet" "meet" (defArgs s_meet) (defBody s_meet) (defScope s_meet) .none kV doc pm an cdv ct) ⟨us, []⟩ = pure ((["one", "other"] : List Str).zip us) :=
  fun _ _ _ _ _ _ us hl => match us, hl with | [_, _], _ => rfl
theorem hb_lengthened : ∀ (kV doc pm : Value) (an : Option Addr) (cdv ct : Value) (us : List Value), us.length = (["span", "minutes"] : List Str).length → bindArgs (PySem.W.fnOf "lengthened" "lengthened" (defArgs s_lengthened) (defBody s_lengthened) (defScope s_lengthened) .none kV doc pm an cdv ct) ⟨us, []⟩ = pure ((["span", "minutes"] : List Str).zip us) :=
  fun _ _ _ _ _ _ us hl => match us, hl with | [_, _], _ => rfl
theorem hb_too_close : ∀ (kV doc pm : Value) (an : Option Addr) (cdv ct : Value) (us : List Value), us.length = (["span", "other", "minutes"] : List Str).length → bindArgs (PySem.W.fnOf "too_close" "too_close" (defArgs s_too_close) (defBody s_too_close) (defScope s_too_close) .none kV doc pm an cdv ct) ⟨us, []⟩ = pure ((["span", "other", "minutes"] : List Str).zip us) :=
  fun _ _ _ _ _ _ us hl => match us, hl with | [_, _, _], _ => rfl
theorem hb_recording_breaches : ∀ (kV doc pm : Value) (an : Option Addr) (cdv ct : Value) (us : List Value), us.length = (["world", "case"] : List Str).length → bindArgs (PySem.W.fnOf "recording_breaches" "recording_breaches" (defArgs s_recording_breaches) (defBody s_recording_breaches) (defScope s_recording_breaches) .none kV doc pm an cdv ct) ⟨us, []⟩ = pure ((["world", "case"] : List Str).zip us) :=
  fun _ _ _ _ _ _ us hl => match us, hl with | [_, _], _ => rfl
theorem hb_sent_sizes : ∀ (kV doc pm : Value) (an : Option Addr) (cdv ct : Value) (us : List Value), us.length = (["world", "case"] : List Str).length → bindArgs (PySem.W.fnOf "sent_sizes" "sent_sizes" (defArgs s_sent_sizes) (defBody s_sent_sizes) (defScope s_sent_sizes) .none kV doc pm an cdv ct) ⟨us, []⟩ = pure ((["world", "case"] : List Str).zip us) :=
  fun _ _ _ _ _ _ us hl => match us, hl with | [_, _], _ => rfl
theorem hb_pass_breaches : ∀ (kV doc pm : Value) (an : Option Addr) (cdv ct : Value) (us : List Value), us.length = (["world", "case"] : List Str).length → bindArgs (PySem.W.fnOf "pass_breaches" "pass_breaches" (defArgs s_pass_breaches) (defBody s_pass_breaches) (defScope s_pass_breaches) .none kV doc pm an cdv ct) ⟨us, []⟩ = pure ((["world", "case"] : List Str).zip us) :=
  fun _ _ _ _ _ _ us hl => match us, hl with | [_, _], _ => rfl
theorem hb_on_one_antenna : ∀ (kV doc pm : Value) (an : Option Addr) (cdv ct : Value) (us : List Value), us.length = (["world", "case", "p", "other"] : List Str).length → bindArgs (PySem.W.fnOf "on_one_antenna" "on_one_antenna" (defArgs s_on_one_antenna) (defBody s_on_one_antenna) (defScope s_on_one_antenna) .none kV doc pm an cdv ct) ⟨us, []⟩ = pure ((["world", "case", "p", "other"] : List Str).zip us) :=
  fun _ _ _ _ _ _ us hl => match us, hl with | [_, _, _, _], _ => rfl
theorem hb_too_close_to_turn : ∀ (kV doc pm : Value) (an : Option Addr) (cdv ct : Value) (us : List Value), us.length = (["world", "p", "other"] : List Str).length → bindArgs (PySem.W.fnOf "too_close_to_turn" "too_close_to_turn" (defArgs s_too_close_to_turn) (defBody s_too_close_to_turn) (defScope s_too_close_to_turn) .none kV doc pm an cdv ct) ⟨us, []⟩ = pure ((["world", "p", "other"] : List Str).zip us) :=
  fun _ _ _ _ _ _ us hl => match us, hl with | [_, _, _], _ => rfl
theorem hb_turn_breaches : ∀ (kV doc pm : Value) (an : Option Addr) (cdv ct : Value) (us : List Value), us.length = (["world", "case"] : List Str).length → bindArgs (PySem.W.fnOf "turn_breaches" "turn_breaches" (defArgs s_turn_breaches) (defBody s_turn_breaches) (defScope s_turn_breaches) .none kV doc pm an cdv ct) ⟨us, []⟩ = pure ((["world", "case"] : List Str).zip us) :=
  fun _ _ _ _ _ _ us hl => match us, hl with | [_, _], _ => rfl
theorem hb_busy_breaches : ∀ (kV doc pm : Value) (an : Option Addr) (cdv ct : Value) (us : List Value), us.length = (["world", "case", "number"] : List Str).length → bindArgs (PySem.W.fnOf "busy_breaches" "busy_breaches" (defArgs s_busy_breaches) (defBody s_busy_breaches) (defScope s_busy_breaches) .none kV doc pm an cdv ct) ⟨us, []⟩ = pure ((["world", "case", "number"] : List Str).zip us) :=
  fun _ _ _ _ _ _ us hl => match us, hl with | [_, _, _], _ => rfl
theorem hb_unit_breaches : ∀ (kV doc pm : Value) (an : Option Addr) (cdv ct : Value) (us : List Value), us.length = (["world", "case", "number"] : List Str).length → bindArgs (PySem.W.fnOf "unit_breaches" "unit_breaches" (defArgs s_unit_breaches) (defBody s_unit_breaches) (defScope s_unit_breaches) .none kV doc pm an cdv ct) ⟨us, []⟩ = pure ((["world", "case", "number"] : List Str).zip us) :=
  fun _ _ _ _ _ _ us hl => match us, hl with | [_, _, _], _ => rfl
theorem hb_case_breaches : ∀ (kV doc pm : Value) (an : Option Addr) (cdv ct : Value) (us : List Value), us.length = (["world", "case"] : List Str).length → bindArgs (PySem.W.fnOf "case_breaches" "case_breaches" (defArgs s_case_breaches) (defBody s_case_breaches) (defScope s_case_breaches) .none kV doc pm an cdv ct) ⟨us, []⟩ = pure ((["world", "case"] : List Str).zip us) :=
  fun _ _ _ _ _ _ us hl => match us, hl with | [_, _], _ => rfl
theorem hb_breaches : ∀ (kV doc pm : Value) (an : Option Addr) (cdv ct : Value) (us : List Value), us.length = (["world", "plan"] : List Str).length → bindArgs (PySem.W.fnOf "breaches" "breaches" (defArgs s_breaches) (defBody s_breaches) (defScope s_breaches) .none kV doc pm an cdv ct) ⟨us, []⟩ = pure ((["world", "plan"] : List Str).zip us) :=
  fun _ _ _ _ _ _ us hl => match us, hl with | [_, _], _ => rfl
theorem hb_keeps_rules : ∀ (kV doc pm : Value) (an : Option Addr) (cdv ct : Value) (us : List Value), us.length = (["world", "plan"] : List Str).length → bindArgs (PySem.W.fnOf "keeps_rules" "keeps_rules" (defArgs s_keeps_rules) (defBody s_keeps_rules) (defScope s_keeps_rules) .none kV doc pm an cdv ct) ⟨us, []⟩ = pure ((["world", "plan"] : List Str).zip us) :=
  fun _ _ _ _ _ _ us hl => match us, hl with | [_, _], _ => rfl
theorem hb_check_plan : ∀ (kV doc pm : Value) (an : Option Addr) (cdv ct : Value) (us : List Value), us.length = (["world", "plan"] : List Str).length → bindArgs (PySem.W.fnOf "check_plan" "check_plan" (defArgs s_check_plan) (defBody s_check_plan) (defScope s_check_plan) .none kV doc pm an cdv ct) ⟨us, []⟩ = pure ((["world", "plan"] : List Str).zip us) :=
  fun _ _ _ _ _ _ us hl => match us, hl with | [_, _], _ => rfl
theorem hb__law_used : ∀ (kV doc pm : Value) (an : Option Addr) (cdv ct : Value) (us : List Value), us.length = (["world", "case", "s"] : List Str).length → bindArgs (PySem.W.fnOf "_law_used" "_law_used" (defArgs s__law_used) (defBody s__law_used) (defScope s__law_used) .none kV doc pm an cdv ct) ⟨us, []⟩ = pure ((["world", "case", "s"] : List Str).zip us) :=
  fun _ _ _ _ _ _ us hl => match us, hl with | [_, _, _], _ => rfl
theorem hb__law_levels : ∀ (kV doc pm : Value) (an : Option Addr) (cdv ct : Value) (us : List Value), us.length = (["world", "case", "s"] : List Str).length → bindArgs (PySem.W.fnOf "_law_levels" "_law_levels" (defArgs s__law_levels) (defBody s__law_levels) (defScope s__law_levels) .none kV doc pm an cdv ct) ⟨us, []⟩ = pure ((["world", "case", "s"] : List Str).zip us) :=
  fun _ _ _ _ _ _ us hl => match us, hl with | [_, _, _], _ => rfl
theorem hb__law_meet : ∀ (kV doc pm : Value) (an : Option Addr) (cdv ct : Value) (us : List Value), us.length = (["one", "other", "more"] : List Str).length → bindArgs (PySem.W.fnOf "_law_meet" "_law_meet" (defArgs s__law_meet) (defBody s__law_meet) (defScope s__law_meet) .none kV doc pm an cdv ct) ⟨us, []⟩ = pure ((["one", "other", "more"] : List Str).zip us) :=
  fun _ _ _ _ _ _ us hl => match us, hl with | [_, _, _], _ => rfl
theorem hb__law_things : ∀ (kV doc pm : Value) (an : Option Addr) (cdv ct : Value) (us : List Value), us.length = (["world", "case", "s"] : List Str).length → bindArgs (PySem.W.fnOf "_law_things" "_law_things" (defArgs s__law_things) (defBody s__law_things) (defScope s__law_things) .none kV doc pm an cdv ct) ⟨us, []⟩ = pure ((["world", "case", "s"] : List Str).zip us) :=
  fun _ _ _ _ _ _ us hl => match us, hl with | [_, _, _], _ => rfl
theorem hb__law_first_breaches : ∀ (kV doc pm : Value) (an : Option Addr) (cdv ct : Value) (us : List Value), us.length = (["world", "case"] : List Str).length → bindArgs (PySem.W.fnOf "_law_first_breaches" "_law_first_breaches" (defArgs s__law_first_breaches) (defBody s__law_first_breaches) (defScope s__law_first_breaches) .none kV doc pm an cdv ct) ⟨us, []⟩ = pure ((["world", "case"] : List Str).zip us) :=
  fun _ _ _ _ _ _ us hl => match us, hl with | [_, _], _ => rfl
theorem hb__law_breaches : ∀ (kV doc pm : Value) (an : Option Addr) (cdv ct : Value) (us : List Value), us.length = (["world", "case"] : List Str).length → bindArgs (PySem.W.fnOf "_law_breaches" "_law_breaches" (defArgs s__law_breaches) (defBody s__law_breaches) (defScope s__law_breaches) .none kV doc pm an cdv ct) ⟨us, []⟩ = pure ((["world", "case"] : List Str).zip us) :=
  fun _ _ _ _ _ _ us hl => match us, hl with | [_, _], _ => rfl
theorem hb__law_told : ∀ (kV doc pm : Value) (an : Option Addr) (cdv ct : Value) (us : List Value), us.length = (["world", "case"] : List Str).length → bindArgs (PySem.W.fnOf "_law_told" "_law_told" (defArgs s__law_told) (defBody s__law_told) (defScope s__law_told) .none kV doc pm an cdv ct) ⟨us, []⟩ = pure ((["world", "case"] : List Str).zip us) :=
  fun _ _ _ _ _ _ us hl => match us, hl with | [_, _], _ => rfl
theorem hb__law_kept : ∀ (kV doc pm : Value) (an : Option Addr) (cdv ct : Value) (us : List Value), us.length = (["world", "case"] : List Str).length → bindArgs (PySem.W.fnOf "_law_kept" "_law_kept" (defArgs s__law_kept) (defBody s__law_kept) (defScope s__law_kept) .none kV doc pm an cdv ct) ⟨us, []⟩ = pure ((["world", "case"] : List Str).zip us) :=
  fun _ _ _ _ _ _ us hl => match us, hl with | [_, _], _ => rfl
theorem hb_law : ∀ (kV doc pm : Value) (an : Option Addr) (cdv ct : Value) (us : List Value), us.length = (["script"] : List Str).length → bindArgs (PySem.W.fnOf "law" "law" (defArgs s_law) (defBody s_law) (defScope s_law) .none kV doc pm an cdv ct) ⟨us, []⟩ = pure ((["script"] : List Str).zip us) :=
  fun _ _ _ _ _ _ us hl => match us, hl with | [_], _ => rfl
theorem fin {l : PySem.W.OpenLaw} {w : World} {K : PySem.W.Frag} {mg : Str → Option Value} {fa CL CS CT CR CP CW aS aR fS fT fR fP CB : Addr} (hfa : mg "law" = some (.ref fa)) (T : TxtW K mg CL CS CT CR CP CW aS aR fS fT fR fP) (F : PF K mg CL CS CT CR CP CW)
    (a__law_cell : At K mg "_law_cell" s__law_cell ["script", "k"])
    (a__law_draws : At K mg "_law_draws" s__law_draws ["cell", "count"])
    (a__law_stream : At K mg "_law_stream" s__law_stream ["script", "first", "count"])
    (a__law_next : At K mg "_law_next" s__law_next ["stream", "many"])
    (a__law_word : At K mg "_law_word" s__law_word ["stream", "index"])
    (a__law_satellite : At K mg "_law_satellite" s__law_satellite ["stream", "index", "horizon"])
    (a__law_recording : At K mg "_law_recording" s__law_recording ["stream", "index", "satellites", "horizon"])
    (a__law_pass : At K mg "_law_pass" s__law_pass ["stream", "index", "satellites", "stations", "horizon"])
    (a__law_world : At K mg "_law_world" s__law_world ["script"])
    (a__law_lines : At K mg "_law_lines" s__law_lines ["world"])
    (a__law_text : At K mg "_law_text" s__law_text ["world"])
    (a__law_is_integer : At K mg "_law_is_integer" s__law_is_integer ["actual"])
    (a__law_same : At K mg "_law_same" s__law_same ["actual", "expected"])
    (a_is_option : At K mg "is_option" s_is_option ["world", "number", "pair"])
    (a_has_antenna : At K mg "has_antenna" s_has_antenna ["world", "p", "antenna"])
    (a_is_filled : At K mg "is_filled" s_is_filled ["entry"])
    (a_made_recordings : At K mg "made_recordings" s_made_recordings ["world", "case"])
    (a_taken_passes : At K mg "taken_passes" s_taken_passes ["world", "case"])
    (a_busy_things : At K mg "busy_things" s_busy_things ["world", "case", "number"])
    (a_energy_of : At K mg "energy_of" s_energy_of ["world", "thing"])
    (a_spending : At K mg "spending" s_spending ["world", "case", "number"])
    (a_store_peaks : At K mg "store_peaks" s_store_peaks ["world", "case", "number"])
    (a_battery_lows : At K mg "battery_lows" s_battery_lows ["world", "case", "number"])
    (a_has_minute : At K mg "has_minute" s_has_minute ["span", "minute"])
    (a_minutes_within : At K mg "minutes_within" s_minutes_within ["spans", "first", "end"])
    (a_light_minutes : At K mg "light_minutes" s_light_minutes ["satellite", "first", "end"])
    (a__law_options : At K mg "_law_options" s__law_options ["world", "number"])
    (a__law_case : At K mg "_law_case" s__law_case ["script", "first", "world", "open_too"])
    (a__law_is_light : At K mg "_law_is_light" s__law_is_light ["world", "s", "minute"])
    (a__law_made : At K mg "_law_made" s__law_made ["world", "case", "s"])
    (a__law_has_antenna : At K mg "_law_has_antenna" s__law_has_antenna ["world", "case", "p"])
    (a__law_taken : At K mg "_law_taken" s__law_taken ["world", "case", "s"])
    (a__law_spent : At K mg "_law_spent" s__law_spent ["world", "case", "s"])
    (a_is_tuple_of : At K mg "is_tuple_of" s_is_tuple_of ["thing", "many"])
    (a_is_made_entry : At K mg "is_made_entry" s_is_made_entry ["world", "entry"])
    (a_is_taken_entry : At K mg "is_taken_entry" s_is_taken_entry ["entry"])
    (a_check_case : At K mg "check_case" s_check_case ["world", "case"])
    (a_meet : At K mg "meet" s_meet ["one", "other"])
    (a_lengthened : At K mg "lengthened" s_lengthened ["span", "minutes"])
    (a_too_close : At K mg "too_close" s_too_close ["span", "other", "minutes"])
    (a_recording_breaches : At K mg "recording_breaches" s_recording_breaches ["world", "case"])
    (a_sent_sizes : At K mg "sent_sizes" s_sent_sizes ["world", "case"])
    (a_pass_breaches : At K mg "pass_breaches" s_pass_breaches ["world", "case"])
    (a_on_one_antenna : At K mg "on_one_antenna" s_on_one_antenna ["world", "case", "p", "other"])
    (a_too_close_to_turn : At K mg "too_close_to_turn" s_too_close_to_turn ["world", "p", "other"])
    (a_turn_breaches : At K mg "turn_breaches" s_turn_breaches ["world", "case"])
    (a_busy_breaches : At K mg "busy_breaches" s_busy_breaches ["world", "case", "number"])
    (a_unit_breaches : At K mg "unit_breaches" s_unit_breaches ["world", "case", "number"])
    (a_case_breaches : At K mg "case_breaches" s_case_breaches ["world", "case"])
    (a_breaches : At K mg "breaches" s_breaches ["world", "plan"])
    (a_keeps_rules : At K mg "keeps_rules" s_keeps_rules ["world", "plan"])
    (a_check_plan : At K mg "check_plan" s_check_plan ["world", "plan"])
    (a__law_used : At K mg "_law_used" s__law_used ["world", "case", "s"])
    (a__law_levels : At K mg "_law_levels" s__law_levels ["world", "case", "s"])
    (a__law_meet : At K mg "_law_meet" s__law_meet ["one", "other", "more"])
    (a__law_things : At K mg "_law_things" s__law_things ["world", "case", "s"])
    (a__law_first_breaches : At K mg "_law_first_breaches" s__law_first_breaches ["world", "case"])
    (a__law_breaches : At K mg "_law_breaches" s__law_breaches ["world", "case"])
    (a__law_told : At K mg "_law_told" s__law_told ["world", "case"])
    (a__law_kept : At K mg "_law_kept" s__law_kept ["world", "case"])
    (a_law : At K mg "law" s_law ["script"])
    (TO : TxtO mg)
    (TE : TxtE K mg CB)
    (BS : mg "sorted" = none)
    (BE : mg "set" = none)
    : ∃ fd : FuncData, (∀ (s : Shared) (v : Value), BindsTo s fd ⟨[v], []⟩ [("script", v)]) ∧ ∀ base : Heap, K.In base → base.Ns mainGlobals mg → FnOk l.prog w K mg base CX0 11 fa fd ["script"] (spLaw K) :=
  a_law.end_ hfa (fun base => the_law T F a__law_cell a__law_draws a__law_stream a__law_next a__law_word a__law_satellite a__law_recording a__law_pass a__law_world a__law_lines a__law_text a__law_is_integer a__law_same a_is_option a_has_antenna a_is_filled a_made_recordings a_taken_passes a_busy_things a_energy_of a_spending a_store_peaks a_battery_lows a_has_minute a_minutes_within a_light_minutes a__law_options a__law_case a__law_is_light a__law_made a__law_has_antenna a__law_taken a__law_spent a_is_tuple_of a_is_made_entry a_is_taken_entry a_check_case a_meet a_lengthened a_too_close a_recording_breaches a_sent_sizes a_pass_breaches a_on_one_antenna a_too_close_to_turn a_turn_breaches a_busy_breaches a_unit_breaches a_case_breaches a_breaches a_keeps_rules a_check_plan a__law_used a__law_levels a__law_meet a__law_things a__law_first_breaches a__law_breaches a__law_told a__law_kept a_law TO TE BS BE) (fun _ _ _ _ _ _ _ => rfl)
end DP
open PySem PySem.W PyProof.Rows
set_option maxHeartbeats 0 in
theorem PySem.Challenge.cw_downpass_k31_breaches_of_cases_holds : PySem.Challenge.rw_downpass_k31_breaches_of_cases.Holds := by
  w_on; o_law; k_head; (case hw => w_witness2)
  k_fill
  refine L2.walk_of (l := PySem.Challenge.rw_downpass_k31_breaches_of_cases) (n := 63) (k := 11) (x := "script") (CX := fun _ => L2.CX0) (sp := fun w => DP.spLaw _) rfl (by decide) rfl ⟨rfl, by decide, by decide⟩ (fun w h Y => PySem.W.kIn_of Y) ?F (fun _ _ a ns hl _ hS => ⟨a, ns, rfl, hS, fun _ => rfl⟩) (fun _ _ _ _ _ h => h)
  case F =>
    intro w mg fa h KX G hmg
    refine' DP.fin hmg ⟨⟨⟨?z_len, ?z_range, ?z_int, ?z_abs, ?z_isinstance, ?z_bool, ?z_str, ?z_tuple, ?z_list, ?z_sum, ?z_max, ?z_min, ?z_all, ?z_enumerate⟩, ?c_Line, ?n_Line_number, ?n_Line_words, ?n_Line_read, ?n_Line_column, ?g_LETTERS, ?g_DIGITS, ?g_MOST_NAME, ?g_MOST_DIGITS⟩, ?c_Satellite, ?c_Station, ?c_Recording, ?c_Pass, ?c_World, ?n_Satellite_name, ?n_Satellite_store, ?n_Satellite_battery, ?n_Satellite_start_level, ?n_Satellite_reserve, ?n_Satellite_charge, ?n_Satellite_settle, ?n_Satellite_light, ?n_Station_name, ?n_Station_antennas, ?n_Station_turn, ?n_Recording_name, ?n_Recording_satellite, ?n_Recording_earliest, ?n_Recording_latest, ?n_Recording_length, ?n_Recording_size, ?n_Recording_energy, ?n_Recording_worth, ?n_Recording_rank, ?n_Recording_deadline, ?n_Pass_name, ?n_Pass_satellite, ?n_Pass_station, ?n_Pass_span, ?n_Pass_room, ?n_Pass_energy, ?n_Pass_fee, ?n_World_text, ?n_World_horizon, ?n_World_satellites, ?n_World_stations, ?n_World_recordings, ?n_World_passes, ?g_SATELLITES, ?g_STATIONS, ?g_RECORDINGS, ?g_PASSES, ?g_MOST_UNITS, ?g_MOST_CHARGE, ?g_MOST_DELAY, ?g_MOST_ANTENNAS, ?g_MOST_WORTH, ?g_MOST_RANK, ?g_MOST_FEE, ?g_SORTS, ?t_SORTS, ?k_SORTS, ?g_READERS, ?t_READERS, ?r_satellite, ?r_station, ?r_recording, ?r_pass, ?rdW, ?v_MOST_HORIZON, ?v_MOST_SATELLITES, ?v_MOST_STATIONS, ?v_MOST_RECORDINGS, ?v_MOST_PASSES, ?v_MOST_SHIFT⟩ ⟨?p_names_of, ?p_read_light, ?p_read_satellite, ?p_read_station, ?p_read_recording, ?p_read_pass, ?p_most_things, ?p_read_sort, ?p_read_things, ?p_lines_of, ?p_is_name, ?p_is_number, ?p_Line___init__, ?p_Line_has_more, ?p_Line_due, ?p_Line_step, ?p_Line_read_choice, ?p_Line_read_number, ?p_Line_read_field, ?p_Line_due_name, ?p_Line_read_new_name, ?p_Line_read_known_name, ?p_Line_finish, ?p_Satellite___init__, ?p_Station___init__, ?p_Recording___init__, ?p_Pass___init__, ?p_World___init__, ?p_World_parse⟩ ?a__law_cell ?a__law_draws ?a__law_stream ?a__law_next ?a__law_word ?a__law_satellite ?a__law_recording ?a__law_pass ?a__law_world ?a__law_lines ?a__law_text ?a__law_is_integer ?a__law_same ?a_is_option ?a_has_antenna ?a_is_filled ?a_made_recordings ?a_taken_passes ?a_busy_things ?a_energy_of ?a_spending ?a_store_peaks ?a_battery_lows ?a_has_minute ?a_minutes_within ?a_light_minutes ?a__law_options ?a__law_case ?a__law_is_light ?a__law_made ?a__law_has_antenna ?a__law_taken ?a__law_spent ?a_is_tuple_of ?a_is_made_entry ?a_is_taken_entry ?a_check_case ?a_meet ?a_lengthened ?a_too_close ?a_recording_breaches ?a_sent_sizes ?a_pass_breaches ?a_on_one_antenna ?a_too_close_to_turn ?a_turn_breaches ?a_busy_breaches ?a_unit_breaches ?a_case_breaches ?a_breaches ?a_keeps_rules ?a_check_plan ?a__law_used ?a__law_levels ?a__law_meet ?a__law_things ?a__law_first_breaches ?a__law_breaches ?a__law_told ?a__law_kept ?a_law ?TO ?TE ?BS ?BE
    (case c_Line => (refine' DP.cls_mk KX G ?g_u17 ?pg_u17 ?hd_u17 ?po_u17 ?sa_u17 ?mk_u17 ?kp_u17; (case g_u17 => k_is); (case pg_u17 => k_is); (case hd_u17 => k_is); (case po_u17 => k_is); (case sa_u17 => k_is); (case mk_u17 => k_is); (case kp_u17 => k_is)))
    (case c_Satellite => (refine' DP.cls_mk KX G ?g_u18 ?pg_u18 ?hd_u18 ?po_u18 ?sa_u18 ?mk_u18 ?kp_u18; (case g_u18 => k_is); (case pg_u18 => k_is); (case hd_u18 => k_is); (case po_u18 => k_is); (case sa_u18 => k_is); (case mk_u18 => k_is); (case kp_u18 => k_is)))
    (case c_Station => (refine' DP.cls_mk KX G ?g_u19 ?pg_u19 ?hd_u19 ?po_u19 ?sa_u19 ?mk_u19 ?kp_u19; (case g_u19 => k_is); (case pg_u19 => k_is); (case hd_u19 => k_is); (case po_u19 => k_is); (case sa_u19 => k_is); (case mk_u19 => k_is); (case kp_u19 => k_is)))
    (case c_Recording => (refine' DP.cls_mk KX G ?g_u20 ?pg_u20 ?hd_u20 ?po_u20 ?sa_u20 ?mk_u20 ?kp_u20; (case g_u20 => k_is); (case pg_u20 => k_is); (case hd_u20 => k_is); (case po_u20 => k_is); (case sa_u20 => k_is); (case mk_u20 => k_is); (case kp_u20 => k_is)))
    (case c_Pass => (refine' DP.cls_mk KX G ?g_u21 ?pg_u21 ?hd_u21 ?po_u21 ?sa_u21 ?mk_u21 ?kp_u21; (case g_u21 => k_is); (case pg_u21 => k_is); (case hd_u21 => k_is); (case po_u21 => k_is); (case sa_u21 => k_is); (case mk_u21 => k_is); (case kp_u21 => k_is)))
    (case c_World => (refine' DP.cls_mk KX G ?g_u22 ?pg_u22 ?hd_u22 ?po_u22 ?sa_u22 ?mk_u22 ?kp_u22; (case g_u22 => k_is); (case pg_u22 => k_is); (case hd_u22 => k_is); (case po_u22 => k_is); (case sa_u22 => k_is); (case mk_u22 => k_is); (case kp_u22 => k_is)))
    (case TO => (refine' ⟨DP.str_mk KX G ?tp1⟩; (case tp1 => k_is)))
    (case TE => (refine' ⟨PySem.W.mg_of KX G ?eb1, ?eb2, ?eb3, ?eb4, ?eb5, ?eb6, ?eb7⟩; (case eb1 => k_is); (case eb2 => k_exc); (case eb3 => k_is); (case eb4 => k_is); (case eb5 => k_is); (case eb6 => k_is); (case eb7 => first | rfl | k_is)))
    (case BS => (refine' PySem.W.mg_none_of KX G ?bsq; (case bsq => k_is)))
    (case BE => (refine' PySem.W.mg_none_of KX G ?beq; (case beq => k_is)))
    (case r_satellite => (refine' PySem.W.mg_of KX G ?q_u38; (case q_u38 => k_is)))
    (case r_station => (refine' PySem.W.mg_of KX G ?q_u39; (case q_u39 => k_is)))
    (case r_recording => (refine' PySem.W.mg_of KX G ?q_u40; (case q_u40 => k_is)))
    (case r_pass => (refine' PySem.W.mg_of KX G ?q_u41; (case q_u41 => k_is)))
    (case g_SORTS => (refine' PySem.W.mg_of KX G ?q_u42; (case q_u42 => k_is)))
    (case t_SORTS => (refine' DP.tup4s_mk ?q_u43; (case q_u43 => k_is)))
    (case k_SORTS => (refine' DP.tupk_mk ?q_u44; (case q_u44 => k_is)))
    (case g_READERS => (refine' PySem.W.mg_of KX G ?q_u45; (case q_u45 => k_is)))
    (case t_READERS => (refine' DP.tup4r_mk ?q_u46; (case q_u46 => k_is)))
    (case n_Line_number => (show PySem.W.findIn _ _ _ = some none; k_is))
    (case n_Line_words => (show PySem.W.findIn _ _ _ = some none; k_is))
    (case n_Line_read => (show PySem.W.findIn _ _ _ = some none; k_is))
    (case n_Line_column => (show PySem.W.findIn _ _ _ = some none; k_is))
    (case n_Satellite_name => (show PySem.W.findIn _ _ _ = some none; k_is))
    (case n_Satellite_store => (show PySem.W.findIn _ _ _ = some none; k_is))
    (case n_Satellite_battery => (show PySem.W.findIn _ _ _ = some none; k_is))
    (case n_Satellite_start_level => (show PySem.W.findIn _ _ _ = some none; k_is))
    (case n_Satellite_reserve => (show PySem.W.findIn _ _ _ = some none; k_is))
    (case n_Satellite_charge => (show PySem.W.findIn _ _ _ = some none; k_is))
    (case n_Satellite_settle => (show PySem.W.findIn _ _ _ = some none; k_is))
    (case n_Satellite_light => (show PySem.W.findIn _ _ _ = some none; k_is))
    (case n_Station_name => (show PySem.W.findIn _ _ _ = some none; k_is))
    (case n_Station_antennas => (show PySem.W.findIn _ _ _ = some none; k_is))
    (case n_Station_turn => (show PySem.W.findIn _ _ _ = some none; k_is))
    (case n_Recording_name => (show PySem.W.findIn _ _ _ = some none; k_is))
    (case n_Recording_satellite => (show PySem.W.findIn _ _ _ = some none; k_is))
    (case n_Recording_earliest => (show PySem.W.findIn _ _ _ = some none; k_is))
    (case n_Recording_latest => (show PySem.W.findIn _ _ _ = some none; k_is))
    (case n_Recording_length => (show PySem.W.findIn _ _ _ = some none; k_is))
    (case n_Recording_size => (show PySem.W.findIn _ _ _ = some none; k_is))
    (case n_Recording_energy => (show PySem.W.findIn _ _ _ = some none; k_is))
    (case n_Recording_worth => (show PySem.W.findIn _ _ _ = some none; k_is))
    (case n_Recording_rank => (show PySem.W.findIn _ _ _ = some none; k_is))
    (case n_Recording_deadline => (show PySem.W.findIn _ _ _ = some none; k_is))
    (case n_Pass_name => (show PySem.W.findIn _ _ _ = some none; k_is))
    (case n_Pass_satellite => (show PySem.W.findIn _ _ _ = some none; k_is))
    (case n_Pass_station => (show PySem.W.findIn _ _ _ = some none; k_is))
    (case n_Pass_span => (show PySem.W.findIn _ _ _ = some none; k_is))
    (case n_Pass_room => (show PySem.W.findIn _ _ _ = some none; k_is))
    (case n_Pass_energy => (show PySem.W.findIn _ _ _ = some none; k_is))
    (case n_Pass_fee => (show PySem.W.findIn _ _ _ = some none; k_is))
    (case n_World_text => (show PySem.W.findIn _ _ _ = some none; k_is))
    (case n_World_horizon => (show PySem.W.findIn _ _ _ = some none; k_is))
    (case n_World_satellites => (show PySem.W.findIn _ _ _ = some none; k_is))
    (case n_World_stations => (show PySem.W.findIn _ _ _ = some none; k_is))
    (case n_World_recordings => (show PySem.W.findIn _ _ _ = some none; k_is))
    (case n_World_passes => (show PySem.W.findIn _ _ _ = some none; k_is))
    (case z_len => (refine' PySem.W.mg_none_of KX G ?q_u1; (case q_u1 => k_is)))
    (case z_range => (refine' PySem.W.mg_none_of KX G ?q_u2; (case q_u2 => k_is)))
    (case z_int => (refine' PySem.W.mg_none_of KX G ?q_u3; (case q_u3 => k_is)))
    (case z_abs => (refine' PySem.W.mg_none_of KX G ?q_u4; (case q_u4 => k_is)))
    (case z_isinstance => (refine' PySem.W.mg_none_of KX G ?q_u5; (case q_u5 => k_is)))
    (case z_bool => (refine' PySem.W.mg_none_of KX G ?q_u6; (case q_u6 => k_is)))
    (case z_str => (refine' PySem.W.mg_none_of KX G ?q_u7; (case q_u7 => k_is)))
    (case z_tuple => (refine' PySem.W.mg_none_of KX G ?q_u8; (case q_u8 => k_is)))
    (case z_list => (refine' PySem.W.mg_none_of KX G ?q_u9; (case q_u9 => k_is)))
    (case z_sum => (refine' PySem.W.mg_none_of KX G ?q_u10; (case q_u10 => k_is)))
    (case z_max => (refine' PySem.W.mg_none_of KX G ?q_u11; (case q_u11 => k_is)))
    (case z_min => (refine' PySem.W.mg_none_of KX G ?q_u12; (case q_u12 => k_is)))
    (case z_all => (refine' PySem.W.mg_none_of KX G ?q_u13; (case q_u13 => k_is)))
    (case z_enumerate => (refine' PySem.W.mg_none_of KX G ?q_u14; (case q_u14 => k_is)))
    (case g_LETTERS => (refine' DP.str_mk KX G ?q_u23; (case q_u23 => k_is)))
    (case g_DIGITS => (refine' DP.str_mk KX G ?q_u24; (case q_u24 => k_is)))
    (case g_MOST_NAME => (refine' DP.int_mk KX G ?q_u25; (case q_u25 => k_is)))
    (case g_MOST_DIGITS => (refine' DP.int_mk KX G ?q_u26; (case q_u26 => k_is)))
    (case g_SATELLITES => (refine' DP.int_mk KX G ?q_u27; (case q_u27 => k_is)))
    (case g_STATIONS => (refine' DP.int_mk KX G ?q_u28; (case q_u28 => k_is)))
    (case g_RECORDINGS => (refine' DP.int_mk KX G ?q_u29; (case q_u29 => k_is)))
    (case g_PASSES => (refine' DP.int_mk KX G ?q_u30; (case q_u30 => k_is)))
    (case g_MOST_UNITS => (refine' DP.int_mk KX G ?q_u31; (case q_u31 => k_is)))
    (case g_MOST_CHARGE => (refine' DP.int_mk KX G ?q_u32; (case q_u32 => k_is)))
    (case g_MOST_DELAY => (refine' DP.int_mk KX G ?q_u33; (case q_u33 => k_is)))
    (case g_MOST_ANTENNAS => (refine' DP.int_mk KX G ?q_u34; (case q_u34 => k_is)))
    (case g_MOST_WORTH => (refine' DP.int_mk KX G ?q_u35; (case q_u35 => k_is)))
    (case g_MOST_RANK => (refine' DP.int_mk KX G ?q_u36; (case q_u36 => k_is)))
    (case g_MOST_FEE => (refine' DP.int_mk KX G ?q_u37; (case q_u37 => k_is)))
    (case rdW => (refine' ⟨?rd_u47, ?ga_u47⟩; (case rd_u47 => k_is); (case ga_u47 => k_is)))
    (case v_MOST_HORIZON => (refine' DP.cval_mk ?q_u48; (case q_u48 => k_is)))
    (case v_MOST_SATELLITES => (refine' DP.cval_mk ?q_u49; (case q_u49 => k_is)))
    (case v_MOST_STATIONS => (refine' DP.cval_mk ?q_u50; (case q_u50 => k_is)))
    (case v_MOST_RECORDINGS => (refine' DP.cval_mk ?q_u51; (case q_u51 => k_is)))
    (case v_MOST_PASSES => (refine' DP.cval_mk ?q_u52; (case q_u52 => k_is)))
    (case v_MOST_SHIFT => (refine' DP.cval_mk ?q_u53; (case q_u53 => k_is)))
    (case p_names_of => (refine' DP.at_mk KX G ?a_u54 ?l_u54 ?c_u54 ?k_u54 DP.hb_names_of; (case a_u54 => k_is); (case l_u54 => k_is); (case c_u54 => k_is); (case k_u54 => k_is)))
    (case p_read_light => (refine' DP.at_mk KX G ?a_u55 ?l_u55 ?c_u55 ?k_u55 DP.hb_read_light; (case a_u55 => k_is); (case l_u55 => k_is); (case c_u55 => k_is); (case k_u55 => k_is)))
    (case p_read_satellite => (refine' DP.at_mk KX G ?a_u56 ?l_u56 ?c_u56 ?k_u56 DP.hb_read_satellite; (case a_u56 => k_is); (case l_u56 => k_is); (case c_u56 => k_is); (case k_u56 => k_is)))
    (case p_read_station => (refine' DP.at_mk KX G ?a_u57 ?l_u57 ?c_u57 ?k_u57 DP.hb_read_station; (case a_u57 => k_is); (case l_u57 => k_is); (case c_u57 => k_is); (case k_u57 => k_is)))
    (case p_read_recording => (refine' DP.at_mk KX G ?a_u58 ?l_u58 ?c_u58 ?k_u58 DP.hb_read_recording; (case a_u58 => k_is); (case l_u58 => k_is); (case c_u58 => k_is); (case k_u58 => k_is)))
    (case p_read_pass => (refine' DP.at_mk KX G ?a_u59 ?l_u59 ?c_u59 ?k_u59 DP.hb_read_pass; (case a_u59 => k_is); (case l_u59 => k_is); (case c_u59 => k_is); (case k_u59 => k_is)))
    (case p_most_things => (refine' DP.at_mk KX G ?a_u60 ?l_u60 ?c_u60 ?k_u60 DP.hb_most_things; (case a_u60 => k_is); (case l_u60 => k_is); (case c_u60 => k_is); (case k_u60 => k_is)))
    (case p_read_sort => (refine' DP.at_mk KX G ?a_u61 ?l_u61 ?c_u61 ?k_u61 DP.hb_read_sort; (case a_u61 => k_is); (case l_u61 => k_is); (case c_u61 => k_is); (case k_u61 => k_is)))
    (case p_read_things => (refine' DP.at_mk KX G ?a_u62 ?l_u62 ?c_u62 ?k_u62 DP.hb_read_things; (case a_u62 => k_is); (case l_u62 => k_is); (case c_u62 => k_is); (case k_u62 => k_is)))
    (case p_lines_of => (refine' DP.at_mk KX G ?a_u63 ?l_u63 ?c_u63 ?k_u63 DP.hb_lines_of; (case a_u63 => k_is); (case l_u63 => k_is); (case c_u63 => k_is); (case k_u63 => k_is)))
    (case p_is_name => (refine' DP.at_mk KX G ?a_u64 ?l_u64 ?c_u64 ?k_u64 DP.hb_is_name; (case a_u64 => k_is); (case l_u64 => k_is); (case c_u64 => k_is); (case k_u64 => k_is)))
    (case p_is_number => (refine' DP.at_mk KX G ?a_u65 ?l_u65 ?c_u65 ?k_u65 DP.hb_is_number; (case a_u65 => k_is); (case l_u65 => k_is); (case c_u65 => k_is); (case k_u65 => k_is)))
    (case p_Line___init__ => (refine' DP.met_mk ?a_u66 ?i_u66 ?l_u66 ?c_u66 ?k_u66 DP.hb_Line___init__; (case a_u66 => k_is); (case i_u66 => k_is); (case l_u66 => k_is); (case c_u66 => k_is); (case k_u66 => k_is)))
    (case p_Line_has_more => (refine' DP.met_mk ?a_u67 ?i_u67 ?l_u67 ?c_u67 ?k_u67 DP.hb_Line_has_more; (case a_u67 => k_is); (case i_u67 => k_is); (case l_u67 => k_is); (case c_u67 => k_is); (case k_u67 => k_is)))
    (case p_Line_due => (refine' DP.met_mk ?a_u68 ?i_u68 ?l_u68 ?c_u68 ?k_u68 DP.hb_Line_due; (case a_u68 => k_is); (case i_u68 => k_is); (case l_u68 => k_is); (case c_u68 => k_is); (case k_u68 => k_is)))
    (case p_Line_step => (refine' DP.met_mk ?a_u69 ?i_u69 ?l_u69 ?c_u69 ?k_u69 DP.hb_Line_step; (case a_u69 => k_is); (case i_u69 => k_is); (case l_u69 => k_is); (case c_u69 => k_is); (case k_u69 => k_is)))
    (case p_Line_read_choice => (refine' DP.met_mk ?a_u70 ?i_u70 ?l_u70 ?c_u70 ?k_u70 DP.hb_Line_read_choice; (case a_u70 => k_is); (case i_u70 => k_is); (case l_u70 => k_is); (case c_u70 => k_is); (case k_u70 => k_is)))
    (case p_Line_read_number => (refine' DP.met_mk ?a_u71 ?i_u71 ?l_u71 ?c_u71 ?k_u71 DP.hb_Line_read_number; (case a_u71 => k_is); (case i_u71 => k_is); (case l_u71 => k_is); (case c_u71 => k_is); (case k_u71 => k_is)))
    (case p_Line_read_field => (refine' DP.met_mk ?a_u72 ?i_u72 ?l_u72 ?c_u72 ?k_u72 DP.hb_Line_read_field; (case a_u72 => k_is); (case i_u72 => k_is); (case l_u72 => k_is); (case c_u72 => k_is); (case k_u72 => k_is)))
    (case p_Line_due_name => (refine' DP.met_mk ?a_u73 ?i_u73 ?l_u73 ?c_u73 ?k_u73 DP.hb_Line_due_name; (case a_u73 => k_is); (case i_u73 => k_is); (case l_u73 => k_is); (case c_u73 => k_is); (case k_u73 => k_is)))
    (case p_Line_read_new_name => (refine' DP.met_mk ?a_u74 ?i_u74 ?l_u74 ?c_u74 ?k_u74 DP.hb_Line_read_new_name; (case a_u74 => k_is); (case i_u74 => k_is); (case l_u74 => k_is); (case c_u74 => k_is); (case k_u74 => k_is)))
    (case p_Line_read_known_name => (refine' DP.metD_mk ?a_u75 ?i_u75 ?l_u75 ?lT_u75 ?c_u75 ?k_u75 2 rfl DP.hb_Line_read_known_name; (case a_u75 => k_is); (case i_u75 => k_is); (case l_u75 => k_is); (case lT_u75 => k_is); (case c_u75 => k_is); (case k_u75 => k_is)))
    (case p_Line_finish => (refine' DP.met_mk ?a_u76 ?i_u76 ?l_u76 ?c_u76 ?k_u76 DP.hb_Line_finish; (case a_u76 => k_is); (case i_u76 => k_is); (case l_u76 => k_is); (case c_u76 => k_is); (case k_u76 => k_is)))
    (case p_Satellite___init__ => (refine' DP.met_mk ?a_u77 ?i_u77 ?l_u77 ?c_u77 ?k_u77 DP.hb_Satellite___init__; (case a_u77 => k_is); (case i_u77 => k_is); (case l_u77 => k_is); (case c_u77 => k_is); (case k_u77 => k_is)))
    (case p_Station___init__ => (refine' DP.met_mk ?a_u78 ?i_u78 ?l_u78 ?c_u78 ?k_u78 DP.hb_Station___init__; (case a_u78 => k_is); (case i_u78 => k_is); (case l_u78 => k_is); (case c_u78 => k_is); (case k_u78 => k_is)))
    (case p_Recording___init__ => (refine' DP.met_mk ?a_u79 ?i_u79 ?l_u79 ?c_u79 ?k_u79 DP.hb_Recording___init__; (case a_u79 => k_is); (case i_u79 => k_is); (case l_u79 => k_is); (case c_u79 => k_is); (case k_u79 => k_is)))
    (case p_Pass___init__ => (refine' DP.met_mk ?a_u80 ?i_u80 ?l_u80 ?c_u80 ?k_u80 DP.hb_Pass___init__; (case a_u80 => k_is); (case i_u80 => k_is); (case l_u80 => k_is); (case c_u80 => k_is); (case k_u80 => k_is)))
    (case p_World___init__ => (refine' DP.met_mk ?a_u81 ?i_u81 ?l_u81 ?c_u81 ?k_u81 DP.hb_World___init__; (case a_u81 => k_is); (case i_u81 => k_is); (case l_u81 => k_is); (case c_u81 => k_is); (case k_u81 => k_is)))
    (case p_World_parse => (refine' DP.smet_mk ?a_u82 ?r_u82 ?l_u82 ?c_u82 ?k_u82 DP.hb_World_parse; (case a_u82 => k_is); (case r_u82 => k_is); (case l_u82 => k_is); (case c_u82 => k_is); (case k_u82 => k_is)))
    (case a__law_cell => (refine' DP.at_mk KX G ?a_u83 ?l_u83 ?c_u83 ?k_u83 DP.hb__law_cell; (case a_u83 => k_is); (case l_u83 => k_is); (case c_u83 => k_is); (case k_u83 => k_is)))
    (case a__law_draws => (refine' DP.at_mk KX G ?a_u84 ?l_u84 ?c_u84 ?k_u84 DP.hb__law_draws; (case a_u84 => k_is); (case l_u84 => k_is); (case c_u84 => k_is); (case k_u84 => k_is)))
    (case a__law_stream => (refine' DP.at_mk KX G ?a_u85 ?l_u85 ?c_u85 ?k_u85 DP.hb__law_stream; (case a_u85 => k_is); (case l_u85 => k_is); (case c_u85 => k_is); (case k_u85 => k_is)))
    (case a__law_next => (refine' DP.at_mk KX G ?a_u86 ?l_u86 ?c_u86 ?k_u86 DP.hb__law_next; (case a_u86 => k_is); (case l_u86 => k_is); (case c_u86 => k_is); (case k_u86 => k_is)))
    (case a__law_word => (refine' DP.at_mk KX G ?a_u87 ?l_u87 ?c_u87 ?k_u87 DP.hb__law_word; (case a_u87 => k_is); (case l_u87 => k_is); (case c_u87 => k_is); (case k_u87 => k_is)))
    (case a__law_satellite => (refine' DP.at_mk KX G ?a_u88 ?l_u88 ?c_u88 ?k_u88 DP.hb__law_satellite; (case a_u88 => k_is); (case l_u88 => k_is); (case c_u88 => k_is); (case k_u88 => k_is)))
    (case a__law_recording => (refine' DP.at_mk KX G ?a_u89 ?l_u89 ?c_u89 ?k_u89 DP.hb__law_recording; (case a_u89 => k_is); (case l_u89 => k_is); (case c_u89 => k_is); (case k_u89 => k_is)))
    (case a__law_pass => (refine' DP.at_mk KX G ?a_u90 ?l_u90 ?c_u90 ?k_u90 DP.hb__law_pass; (case a_u90 => k_is); (case l_u90 => k_is); (case c_u90 => k_is); (case k_u90 => k_is)))
    (case a__law_world => (refine' DP.at_mk KX G ?a_u91 ?l_u91 ?c_u91 ?k_u91 DP.hb__law_world; (case a_u91 => k_is); (case l_u91 => k_is); (case c_u91 => k_is); (case k_u91 => k_is)))
    (case a__law_lines => (refine' DP.at_mk KX G ?a_u92 ?l_u92 ?c_u92 ?k_u92 DP.hb__law_lines; (case a_u92 => k_is); (case l_u92 => k_is); (case c_u92 => k_is); (case k_u92 => k_is)))
    (case a__law_text => (refine' DP.at_mk KX G ?a_u93 ?l_u93 ?c_u93 ?k_u93 DP.hb__law_text; (case a_u93 => k_is); (case l_u93 => k_is); (case c_u93 => k_is); (case k_u93 => k_is)))
    (case a__law_is_integer => (refine' DP.at_mk KX G ?a_u94 ?l_u94 ?c_u94 ?k_u94 DP.hb__law_is_integer; (case a_u94 => k_is); (case l_u94 => k_is); (case c_u94 => k_is); (case k_u94 => k_is)))
    (case a__law_same => (refine' DP.at_mk KX G ?a_u95 ?l_u95 ?c_u95 ?k_u95 DP.hb__law_same; (case a_u95 => k_is); (case l_u95 => k_is); (case c_u95 => k_is); (case k_u95 => k_is)))
    (case a_is_option => (refine' DP.at_mk KX G ?a_u96 ?l_u96 ?c_u96 ?k_u96 DP.hb_is_option; (case a_u96 => k_is); (case l_u96 => k_is); (case c_u96 => k_is); (case k_u96 => k_is)))
    (case a_has_antenna => (refine' DP.at_mk KX G ?a_u97 ?l_u97 ?c_u97 ?k_u97 DP.hb_has_antenna; (case a_u97 => k_is); (case l_u97 => k_is); (case c_u97 => k_is); (case k_u97 => k_is)))
    (case a_is_filled => (refine' DP.at_mk KX G ?a_u98 ?l_u98 ?c_u98 ?k_u98 DP.hb_is_filled; (case a_u98 => k_is); (case l_u98 => k_is); (case c_u98 => k_is); (case k_u98 => k_is)))
    (case a_made_recordings => (refine' DP.at_mk KX G ?a_u99 ?l_u99 ?c_u99 ?k_u99 DP.hb_made_recordings; (case a_u99 => k_is); (case l_u99 => k_is); (case c_u99 => k_is); (case k_u99 => k_is)))
    (case a_taken_passes => (refine' DP.at_mk KX G ?a_u100 ?l_u100 ?c_u100 ?k_u100 DP.hb_taken_passes; (case a_u100 => k_is); (case l_u100 => k_is); (case c_u100 => k_is); (case k_u100 => k_is)))
    (case a_busy_things => (refine' DP.at_mk KX G ?a_u101 ?l_u101 ?c_u101 ?k_u101 DP.hb_busy_things; (case a_u101 => k_is); (case l_u101 => k_is); (case c_u101 => k_is); (case k_u101 => k_is)))
    (case a_energy_of => (refine' DP.at_mk KX G ?a_u102 ?l_u102 ?c_u102 ?k_u102 DP.hb_energy_of; (case a_u102 => k_is); (case l_u102 => k_is); (case c_u102 => k_is); (case k_u102 => k_is)))
    (case a_spending => (refine' DP.at_mk KX G ?a_u103 ?l_u103 ?c_u103 ?k_u103 DP.hb_spending; (case a_u103 => k_is); (case l_u103 => k_is); (case c_u103 => k_is); (case k_u103 => k_is)))
    (case a_store_peaks => (refine' DP.at_mk KX G ?a_u104 ?l_u104 ?c_u104 ?k_u104 DP.hb_store_peaks; (case a_u104 => k_is); (case l_u104 => k_is); (case c_u104 => k_is); (case k_u104 => k_is)))
    (case a_battery_lows => (refine' DP.at_mk KX G ?a_u105 ?l_u105 ?c_u105 ?k_u105 DP.hb_battery_lows; (case a_u105 => k_is); (case l_u105 => k_is); (case c_u105 => k_is); (case k_u105 => k_is)))
    (case a_has_minute => (refine' DP.at_mk KX G ?a_u106 ?l_u106 ?c_u106 ?k_u106 DP.hb_has_minute; (case a_u106 => k_is); (case l_u106 => k_is); (case c_u106 => k_is); (case k_u106 => k_is)))
    (case a_minutes_within => (refine' DP.at_mk KX G ?a_u107 ?l_u107 ?c_u107 ?k_u107 DP.hb_minutes_within; (case a_u107 => k_is); (case l_u107 => k_is); (case c_u107 => k_is); (case k_u107 => k_is)))
    (case a_light_minutes => (refine' DP.at_mk KX G ?a_u108 ?l_u108 ?c_u108 ?k_u108 DP.hb_light_minutes; (case a_u108 => k_is); (case l_u108 => k_is); (case c_u108 => k_is); (case k_u108 => k_is)))
    (case a__law_options => (refine' DP.at_mk KX G ?a_u109 ?l_u109 ?c_u109 ?k_u109 DP.hb__law_options; (case a_u109 => k_is); (case l_u109 => k_is); (case c_u109 => k_is); (case k_u109 => k_is)))
    (case a__law_case => (refine' DP.at_mk KX G ?a_u110 ?l_u110 ?c_u110 ?k_u110 DP.hb__law_case; (case a_u110 => k_is); (case l_u110 => k_is); (case c_u110 => k_is); (case k_u110 => k_is)))
    (case a__law_is_light => (refine' DP.at_mk KX G ?a_u111 ?l_u111 ?c_u111 ?k_u111 DP.hb__law_is_light; (case a_u111 => k_is); (case l_u111 => k_is); (case c_u111 => k_is); (case k_u111 => k_is)))
    (case a__law_made => (refine' DP.at_mk KX G ?a_u112 ?l_u112 ?c_u112 ?k_u112 DP.hb__law_made; (case a_u112 => k_is); (case l_u112 => k_is); (case c_u112 => k_is); (case k_u112 => k_is)))
    (case a__law_has_antenna => (refine' DP.at_mk KX G ?a_u113 ?l_u113 ?c_u113 ?k_u113 DP.hb__law_has_antenna; (case a_u113 => k_is); (case l_u113 => k_is); (case c_u113 => k_is); (case k_u113 => k_is)))
    (case a__law_taken => (refine' DP.at_mk KX G ?a_u114 ?l_u114 ?c_u114 ?k_u114 DP.hb__law_taken; (case a_u114 => k_is); (case l_u114 => k_is); (case c_u114 => k_is); (case k_u114 => k_is)))
    (case a__law_spent => (refine' DP.at_mk KX G ?a_u115 ?l_u115 ?c_u115 ?k_u115 DP.hb__law_spent; (case a_u115 => k_is); (case l_u115 => k_is); (case c_u115 => k_is); (case k_u115 => k_is)))
    (case a_is_tuple_of => (refine' DP.at_mk KX G ?a_u116 ?l_u116 ?c_u116 ?k_u116 DP.hb_is_tuple_of; (case a_u116 => k_is); (case l_u116 => k_is); (case c_u116 => k_is); (case k_u116 => k_is)))
    (case a_is_made_entry => (refine' DP.at_mk KX G ?a_u117 ?l_u117 ?c_u117 ?k_u117 DP.hb_is_made_entry; (case a_u117 => k_is); (case l_u117 => k_is); (case c_u117 => k_is); (case k_u117 => k_is)))
    (case a_is_taken_entry => (refine' DP.at_mk KX G ?a_u118 ?l_u118 ?c_u118 ?k_u118 DP.hb_is_taken_entry; (case a_u118 => k_is); (case l_u118 => k_is); (case c_u118 => k_is); (case k_u118 => k_is)))
    (case a_check_case => (refine' DP.at_mk KX G ?a_u119 ?l_u119 ?c_u119 ?k_u119 DP.hb_check_case; (case a_u119 => k_is); (case l_u119 => k_is); (case c_u119 => k_is); (case k_u119 => k_is)))
    (case a_meet => (refine' DP.at_mk KX G ?a_u120 ?l_u120 ?c_u120 ?k_u120 DP.hb_meet; (case a_u120 => k_is); (case l_u120 => k_is); (case c_u120 => k_is); (case k_u120 => k_is)))
    (case a_lengthened => (refine' DP.at_mk KX G ?a_u121 ?l_u121 ?c_u121 ?k_u121 DP.hb_lengthened; (case a_u121 => k_is); (case l_u121 => k_is); (case c_u121 => k_is); (case k_u121 => k_is)))
    (case a_too_close => (refine' DP.at_mk KX G ?a_u122 ?l_u122 ?c_u122 ?k_u122 DP.hb_too_close; (case a_u122 => k_is); (case l_u122 => k_is); (case c_u122 => k_is); (case k_u122 => k_is)))
    (case a_recording_breaches => (refine' DP.at_mk KX G ?a_u123 ?l_u123 ?c_u123 ?k_u123 DP.hb_recording_breaches; (case a_u123 => k_is); (case l_u123 => k_is); (case c_u123 => k_is); (case k_u123 => k_is)))
    (case a_sent_sizes => (refine' DP.at_mk KX G ?a_u124 ?l_u124 ?c_u124 ?k_u124 DP.hb_sent_sizes; (case a_u124 => k_is); (case l_u124 => k_is); (case c_u124 => k_is); (case k_u124 => k_is)))
    (case a_pass_breaches => (refine' DP.at_mk KX G ?a_u125 ?l_u125 ?c_u125 ?k_u125 DP.hb_pass_breaches; (case a_u125 => k_is); (case l_u125 => k_is); (case c_u125 => k_is); (case k_u125 => k_is)))
    (case a_on_one_antenna => (refine' DP.at_mk KX G ?a_u126 ?l_u126 ?c_u126 ?k_u126 DP.hb_on_one_antenna; (case a_u126 => k_is); (case l_u126 => k_is); (case c_u126 => k_is); (case k_u126 => k_is)))
    (case a_too_close_to_turn => (refine' DP.at_mk KX G ?a_u127 ?l_u127 ?c_u127 ?k_u127 DP.hb_too_close_to_turn; (case a_u127 => k_is); (case l_u127 => k_is); (case c_u127 => k_is); (case k_u127 => k_is)))
    (case a_turn_breaches => (refine' DP.at_mk KX G ?a_u128 ?l_u128 ?c_u128 ?k_u128 DP.hb_turn_breaches; (case a_u128 => k_is); (case l_u128 => k_is); (case c_u128 => k_is); (case k_u128 => k_is)))
    (case a_busy_breaches => (refine' DP.at_mk KX G ?a_u129 ?l_u129 ?c_u129 ?k_u129 DP.hb_busy_breaches; (case a_u129 => k_is); (case l_u129 => k_is); (case c_u129 => k_is); (case k_u129 => k_is)))
    (case a_unit_breaches => (refine' DP.at_mk KX G ?a_u130 ?l_u130 ?c_u130 ?k_u130 DP.hb_unit_breaches; (case a_u130 => k_is); (case l_u130 => k_is); (case c_u130 => k_is); (case k_u130 => k_is)))
    (case a_case_breaches => (refine' DP.at_mk KX G ?a_u131 ?l_u131 ?c_u131 ?k_u131 DP.hb_case_breaches; (case a_u131 => k_is); (case l_u131 => k_is); (case c_u131 => k_is); (case k_u131 => k_is)))
    (case a_breaches => (refine' DP.at_mk KX G ?a_u132 ?l_u132 ?c_u132 ?k_u132 DP.hb_breaches; (case a_u132 => k_is); (case l_u132 => k_is); (case c_u132 => k_is); (case k_u132 => k_is)))
    (case a_keeps_rules => (refine' DP.at_mk KX G ?a_u133 ?l_u133 ?c_u133 ?k_u133 DP.hb_keeps_rules; (case a_u133 => k_is); (case l_u133 => k_is); (case c_u133 => k_is); (case k_u133 => k_is)))
    (case a_check_plan => (refine' DP.at_mk KX G ?a_u134 ?l_u134 ?c_u134 ?k_u134 DP.hb_check_plan; (case a_u134 => k_is); (case l_u134 => k_is); (case c_u134 => k_is); (case k_u134 => k_is)))
    (case a__law_used => (refine' DP.at_mk KX G ?a_u135 ?l_u135 ?c_u135 ?k_u135 DP.hb__law_used; (case a_u135 => k_is); (case l_u135 => k_is); (case c_u135 => k_is); (case k_u135 => k_is)))
    (case a__law_levels => (refine' DP.at_mk KX G ?a_u136 ?l_u136 ?c_u136 ?k_u136 DP.hb__law_levels; (case a_u136 => k_is); (case l_u136 => k_is); (case c_u136 => k_is); (case k_u136 => k_is)))
    (case a__law_meet => (refine' DP.at_mk KX G ?a_u137 ?l_u137 ?c_u137 ?k_u137 DP.hb__law_meet; (case a_u137 => k_is); (case l_u137 => k_is); (case c_u137 => k_is); (case k_u137 => k_is)))
    (case a__law_things => (refine' DP.at_mk KX G ?a_u138 ?l_u138 ?c_u138 ?k_u138 DP.hb__law_things; (case a_u138 => k_is); (case l_u138 => k_is); (case c_u138 => k_is); (case k_u138 => k_is)))
    (case a__law_first_breaches => (refine' DP.at_mk KX G ?a_u139 ?l_u139 ?c_u139 ?k_u139 DP.hb__law_first_breaches; (case a_u139 => k_is); (case l_u139 => k_is); (case c_u139 => k_is); (case k_u139 => k_is)))
    (case a__law_breaches => (refine' DP.at_mk KX G ?a_u140 ?l_u140 ?c_u140 ?k_u140 DP.hb__law_breaches; (case a_u140 => k_is); (case l_u140 => k_is); (case c_u140 => k_is); (case k_u140 => k_is)))
    (case a__law_told => (refine' DP.at_mk KX G ?a_u141 ?l_u141 ?c_u141 ?k_u141 DP.hb__law_told; (case a_u141 => k_is); (case l_u141 => k_is); (case c_u141 => k_is); (case k_u141 => k_is)))
    (case a__law_kept => (refine' DP.at_mk KX G ?a_u142 ?l_u142 ?c_u142 ?k_u142 DP.hb__law_kept; (case a_u142 => k_is); (case l_u142 => k_is); (case c_u142 => k_is); (case k_u142 => k_is)))
    (case a_law => (refine' DP.at_mk KX G ?a_u143 ?l_u143 ?c_u143 ?k_u143 DP.hb_law; (case a_u143 => k_is); (case l_u143 => k_is); (case c_u143 => k_is); (case k_u143 => k_is)))
