import PyProof.Rows.All
import Wide.All
import OpenK.AllK
import Wide.FinOn
import HandS.ForMost
import HandS.IsInst
import HandS.Sort
import HandS.Conv
import HandS.ClsMeth
import HandS.CallLocal
import HandS.Codes
import HandS.NoneIn
import HandS.Walk
import HandS.Defaults
import HandS.Strs
import HandS.SlotsOwn
import HandS.TupAny
import HandS.TupMul
import HandS.Deep
import HandS.FStr
import HandS.Zip
import HandS.TupLe
import HandS.Star
import HandS.TupSets
import KE.DataCmp
import HandS.Flow
import HandS.WordsExc
import HandS.TryOnly
import HandS.ExcIs
import HandS.ExcField
import HandS.ExcInit
import HandS.ExcSuper
import KE.KExcSuper
import KE.RegKSuper
import KE.GoesEnumKw
import PySem.Challenge.RW_downpass_k05_names_and_order_of_lines
set_option Elab.async false
set_option linter.all false
set_option maxRecDepth 100000
set_option maxHeartbeats 4000000
namespace DP
open PySem PySem.Spec PyProof.Rows L2
def isPl (p : Addr) (h : Heap) : Prop := ∃ (n : Int) (t : Tok) (k : Nat), h.get? p = some { cls := .type "list", data := .seq #[.int n t] k }
def plO (p : Addr) : HO := .ext (isPl p)
section
variable {P : Program} {w : World} {K : PySem.W.Frag} {mg : Str → Option Value} {base : Heap} {k : Nat} {f : Addr} {fd : FuncData} {ps : List Str} {sp sp' : Sp}
/-- the same objects by another heap that differs at p alone, where neither says own or tuple -/
theorem stay_at {H H' : Hp} {h : Heap} {p a : Addr} {o : HO} (x : ObjOk P w H h a o) (e : ∀ b, b ≠ p → H b = H' b) (n1 : ∀ y, H p ≠ some (.own y)) (n2 : ∀ xs, H p ≠ some (.tup xs)) : ObjOk P w H' h a o :=
  x.stay (fun _ _ _ q => q) (fun b q => by
    have hb : b ≠ p := fun z => n1 _ (z ▸ q)
    rw [← e b hb]; exact q) (fun b xs q => by
    have hb : b ≠ p := fun z => n2 _ (z ▸ q)
    rw [← e b hb]; exact q)
theorem pl_open {H : Hp} {h : Heap} {p : Addr} (ok : HOk P w H h) (e : H p = some (plO p)) : ∃ n : Int, HOk P w (upd H p (.lst [.int n])) h := by
  obtain ⟨⟨n, t, k, g⟩, _⟩ := (show ObjOk P w H h p (.ext (isPl p)) from ok p _ e)
  refine ⟨n, fun a o q => ?_⟩
  by_cases ha : a = p
  · subst ha
    rw [upd_same] at q
    cases q
    exact ⟨(by show 1 ≤ sizeLine; decide), [.int n t], k, .cons ⟨t, rfl⟩ .nil, g⟩
  · rw [upd_ne ha] at q
    exact stay_at (p := p) (ok a o q) (fun b hb => (upd_ne hb).symm) (fun y z => by rw [e] at z; cases z) (fun y z => by rw [e] at z; cases z)
theorem pl_close {H : Hp} {h : Heap} {p : Addr} {m : Int} (ok : HOk P w H h) (e : H p = some (.lst [.int m])) : HOk P w (upd H p (plO p)) h := by
  obtain ⟨_, its, k, r, g⟩ := (show ObjOk P w H h p (.lst [.int m]) from ok p _ e)
  refine fun a o q => ?_
  by_cases ha : a = p
  · subst ha
    rw [upd_same] at q
    cases q
    cases r with
    | cons r1 r2 =>
      cases r2
      obtain ⟨t, rfl⟩ := r1
      refine ⟨⟨m, t, k, g⟩, ⟨_, g⟩, fun h1 h2 z y => ?_⟩
      obtain ⟨n', t', k', g'⟩ := z
      exact ⟨n', t', k', y _ g'⟩
  · rw [upd_ne ha] at q
    exact stay_at (p := p) (ok a o q) (fun b hb => (upd_ne hb).symm) (fun y z => by rw [e] at z; cases z) (fun y z => by rw [e] at z; cases z)
/-- a def that turns the counter, told as one that changes nothing -/
theorem hide_in (F : FnOk P w K mg base CX0 k f fd ps sp) (hl : ∀ vs H Q E, sp' vs H Q E → vs.length = ps.length)
    (hs : ∀ vs H Q E, sp' vs H Q E → ∃ p, H p = some (plO p) ∧ ∀ n : Int, sp vs (upd H p (.lst [.int n])) (fun v H' => (∃ m : Int, H' = upd H p (.lst [.int m])) ∧ Q v H) E) : FnOk P w K mg base CX0 k f fd ps sp' := by
  refine ⟨hl, fun A outer s H args us vs Q E hr he hb hv h => ?_⟩
  obtain ⟨p, ep, h1⟩ := hs vs H Q E h
  obtain ⟨n, ok⟩ := pl_open he.hok ep
  have h2 := h1 n
  have hne : ∀ b, H b = none → b ≠ p := fun b z y => by rw [y, ep] at z; cases z
  refine codeAny_mono (F.run A outer s _ args us vs _ E hr ⟨he.frames, he.mod, fun b o z => ⟨(he.bs b o z).1, by rw [upd_ne (hne b (he.bs b o z).2)]; exact (he.bs b o z).2⟩, he.bsz, he.funs, fun b z => by rw [upd_ne (hne b (he.frf b z))]; exact he.frf b z, ok, he.bare⟩ hb hv h2) fun r s' hq => ?_
  cases r with
  | error e => exact hq.elim
  | ok fl =>
    cases fl with
    | next => exact False.elim hq
    | brk => exact False.elim hq
    | cont => exact False.elim hq
    | ret u =>
      obtain ⟨v, H', os, bare, un, hok, rv, ⟨m, rfl⟩, q⟩ := hq
      refine ⟨v, H, os, bare, ⟨fun b o z n hb hx => un.keep b o z (by rw [upd_ne (hne b n)]; exact n) hb hx, fun b o z n hb hx => un.slot b o z (by rw [upd_ne (hne b n)]; exact n) hb hx, fun _ _ _ n _ => n, un.there, fun _ _ z => z, fun _ _ _ z => z, fun _ ps z => ⟨#[], by rw [z]; simp⟩⟩, ?_, rv, q⟩
      have c := pl_close hok upd_same
      rw [upd_upd] at c
      intro a o z
      have c1 := c a
      have eq : upd H p (plO p) = H := by
        funext b
        by_cases hb : b = p
        · subst hb; rw [upd_same, ep]
        · rw [upd_ne hb]
      rw [eq] at c
      exact c a o z
/-- a def that hands back a heap with such a list: from then on it is a counter -/
theorem hide_out (F : FnOk P w K mg base CX0 k f fd ps sp) (hl : ∀ vs H Q E, sp' vs H Q E → vs.length = ps.length)
    (hs : ∀ vs H Q E, sp' vs H Q E → sp vs H (fun v H' => ∃ (p : Addr) (m : Int), H p = none ∧ H' p = some (.lst [.int m]) ∧ Q v (upd H' p (plO p))) E) : FnOk P w K mg base CX0 k f fd ps sp' := by
  refine ⟨hl, fun A outer s H args us vs Q E hr he hb hv h => ?_⟩
  refine codeAny_mono (F.run A outer s _ args us vs _ E hr he hb hv (hs vs H Q E h)) fun r s' hq => ?_
  cases r with
  | error e => exact hq.elim
  | ok fl =>
    cases fl with
    | next => exact False.elim hq
    | brk => exact False.elim hq
    | cont => exact False.elim hq
    | ret u =>
      obtain ⟨v, H', os, bare, un, hok, rv, p, m, n0, ep, q⟩ := hq
      refine ⟨v, _, os, bare, ⟨un.keep, un.slot, fun b o z n hx => ?_, un.there, fun b xs z => ?_, fun b o u z => ?_, fun b ps z => ?_⟩, pl_close hok ep, rv, q⟩
      · have e1 := un.free b o z n hx
        rw [upd_ne (fun y => by rw [y, ep] at e1; cases e1)]
        exact e1
      · rw [upd_ne (ne_of_none z n0)]; exact un.tups b xs z
      · rw [upd_ne (ne_of_none z n0)]; exact un.frzs b o u z
      · rw [upd_ne (ne_of_none z n0)]; exact un.tbls b ps z
end
end DP
namespace DP
open PySem PySem.Spec PyProof.Rows L2
/-- the built-in names that the text leaves alone -/
structure Bt (mg : Str → Option Value) : Prop where
  len : mg "len" = none
  range : mg "range" = none
  int : mg "int" = none
  abs : mg "abs" = none
  isinstance : mg "isinstance" = none
  bool : mg "bool" = none
  str : mg "str" = none
  tuple : mg "tuple" = none
  list : mg "list" = none
  sum : mg "sum" = none
  min : mg "min" = none
  all : mg "all" = none
  enumerate : mg "enumerate" = none
structure DefOk (P : Program) (w : World) (K : PySem.W.Frag) (mg : Str → Option Value) (base : Heap) (CX : CXT) (k : Nat) (x : Str) (ps : List Str) (sp : Sp) : Prop where
  ex : ∃ f fd, FnOk P w K mg base CX k f fd ps sp ∧ mg x = some (.ref f) ∧ PySem.W.keepIn K (.ref f) = true ∧ Binds K fd ps [] ∧ ∃ oc od osl, K.lookup f = some ⟨oc, od, .func fd, osl⟩
/-- where a def stands -/
structure At (K : PySem.W.Frag) (mg : Str → Option Value) (x : Str) (st : Stmt) (ps : List Str) : Prop where
  ex : ∃ f fd, Fun K x x st f fd ∧ mg x = some (.ref f) ∧ Binds K fd ps []
theorem pe_f {X : Cx} {CX : CXT} {k : Nat} {x : Str} {ps : List Str} {sp : Sp} {E : XK} {e : Expr} {es : List Expr} {t : TA} {p pos : Pos} (D : DefOk X.prog X.w X.K X.mg X.base CX k x ps sp) (hr : Room k X.A) (hx : Passes CX X E) (ha : PA X (e :: es) t)
    (hg : Gl X x := by rfl) (hdb : (x == ("__debug__" : Str)) = false := by decide) (he : starEach (e :: es) X.env = (false, eval e X.env) :: starEach es X.env := by rfl) (hpl : (backTo pos (starEach es X.env)).any (·.1) = false := by rfl) :
    PE X (.Call (.Name x p) (e :: es) [] pos) (tCall sp [] E t) := by
  obtain ⟨f, fd, G, m, kp, b, _⟩ := D.ex
  exact pe_call G hr hg m kp b .nil hx ha hdb he hpl
section
variable {P : Program} {w : World} {K : PySem.W.Frag} {mg : Str → Option Value} {base : Heap} {x : Str} {st : Stmt} {ps N : List Str} {k : Nat} {sp sp' : Sp}
theorem At.ok (F : At K mg x st ps) (S : FnScope N ps (defScope st)) (len : ∀ vs H Q E, sp vs H Q E → vs.length = ps.length)
    (hbody : ∀ (f : Addr) (cdv : Value) (A : Around) (outer : List Env) (s : Shared) (H : Hp) (vs : List V) (Q : VK) (E : XK), Room k (A.deeper (envOfC x (defScope st) s.heap.objs.size f cdv)) → sp vs H Q E →
      ∃ t, PSs (cxOf CX0 P w K mg base N x (defScope st) f cdv A outer s H E).nox (defBody st) t ∧ t { nx := fun _ H' => Q .non H', rt := Q } (start N vs) H) : DefOk P w K mg base CX0 (k + 1) x ps sp := by
  obtain ⟨f, fd, G, m, b⟩ := F.ex
  obtain ⟨oc, od, _, _, _, _, _, _, osl, _, lk, _⟩ := G.ex
  exact ⟨f, fd, G.ok S len (fun cdv A outer s H vs Q E hr h => hbody f cdv A outer s H vs Q E hr h), m, G.kp, b, oc, od, osl, lk⟩
/-- the law's def, for the end -/
theorem At.end_ {l : PySem.W.OpenLaw} {fa : Addr} (F : At K mg x st ["script"]) (hfa : mg x = some (.ref fa)) (h : ∀ base : Heap, DefOk l.prog w K mg base CX0 k x ["script"] sp)
    (hb : ∀ (kV doc pm : Value) (an : Option Addr) (cdv ct v : Value), bindArgs (PySem.W.fnOf x x (defArgs st) (defBody st) (defScope st) .none kV doc pm an cdv ct) ⟨[v], []⟩ = pure [(("script" : Str), v)]) :
    ∃ fd : FuncData, (∀ (s : Shared) (v : Value), BindsTo s fd ⟨[v], []⟩ [("script", v)]) ∧ ∀ base : Heap, K.In base → base.Ns mainGlobals mg → FnOk l.prog w K mg base CX0 k fa fd ["script"] sp := by
  obtain ⟨f, fd, G, m, b⟩ := F.ex
  rw [hfa] at m
  cases m
  refine ⟨fd, fun s v => ?_, fun base _ _ => ?_⟩
  · obtain ⟨oc, od, kV, doc, pm, an, cdv, ct, osl, rfl, lk, _⟩ := G.ex
    exact .of_eq (hb kV doc pm an cdv ct v)
  obtain ⟨f', fd', G', m', _, _, oc', od', osl', lk'⟩ := (h base).ex
  rw [hfa] at m'
  cases m'
  obtain ⟨oc, od, _, _, _, _, _, _, osl, _, lk, _⟩ := G.ex
  rw [lk] at lk'
  cases lk'
  exact G'
theorem DefOk.hide_in (D : DefOk P w K mg base CX0 k x ps sp) (hl : ∀ vs H Q E, sp' vs H Q E → vs.length = ps.length)
    (hs : ∀ vs H Q E, sp' vs H Q E → ∃ p, H p = some (plO p) ∧ ∀ n : Int, sp vs (upd H p (.lst [.int n])) (fun v H' => (∃ m : Int, H' = upd H p (.lst [.int m])) ∧ Q v H) E) : DefOk P w K mg base CX0 k x ps sp' := by
  obtain ⟨f, fd, G, m, kp, b, lk⟩ := D.ex
  exact ⟨f, fd, DP.hide_in G hl hs, m, kp, b, lk⟩
theorem DefOk.hide_out (D : DefOk P w K mg base CX0 k x ps sp) (hl : ∀ vs H Q E, sp' vs H Q E → vs.length = ps.length)
    (hs : ∀ vs H Q E, sp' vs H Q E → sp vs H (fun v H' => ∃ (p : Addr) (m : Int), H p = none ∧ H' p = some (.lst [.int m]) ∧ Q v (upd H' p (plO p))) E) : DefOk P w K mg base CX0 k x ps sp' := by
  obtain ⟨f, fd, G, m, kp, b, lk⟩ := D.ex
  exact ⟨f, fd, DP.hide_out G hl hs, m, kp, b, lk⟩
theorem DefOk.imp (D : DefOk P w K mg base CX0 k x ps sp) (h : ∀ vs H Q E, sp' vs H Q E → sp vs H Q E) : DefOk P w K mg base CX0 k x ps sp' := by
  obtain ⟨f, fd, G, m, kp, b, lk⟩ := D.ex
  exact ⟨f, fd, G.imp h, m, kp, b, lk⟩
end
theorem at_mk {h : Heap} {K : PySem.W.Frag} {mg : Str → Option Value} (X : K.In h) (G : h.Ns mainGlobals mg) {x : Str} {st : Stmt} {ps : List Str} {f : Addr} {oc : Value} {od an : Option Addr} {osl : Array (Option Value)} {kV doc pm cdv ct : Value}
    (a : PySem.W.nsIn K mainGlobals x = some (some (.ref f))) (l : K.lookup f = some ⟨oc, od, .func (PySem.W.fnOf x x (defArgs st) (defBody st) (defScope st) .none kV doc pm an cdv ct), osl⟩)
    (c : PySem.W.codeIn K cdv x = true) (k : PySem.W.keepIn K (.ref f) = true)
    (hb : ∀ (kV doc pm : Value) (an : Option Addr) (cdv ct : Value) (us : List Value), us.length = ps.length → bindArgs (PySem.W.fnOf x x (defArgs st) (defBody st) (defScope st) .none kV doc pm an cdv ct) ⟨us, []⟩ = pure (ps.zip us)) : At K mg x st ps := by
  have F := fun_mk (st := st) l c k
  exact ⟨f, _, F, PySem.W.mg_of X G a, F.binds hb⟩
theorem same_new {H : Hp} {p : Addr} (h : H p = none) (o : HO) : Same H (upd H p o) := fun b u q => by rw [upd_ne (ne_of_none q h)]; exact q
theorem same_at {H H' : Hp} {p : Addr} (h : H p = none) (s : Same H H') (o : HO) : Same H (upd H' p o) := fun b u q => by rw [upd_ne (ne_of_none q h)]; exact s _ _ q
theorem Same.tup {K : PySem.W.Frag} {H H' : Hp} {a : Addr} {xs : List V} (e : Same H H') (h : SqT K H a xs) : SqT K H' a xs := by
  rcases h with (h | ⟨o, h⟩) | h
  · exact .inl (.inl (e _ _ h))
  · exact .inl (.inr ⟨o, e _ _ h⟩)
  · exact .inr h
theorem iteT' {c : Bool} {A B : Prop} (e : c = true) (h : A) : if c = true then A else B := by
  rw [if_pos e]
  exact h
theorem iteF' {c : Bool} {A B : Prop} (e : c = false) (h : B) : if c = true then A else B := by
  rw [e]
  exact iteF h
theorem small {n : Nat} (h : n ≤ 1000) : n ≤ sizeLine := Nat.le_of_lt (small1000 h)
end DP
namespace DP
open PySem PySem.Spec PyProof.Rows L2
/-- a span of two ints -/
def SpanV (K : PySem.W.Frag) (H : Hp) (x : V) (q : Int × Int) : Prop := ∃ t, x = .ref t ∧ SqT K H t [.int q.1, .int q.2]
abbrev Spans (K : PySem.W.Frag) (H : Hp) (xs : List V) (qs : List (Int × Int)) : Prop := Paired (SpanV K H) xs qs
theorem paired_snoc {α β : Type} {F : α → β → Prop} : ∀ {xs : List α} {ys : List β} {x : α} {y : β}, Paired F xs ys → F x y → Paired F (xs ++ [x]) (ys ++ [y])
  | _, _, _, _, .nil, h => .cons h .nil
  | _, _, _, _, .cons a t, h => .cons a (paired_snoc t h)
theorem paired_at {α β : Type} {F : α → β → Prop} : ∀ {xs : List α} {ys : List β} {i : Nat} {x : α}, Paired F xs ys → xs[i]? = some x → ∃ y, ys[i]? = some y ∧ F x y
  | _, _, _, _, .nil, h => by simp at h
  | _, _, 0, _, .cons a _, h => ⟨_, rfl, by rw [← Option.some.inj h]; exact a⟩
  | _, _, i + 1, _, .cons _ t, h => by
    obtain ⟨y, h1, h2⟩ := paired_at (i := i) t h
    exact ⟨y, h1, h2⟩
theorem paired_len {α β : Type} {F : α → β → Prop} {xs : List α} {ys : List β} (h : Paired F xs ys) : xs.length = ys.length := Paired.length h
/-- a tuple stands where a list is changed -/
theorem sqT_upd {K : PySem.W.Frag} {H : Hp} {t L : Addr} {xs ys : List V} {o : HO} (h : SqT K H t xs) (e : H L = some (.lst ys)) : SqT K (upd H L o) t xs := by
  rcases h with (h | ⟨u, h⟩) | h
  · exact .inl (.inl (by rw [upd_ne (ne_of h e (fun z => nomatch z))]; exact h))
  · exact .inl (.inr ⟨u, by rw [upd_ne (ne_of h e (fun z => nomatch z))]; exact h⟩)
  · exact .inr h
theorem Spans.upd {K : PySem.W.Frag} {H : Hp} {L : Addr} {xs ys : List V} {qs : List (Int × Int)} {o : HO} (h : Spans K H xs qs) (e : H L = some (.lst ys)) : Spans K (L2.upd H L o) xs qs :=
  Paired.mapP h fun _ _ ⟨t, h1, h2⟩ => ⟨t, h1, sqT_upd h2 e⟩
theorem Spans.same {K : PySem.W.Frag} {H H' : Hp} {xs : List V} {qs : List (Int × Int)} (h : Spans K H xs qs) (s : Same H H') : Spans K H' xs qs :=
  Paired.mapP h fun _ _ ⟨t, h1, h2⟩ => ⟨t, h1, Same.tup s h2⟩
end DP
namespace DP
open PySem PySem.Spec PyProof.Rows L2
abbrev tl (x : Str) : List Nat := TL.tl x
def num (n : Int) : Str := Str.ofString (toString n)
/-- a word of a line -/
def WdOk (w : Str) : Prop := tl w ≠ [] ∧ 32 ∉ tl w ∧ 10 ∉ tl w ∧ (tl w).length ≤ 16
def isL (c : Nat) : Bool := (decide (65 ≤ c) && decide (c ≤ 90)) || (decide (97 ≤ c) && decide (c ≤ 122))
def isD (c : Nat) : Bool := decide (48 ≤ c) && decide (c ≤ 57)
def NameOk (w : Str) : Prop := ∃ c r, tl w = c :: r ∧ isL c = true ∧ (∀ x ∈ r, (isL x || isD x) = true) ∧ r.length ≤ 14
theorem isL_lt {c : Nat} (h : isL c = true) : 65 ≤ c ∧ c ≤ 122 := by
  unfold isL at h
  simp only [Bool.or_eq_true, Bool.and_eq_true, decide_eq_true_eq] at h
  omega
theorem isD_lt {c : Nat} (h : isD c = true) : 48 ≤ c ∧ c ≤ 57 := by
  unfold isD at h
  simp only [Bool.and_eq_true, decide_eq_true_eq] at h
  omega
theorem sign_lt {c : Nat} (h : (isL c || isD c) = true) : 48 ≤ c ∧ c ≤ 122 := by
  rcases Bool.or_eq_true _ _ ▸ h with h | h
  · have := isL_lt h; omega
  · have := isD_lt h; omega
theorem NameOk.signs {w : Str} (h : NameOk w) : ∀ c ∈ tl w, (isL c || isD c) = true := by
  obtain ⟨c, r, e, hc, hr, _⟩ := h
  intro x hx
  rw [e] at hx
  rcases List.mem_cons.mp hx with rfl | hx
  · rw [hc]; rfl
  · exact hr x hx
theorem NameOk.wd {w : Str} (h : NameOk w) : WdOk w := by
  have hs := h.signs
  obtain ⟨c, r, e, hc, hr, hl⟩ := h
  refine ⟨by rw [e]; exact List.cons_ne_nil _ _, fun z => ?_, fun z => ?_, by rw [e, List.length_cons]; omega⟩
  · have := sign_lt (hs _ z); omega
  · have := sign_lt (hs _ z); omega
theorem num_nat {n : Int} (h : 0 ≤ n) : tl (num n) = TL.numL n.toNat := by
  have e : n = ((n.toNat : Nat) : Int) := by omega
  unfold num
  rw [e]
  exact TL.tl_num _
theorem numL_len7 {n : Nat} (h : n < 10000000) : (TL.numL n).length ≤ 7 := TL.numL_len (k := 7) (by decide) (by omega)
theorem num_wd {n : Int} (h0 : 0 ≤ n) (h1 : n < 10000000) : WdOk (num n) := by
  refine ⟨?_, ?_, ?_, ?_⟩
  · rw [num_nat h0]; exact TL.numL_ne _
  · rw [num_nat h0]; exact TL.numL_free (by omega)
  · rw [num_nat h0]; exact TL.numL_free (by omega)
  · rw [num_nat h0]; exact Nat.le_trans (numL_len7 (by omega)) (by decide)
/-- 0, or no 0 ahead -/
theorem numL_head {n : Nat} : ∀ r, TL.numL n = 48 :: r → n = 0 := by
  induction n using Nat.strongRecOn with
  | _ n ih =>
    intro r h
    by_cases c : n < 10
    · rw [TL.numL_lt c] at h
      have := (List.cons.inj h).1
      omega
    · rw [TL.numL_step (by omega)] at h
      cases q : TL.numL (n / 10) with
      | nil => exact absurd q (TL.numL_ne _)
      | cons a b =>
        rw [q] at h
        have e := (List.cons.inj h).1
        have := ih (n / 10) (by omega) b (by rw [q, e])
        omega
def sp : Str := Str.ofString " "
def nl : Str := Str.ofString "\n"
theorem tl_sp : tl sp = [32] := by decide +kernel
theorem tl_nl : tl nl = [10] := by decide +kernel
def row (ws : List Str) : Str := Str.join sp ws
theorem joinL_free {c : Nat} {S : List Nat} (hS : c ∉ S) : ∀ ps : List (List Nat), (∀ p ∈ ps, c ∉ p) → c ∉ TL.joinL S ps
  | [], _ => List.not_mem_nil
  | [p], h => h p List.mem_cons_self
  | p :: q :: r, h => by
    show c ∉ p ++ (S ++ TL.joinL S (q :: r))
    have ih := joinL_free hS (q :: r) fun x hx => h x (List.mem_cons_of_mem _ hx)
    intro z
    rcases List.mem_append.mp z with z | z
    · exact h p List.mem_cons_self z
    · rcases List.mem_append.mp z with z | z
      · exact hS z
      · exact ih z
theorem joinL_len {m : Nat} {S : List Nat} : ∀ ps : List (List Nat), (∀ p ∈ ps, p.length ≤ m) → (TL.joinL S ps).length ≤ ps.length * (m + S.length)
  | [], _ => Nat.zero_le _
  | [p], h => by
    have := h p List.mem_cons_self
    show p.length ≤ 1 * (m + S.length)
    omega
  | p :: q :: r, h => by
    have ih := joinL_len (S := S) (q :: r) fun x hx => h x (List.mem_cons_of_mem _ hx)
    have h1 := h p List.mem_cons_self
    show (p ++ (S ++ TL.joinL S (q :: r))).length ≤ ((q :: r).length + 1) * (m + S.length)
    rw [List.length_append, List.length_append, Nat.add_mul]
    omega
/-- the text of rows, each with its newline -/
def glue (rows : List Str) : Str := Str.join nl (rows ++ [Str.empty])
theorem glue_split {rows : List Str} (h : ∀ r ∈ rows, 10 ∉ tl r) : Txt.split (glue rows) nl = rows ++ [Str.empty] := by
  have e := TL.split_join (y := nl) (s := 10) (S := []) tl_nl (by decide +kernel) (parts := rows ++ [Str.empty]) (by simp) (fun p hp => by
    rcases List.mem_append.mp hp with hp | hp
    · exact h p hp
    · rw [List.mem_singleton.mp hp]
      exact List.not_mem_nil)
  rw [TL.join_eq] at e
  exact e
theorem glue_tl : ∀ rows : List Str, tl (glue rows) = (rows.map fun r => tl r ++ [10]).flatten
  | [] => rfl
  | [r] => by
    show tl (r ++ nl ++ Str.empty) = tl r ++ [10] ++ []
    rw [show tl (r ++ nl ++ Str.empty) = tl (r ++ nl) ++ tl Str.empty from TL.tl_append _ _, show tl (r ++ nl) = tl r ++ tl nl from TL.tl_append _ _, tl_nl]
    rfl
  | r :: q :: z => by
    have ih := glue_tl (q :: z)
    show tl (r ++ nl ++ Str.join nl ((q :: z) ++ [Str.empty])) = tl r ++ [10] ++ ((q :: z).map fun r => tl r ++ [10]).flatten
    rw [show tl (r ++ nl ++ Str.join nl ((q :: z) ++ [Str.empty])) = tl (r ++ nl) ++ tl (Str.join nl ((q :: z) ++ [Str.empty])) from TL.tl_append _ _, show tl (r ++ nl) = tl r ++ tl nl from TL.tl_append _ _, tl_nl, ← ih]
    rfl
/-- the law's own making of it: no separator, each row with its newline -/
theorem join_nl (rows : List Str) : Txt.join Str.empty (rows.map fun r => r ++ nl) = glue rows := by
  refine TL.ext_tl ?_
  show tl _ = tl _
  rw [glue_tl, TL.join_eq]
  rw [show tl (Str.join Str.empty (rows.map fun r => r ++ nl)) = TL.joinL (tl Str.empty) ((rows.map fun r => r ++ nl).map tl) from TL.tl_join _ _]
  rw [List.map_map]
  have e : (tl ∘ fun r : Str => r ++ nl) = fun r => tl r ++ [10] := by
    funext r
    show tl (r ++ nl) = _
    rw [show tl (r ++ nl) = tl r ++ tl nl from TL.tl_append _ _, tl_nl]
  rw [e]
  generalize (rows.map fun r => tl r ++ [10]) = ls
  have flat : ∀ ls : List (List Nat), TL.joinL (tl Str.empty) ls = ls.flatten := by
    intro ls
    induction ls with
    | nil => rfl
    | cons a r ih =>
      cases r with
      | nil =>
        show a = a ++ []
        rw [List.append_nil]
      | cons b t =>
        show a ++ ([] ++ TL.joinL (tl Str.empty) (b :: t)) = a ++ (b :: t).flatten
        rw [List.nil_append, ih]
  exact flat ls
theorem glue_len {rows : List Str} {m : Nat} (h : ∀ r ∈ rows, r.length ≤ m) : (glue rows).length ≤ (rows.length + 1) * (m + 1) := by
  rw [TL.len_tl]
  unfold glue
  rw [show TL.tl (Str.join nl (rows ++ [Str.empty])) = TL.joinL (tl nl) ((rows ++ [Str.empty]).map tl) from TL.tl_join _ _]
  have := joinL_len (m := m) (S := tl nl) ((rows ++ [Str.empty]).map tl) fun p hp => by
    obtain ⟨w, hw, rfl⟩ := List.mem_map.mp hp
    rcases List.mem_append.mp hw with hw | hw
    · have := h w hw
      rw [TL.len_tl] at this
      exact this
    · rw [List.mem_singleton.mp hw]
      exact Nat.zero_le _
  rw [List.length_map, List.length_append, tl_nl] at this
  rw [tl_nl]
  exact this
structure SatD where
  name : Str
  store : Int
  battery : Int
  level : Int
  reserve : Int
  charge : Int
  settle : Int
  light : List (Int × Int)
structure StaD where
  name : Str
  antennas : Int
  turn : Int
structure RecD where
  name : Str
  sat : Nat
  earliest : Int
  latest : Int
  length : Int
  size : Int
  energy : Int
  worth : Int
  rank : Int
  deadline : Int
structure PasD where
  name : Str
  sat : Nat
  sta : Nat
  first : Int
  fin : Int
  room : Int
  energy : Int
  fee : Int
structure WorldD where
  horizon : Int
  sats : List SatD
  stas : List StaD
  recs : List RecD
  pass : List PasD
def lightW : List (Int × Int) → List Str
  | [] => []
  | q :: r => num q.1 :: num q.2 :: lightW r
def wHor (h : Int) : List Str := [Str.ofString "horizon", num h]
def wSat (s : SatD) : List Str := [Str.ofString "satellite", s.name, Str.ofString "store", num s.store, Str.ofString "battery", num s.battery, Str.ofString "level", num s.level,
  Str.ofString "reserve", num s.reserve, Str.ofString "charge", num s.charge, Str.ofString "settle", num s.settle, Str.ofString "light"] ++ lightW s.light
def wSta (s : StaD) : List Str := [Str.ofString "station", s.name, Str.ofString "antennas", num s.antennas, Str.ofString "turn", num s.turn]
def satN (W : WorldD) (i : Nat) : Str := ((W.sats.map (·.name))[i]?).getD Str.empty
def staN (W : WorldD) (i : Nat) : Str := ((W.stas.map (·.name))[i]?).getD Str.empty
def wRec (W : WorldD) (r : RecD) : List Str := [Str.ofString "recording", r.name, Str.ofString "by", satN W r.sat, Str.ofString "from", num r.earliest, Str.ofString "to", num r.latest,
  Str.ofString "length", num r.length, Str.ofString "size", num r.size, Str.ofString "energy", num r.energy, Str.ofString "worth", num r.worth, Str.ofString "rank", num r.rank, Str.ofString "until", num r.deadline]
def wPas (W : WorldD) (p : PasD) : List Str := [Str.ofString "pass", p.name, Str.ofString "by", satN W p.sat, Str.ofString "over", staN W p.sta, Str.ofString "from", num p.first, Str.ofString "to", num p.fin,
  Str.ofString "room", num p.room, Str.ofString "energy", num p.energy, Str.ofString "fee", num p.fee]
def linesW (W : WorldD) : List (List Str) := wHor W.horizon :: (W.sats.map wSat ++ W.stas.map wSta ++ W.recs.map (wRec W) ++ W.pass.map (wPas W))
def textW (W : WorldD) : Str := glue ((linesW W).map row)
def LightOk : Int → Int → List (Int × Int) → Prop
  | _, _, [] => True
  | least, h, q :: r => least ≤ q.1 ∧ q.1 + 1 ≤ q.2 ∧ q.2 ≤ h ∧ LightOk q.2 h r
theorem LightOk.len {h : Int} : ∀ {l : List (Int × Int)} {least : Int}, LightOk least h l → least ≤ h → (l.length : Int) ≤ h - least
  | [], least, _, hl => by show (0 : Int) ≤ h - least; omega
  | q :: r, least, ⟨h1, h2, h3, h4⟩, hl => by
    have := h4.len h3
    rw [List.length_cons]
    omega
theorem LightOk.wd {h : Int} (hh : h ≤ 500) : ∀ {l : List (Int × Int)} {least : Int}, 0 ≤ least → LightOk least h l → ∀ w ∈ lightW l, WdOk w
  | [], _, _, _, w, hw => absurd hw List.not_mem_nil
  | q :: r, least, h0, ⟨h1, h2, h3, h4⟩, w, hw => by
    rcases List.mem_cons.mp hw with rfl | hw
    · exact num_wd (by omega) (by omega)
    · rcases List.mem_cons.mp hw with rfl | hw
      · exact num_wd (by omega) (by omega)
      · exact h4.wd hh (by omega) w hw
end DP
namespace DP
open PySem PySem.Spec PyProof.Rows L2
/-- the list at a as it stands at each turn, each item in a new pair with the count from k on -/
def IteS (K : PySem.W.Frag) (a : Addr) (k : Int) : It :=
  ⟨fun i H => ∃ (xs : List V) (x : V), SqL K H a xs ∧ xs[i]? = some x,
   fun i H v H' => ∃ T x, v = .ref T ∧ H T = none ∧ H' = upd H T (.tup [.int (k + (i : Nat)), x]) ∧ ∀ xs, SqL K H a xs → xs[i]? = some x,
   fun i H => ∃ xs : List V, SqL K H a xs ∧ xs.length ≤ i⟩
theorem list_not_iter {h : Heap} {a it : Addr} {its : Array Value} {i : Nat} (l : h.IsList a its) (r : h.IsListIter it a i) : a ≠ it := fun z => by
  obtain ⟨o, ho, hc, _⟩ := l
  obtain ⟨o', ho', hc', _⟩ := r
  rw [z, ho'] at ho
  cases ho
  rw [hc] at hc'
  exact absurd hc' (by decide)
theorem turn_enumS {P : Program} {w : World} {K : PySem.W.Frag} {elts : List Expr} {kk : Nat} {tpos : Pos} (a en it : Addr) (k : Int) :
    Turn P w K (.Tuple elts kk tpos) (IteS K a k) [en, it] en (fun i h => (∃ old, IsEnum h en it (k + ((i : Nat) : Int)) old) ∧ h.IsListIter it a i ∧ en ≠ it) where
  mem := by simp
  obj := fun i h st b hb => by
    obtain ⟨⟨old, hen⟩, ⟨o, ho, hc, hd⟩, _⟩ := st
    have two : b = en ∨ b = it := by simpa using hb
    rcases two with z | z
    · subst z
      exact ⟨_, hen, fun v q => nomatch q⟩
    · subst z
      exact ⟨o, ho, fun v q => by rw [hd] at q; cases q⟩
  keep := fun i h h' st kp => by
    obtain ⟨⟨old, hen⟩, hi, hne⟩ := st
    exact ⟨⟨old, kp en (by simp) _ hen⟩, hi.at fun o q => kp it (by simp) o q, hne⟩
  item := by
    intro X hP hw hK hc i pins s σ H E I hf st hg
    subst hP hw hK
    obtain ⟨⟨old, hen⟩, hit, hne⟩ := st
    obtain ⟨xs, x, hq, hx⟩ := hg
    obtain ⟨its, rv, pl, hz⟩ := I.list hq
    obtain ⟨u, hu, ru⟩ := rv.get hx
    have en_lt : en < s.heap.objs.size := Heap.lt_size hen
    have it_lt : it < s.heap.objs.size := by
      obtain ⟨_, q, _⟩ := hit
      exact Heap.lt_size q
    have nel := list_not_iter pl.isList hit
    have Dr := Draws.list (prog := X.prog) (w := X.w) (A := X.A.in1) (I.ok.hd hc) it a nel its.toArray
    have hi : i < its.toArray.size := by
      have := (List.getElem?_eq_some_iff.mp hu).1
      simpa using this
    by_cases ea : en = a
    · exfalso
      obtain ⟨o, ho, hc', _⟩ := pl.isList
      rw [← ea, hen] at ho
      cases ho
      have e : Value.type "enumerate" = Value.type "list" := hc'
      exact absurd e (by decide)
    refine wpAny_pyNext_enum_itemC Dr hen ⟨hit, pl.isList⟩ hi hne (by simp [hne, ea]) fun x' h' tk hP ho hit' hT hsz hk => ?_
    have ex : x' = u := by
      have e1 : its.toArray[i]? = some x' := hP
      have e2 : its.toArray[i]? = some u := by simpa using hu
      exact Option.some.inj (e1.symm.trans e2)
    subst ex
    refine ⟨_, rfl, wpAny_letOwnedTupleGo_enum (s := { s with heap := h', toks := tk + 1 }) ho fun h2 hen2 sb => ?_⟩
    have hT2 : h2.get? s.heap.objs.size = some { cls := .type "tuple", data := .seq #[.int (k + (i : Int)) tk, x'] } :=
      (sb.2 _ (Nat.ne_of_gt en_lt)).trans hT
    have fresh : H s.heap.objs.size = none := I.hok.fresh (Nat.le_refl _)
    have new : ObjOk X.prog X.w (upd H s.heap.objs.size (.tup [.int (k + (i : Nat)), x])) h2 s.heap.objs.size (.tup [.int (k + (i : Nat)), x]) :=
      ⟨(by show 2 ≤ sizeLine; decide), [.int (k + (i : Int)) tk, x'], .cons ⟨_, rfl⟩ (.cons ru .nil), ⟨_, hT2, rfl, _, rfl⟩⟩
    have keepAll : ∀ b ob, b ∉ [en, it] → s.heap.get? b = some ob → h2.get? b = some ob := fun b ob hb q => by
      have n1 : b ≠ en := fun z => hb (by simp [z])
      have n2 : b ≠ it := fun z => hb (by simp [z])
      exact (sb.2 b n1).trans (hk b ob n1 n2 q)
    have I1 := I.turnedNew (t' := tk + 1) (ch := [en, it]) keepAll hf (Nat.le_refl _) new
    refine ⟨.ref s.heap.objs.size, _, I1, rfl, ⟨_, x, rfl, fresh, rfl, fun ys hy => ?_⟩, ⟨⟨x', ?_⟩, ?_, hne⟩, fun b hb => ?_⟩
    · rw [I.list_inj hy hq]
      exact hx
    · have e1 : k + ((i + 1 : Nat) : Int) = k + (i : Int) + 1 := by omega
      rw [e1]
      exact hen2
    · exact hit'.1.at fun o q => (sb.2 it (Ne.symm hne)).trans q
    · have hb' : b < s.heap.objs.size := by
        have two : b = en ∨ b = it := by simpa using hb
        rcases two with z | z
        · rw [z]; exact en_lt
        · rw [z]; exact it_lt
      rw [upd_ne (Nat.ne_of_lt hb')]
      exact (hf b hb).1
  done := by
    intro X hP hw hK hc i pins s σ H E I hf st hg
    subst hP hw hK
    obtain ⟨⟨old, hen⟩, hit, hne⟩ := st
    obtain ⟨xs, hq, hx⟩ := hg
    obtain ⟨its, rv, pl, hz⟩ := I.list hq
    have hl := rv.length
    obtain ⟨f0, f1, f2, f3, f4, f5⟩ := hf it (by simp)
    have hT : s.TypeIs (.ref en) "enumerate" := ⟨_, hen, rfl⟩
    unfold pyNext
    refine wpAny_bind (wpAny_attempt (wpAny_callSpecial?_slot (name := Str.ofString "__next__") hT F.slot_enumerate_next
      (wpAny_call_entry F.slot_enumerate_next hT F.entry_enumerate_next ?_
        (F.args_enumerate_next_1 _))))
    show wpAny _ _ (field (.ref en) 2 >>= _) _ _ _
    refine wpAny_bind (wpAny_field hen rfl (x := .ref it) rfl ?_)
    refine wpAny_bind (wpAny_nextOf_list_end (I.ok.hd hc) hit pl.isList (by simp; omega) fun h' e eb hcl => ?_)
    obtain ⟨o, ho, hcs⟩ := hcl
    refine wpAny_bind (wpAny_isInstance (T := "StopIteration") (b := true) ⟨o, ho, hcs⟩ isSubtype_stop ?_)
    exact wpAny_pure ⟨rfl, I.turned (t' := s.toks) (fun b o hb q => eb b o hb q) f0 f1 f3 f4 f5⟩
  self := fun A i s Q E st h => let ⟨⟨_, hen⟩, _⟩ := st; wpAny_pyIter_enum hen h
/-- enumerate(xs, start=k), walked into a written tuple of names -/
def iEnumS (K : PySem.W.Frag) (ta tk : TA) : TI := fun σ H R => ta σ H fun vs H1 => tk σ H1 fun zs H2 =>
  ∃ a xs k, vs = [.ref a] ∧ zs = [.int k] ∧ SqL K H2 a xs ∧ -(2 ^ 63) ≤ k ∧ k < 2 ^ 63 ∧ R (IteS K a k) H2
theorem pi_enumS {X : Cx} {e ke : Expr} {ta tk : TA} {p pos tpos kp : Pos} {elts : List Expr} {kk : Nat} (hg : Gl X "enumerate") (hm : X.mg "enumerate" = none) (ha : PA X [e] ta) (hk : PK X [⟨some "start", ke, kp⟩] tk)
    (hs : starEach [e] X.env = (false, eval e X.env) :: starEach [] X.env := by rfl) (hpl : ((backTo pos (starEach [e] X.env)).any (·.1) || (backToKw pos (keywordEach [⟨some "start", ke, kp⟩] X.env)).any (·.1.isNone)) = false := by rfl) :
    PI X (.Tuple elts kk tpos) (.Call (.Name "enumerate" p) [e] [⟨some "start", ke, kp⟩] pos) (iEnumS X.K ta tk) := by
  refine ⟨fun pins s σ H R I h => ?_⟩
  refine wpAny_Call_Name_kw (ld_blt I hg hm boot_enumerate ?_)
  refine PySem.W.callWith_of (P := fun _ => True) hpl (fun h _ => ⟨.machine, .inr (.inl rfl), PySem.W.Looks.of_pure rfl⟩) (evalArgs_kw2 (by rfl)
    (thn (ha.run pos pins s σ H _ I h) fun us s1 ⟨vs, H1, I1, r1, q1⟩ => thn (hk.run pos pins s1 σ H1 _ I1 q1) fun ws s2 ⟨zs, H2, I2, r2, q2⟩ => ⟨True.intro, ?_⟩) hs)
  obtain ⟨a, xs, k, ex, ez, hq, b1, b2, q⟩ := q2
  subst ex ez
  obtain ⟨u, eu, ru⟩ := vals1 r1
  obtain ⟨z, ez, rz⟩ := vals1 r2
  subst eu ez
  cases ru
  obtain ⟨t, et⟩ := (show ∃ t, z = Value.int k t from rz)
  subst et
  obtain ⟨its, rv, pl, hz⟩ := I2.list hq
  show wpAny _ _ (call (.type "enumerate") [.ref a] [(Str.ofString "start", .int k t)]) _ _ _
  refine enum_begins_start (begins_list a its.toArray) pl.isList b1 b2 fun h' hen hit hsz hkp => wpAny_pyIter_enum hen ?_
  have I3 : Inv X pins σ H2 { s2 with heap := h' } := I2.kept (t' := s2.toks) hkp
  refine ⟨s2.heap.objs.size + 1, [s2.heap.objs.size + 1, s2.heap.objs.size], _, _, H2, rfl, I3, turn_enumS a (s2.heap.objs.size + 1) s2.heap.objs.size k,
    ⟨⟨.none, ?_⟩, ⟨_, hit, rfl, rfl⟩, Nat.succ_ne_self _⟩, fun b hb => ?_, q⟩
  · show IsEnum h' _ _ (k + 0) _
    rw [Int.add_zero]
    exact hen
  · have two : b = s2.heap.objs.size + 1 ∨ b = s2.heap.objs.size := by simpa using hb
    have hle : s2.heap.objs.size ≤ b := by
      rcases two with z | z
      · rw [z]; exact Nat.le_add_right _ 1
      · rw [z]; exact Nat.le_refl _
    exact I2.fpOk hle (I2.hok.fresh hle)
theorem walk_enumS {K : PySem.W.Frag} {a : Addr} {k : Int} {xs : List V} :
    Walk (IteS K a k) xs.length (fun H => SqL K H a xs) (fun i H v H' => ∃ T x, v = .ref T ∧ H T = none ∧ H' = upd H T (.tup [.int (k + (i : Nat)), x]) ∧ xs[i]? = some x) :=
  ⟨fun i H hi q => ⟨xs, xs[i], q, List.getElem?_eq_getElem hi⟩, fun H q => ⟨xs, q, Nat.le_refl _⟩, fun i H v H' hi q ⟨T, x, e1, e2, e3, e4⟩ => ⟨T, x, e1, e2, e3, e4 xs q⟩⟩
theorem same_mk {H H' : Hp} {x dx : Addr} {o u : HO} (hx : H x = none) (hd : H dx = none) (s : ∀ b v, b ≠ x → (upd (upd H dx o) x u) b = some v → H' b = some v) : Same H H' := fun b v e => by
  have n1 : b ≠ x := ne_of_none e hx
  exact s b v n1 (by rw [upd_ne n1, upd_ne (ne_of_none e hd)]; exact e)
end DP
namespace DP
open PySem PySem.Spec PyProof.Rows L2
structure ClsAt (K : PySem.W.Frag) (mg : Str → Option Value) (x : Str) (C : Addr) : Prop where
  cl : Cls K C
  mkC : PySem.W.makesIn K C = true
  kp : PySem.W.keepIn K (.ref C) = true
  gC : mg x = some (.ref C)
structure MAt (K : PySem.W.Frag) (C : Addr) (m qual : Str) (st : Stmt) (ps : List Str) : Prop where
  ex : ∃ f fd, Fun K m qual st f fd ∧ Meth K C m f ∧ Binds K fd ps []
structure MDef (P : Program) (w : World) (K : PySem.W.Frag) (mg : Str → Option Value) (base : Heap) (CX : CXT) (k : Nat) (C : Addr) (m : Str) (ps : List Str) (ds : List V) (sp : Sp) : Prop where
  ex : ∃ f fd us, FnOk P w K mg base CX k f fd ps sp ∧ Meth K C m f ∧ Binds K fd ps us ∧ Vals ds us
section
variable {X : Cx} {CX : CXT} {k : Nat} {C : Addr} {x m : Str} {ps : List Str} {ds : List V} {sp : Sp} {E : XK} {o e : Expr} {es : List Expr} {ta : TE} {t : TA} {p pos apos : Pos} {pl : Sem Bool}
theorem pe_m (D : MDef X.prog X.w X.K X.mg X.base CX k C m ps ds sp) (c : Cls X.K C) (hr : Room k X.A) (hx : Passes CX X E) (he : PE X o ta) (ha : PA X (e :: es) t)
    (hst : starEach (e :: es) X.env = (false, eval e X.env) :: starEach es X.env := by rfl) (hpl : (backTo pos (starEach es X.env)).any (·.1) = false := by rfl)
    (ht : eval (.Call (.Attribute o m apos) (e :: es) [] pos) X.env = (do
      let ov ← eval o X.env
      standAt apos.atName
      let (f, first) ← holding [ov] (getMethod ov m pl)
      callWith pos f first (backTo pos (starEach (e :: es) X.env)) (backToKw pos (keywordEach [] X.env))) := by rfl) :
    PE X (.Call (.Attribute o m apos) (e :: es) [] pos) (tMeth C m sp ds E ta t) := by
  obtain ⟨f, fd, us, G, M, b, v⟩ := D.ex
  exact pe_meth (pl := pl) he c M G hr b v hx ha hst hpl ht
theorem pe_m0 (D : MDef X.prog X.w X.K X.mg X.base CX k C m ps ds sp) (c : Cls X.K C) (hr : Room k X.A) (hx : Passes CX X E) (he : PE X o ta)
    (ht : eval (.Call (.Attribute o m apos) [] [] pos) X.env = (do
      let ov ← eval o X.env
      standAt apos.atName
      let (f, first) ← holding [ov] (getMethod ov m pl)
      callWith pos f first (backTo pos (starEach [] X.env)) (backToKw pos (keywordEach [] X.env))) := by rfl) :
    PE X (.Call (.Attribute o m apos) [] [] pos) (tMeth C m sp ds E ta tNil) := by
  obtain ⟨f, fd, us, G, M, b, v⟩ := D.ex
  exact pe_meth0 (pl := pl) he c M G hr b v hx ht
theorem pe_mk (D : MDef X.prog X.w X.K X.mg X.base CX k C "__init__" ps ds sp) (c : ClsAt X.K X.mg x C) (hr : Room (k + 1) X.A) (hx : Passes CX X E) (ha : PA X (e :: es) t) (hg : Gl X x := by rfl)
    (hdb : (x == ("__debug__" : Str)) = false := by decide) (he : starEach (e :: es) X.env = (false, eval e X.env) :: starEach es X.env := by rfl) (hpl : (backTo pos (starEach es X.env)).any (·.1) = false := by rfl) :
    PE X (.Call (.Name x p) (e :: es) [] pos) (tMake C sp ds E t) := by
  obtain ⟨f, fd, us, G, M, b, v⟩ := D.ex
  exact pe_make ⟨c.mkC, M.at_, M.fn, c.kp⟩ G hr hg c.gC b v hx ha hdb he hpl
/-- a constant of the module -/
theorem pe_gi {i : Int} (h : ∃ t, X.mg x = some (.int i t)) (hg : Gl X x := by rfl) (hd : (x == ("__debug__" : Str)) = false := by decide) : PE X (.Name x pos) (tC (.int i)) := by
  obtain ⟨t, h⟩ := h
  exact pe_glob hg h ⟨t, rfl⟩ hd
theorem pe_gs {z : Str} (h : ∃ t, X.mg x = some (.str z t)) (hg : Gl X x := by rfl) (hd : (x == ("__debug__" : Str)) = false := by decide) : PE X (.Name x pos) (tC (.str z)) := by
  obtain ⟨t, h⟩ := h
  exact pe_glob hg h ⟨t, rfl⟩ hd
theorem pe_ga {a : Addr} (h : X.mg x = some (.ref a)) (hg : Gl X x := by rfl) (hd : (x == ("__debug__" : Str)) = false := by decide) : PE X (.Name x pos) (tC (.ref a)) := pe_glob hg h rfl hd
end
/-- a method with one default -/
structure MAtD (K : PySem.W.Frag) (C : Addr) (m qual : Str) (st : Stmt) (ps : List Str) (ds : List V) : Prop where
  ex : ∃ f fd us, FunD K m qual (defArgs st) (defBody st) (defScope st) ds [] f fd ∧ Meth K C m f ∧ Binds K fd ps us ∧ Vals ds us
theorem pe_fldK {X : Cx} {K : PySem.W.Frag} (h : X.K = K) {e : Expr} {ta : TE} {f : Str} {pos : Pos} (he : PE X e ta) (hb : attributeBase e f X.env (eval e X.env) = eval e X.env) : PE X (.Attribute e f pos) (tFld K ta f) := by
  subst h
  exact pe_fld he hb
theorem pg_tupK {X : Cx} {K : PySem.W.Frag} (h : X.K = K) {es : List Expr} {k n : Nat} {pos : Pos} {g : TGs} (hc : X.calm = true) (hs : PGs X es g)
    (hn : (assignEach es X.env).length = n := by rfl) (hst : (assignEach es X.env).findIdx? (·.1) = none := by rfl) : PG X (.Tuple es k pos) (gTup K n g) := by
  subst h
  exact pg_tup hc hs hn hst
section
variable {P : Program} {w : World} {K : PySem.W.Frag} {mg : Str → Option Value} {base : Heap} {C : Addr} {m qual : Str} {st : Stmt} {ps N : List Str} {k : Nat} {sp sp' : Sp} {ds : List V}
theorem MAt.ok (F : MAt K C m qual st ps) (S : FnScope N ps (defScope st)) (len : ∀ vs H Q E, sp vs H Q E → vs.length = ps.length)
    (hbody : ∀ (f : Addr) (cdv : Value) (A : Around) (outer : List Env) (s : Shared) (H : Hp) (vs : List V) (Q : VK) (E : XK), Room k (A.deeper (envOfC qual (defScope st) s.heap.objs.size f cdv)) → sp vs H Q E →
      ∃ t, PSs (cxOf CX0 P w K mg base N qual (defScope st) f cdv A outer s H E).nox (defBody st) t ∧ t { nx := fun _ H' => Q .non H', rt := Q } (start N vs) H) : MDef P w K mg base CX0 (k + 1) C m ps [] sp := by
  obtain ⟨f, fd, G, M, b⟩ := F.ex
  exact ⟨f, fd, [], G.ok S len (fun cdv A outer s H vs Q E hr h => hbody f cdv A outer s H vs Q E hr h), M, b, .nil⟩
theorem MAtD.ok (F : MAtD K C m qual st ps ds) (S : FnScope N ps (defScope st)) (len : ∀ vs H Q E, sp vs H Q E → vs.length = ps.length)
    (hbody : ∀ (f : Addr) (cdv : Value) (A : Around) (outer : List Env) (s : Shared) (H : Hp) (vs : List V) (Q : VK) (E : XK), Room k (A.deeper (envOfC qual (defScope st) s.heap.objs.size f cdv)) → sp vs H Q E →
      ∃ t, PSs (cxOf CX0 P w K mg base N qual (defScope st) f cdv A outer s H E).nox (defBody st) t ∧ t { nx := fun _ H' => Q .non H', rt := Q } (start N vs) H) : MDef P w K mg base CX0 (k + 1) C m ps ds sp := by
  obtain ⟨f, fd, us, G, M, b, v⟩ := F.ex
  refine ⟨f, fd, us, G.ok S len (fun cdv A outer s H vs Q E hr h => ?_), M, b, v⟩
  obtain ⟨t, h1, h2⟩ := hbody f cdv A outer s H vs Q E hr h
  exact ⟨t, h1.nox, h2⟩
theorem MDef.imp (D : MDef P w K mg base CX0 k C m ps ds sp) (h : ∀ vs H Q E, sp' vs H Q E → sp vs H Q E) : MDef P w K mg base CX0 k C m ps ds sp' := by
  obtain ⟨f, fd, us, G, M, b, v⟩ := D.ex
  exact ⟨f, fd, us, G.imp h, M, b, v⟩
end
theorem lk_hit {a : Str} {b : V} {es : List (Str × V)} : List.lookup a ((a, b) :: es) = some b := by
  unfold List.lookup
  rw [beq_self_eq_true]
theorem lk_miss {a k : Str} {b : V} {es : List (Str × V)} (h : (a == k) = false) : List.lookup a ((k, b) :: es) = List.lookup a es := by
  show (match a == k with | true => some b | false => List.lookup a es) = _
  rw [h]
theorem put_hit {f : Str} {v x : V} {r : List (Str × V)} : putF f v ((f, x) :: r) = (f, v) :: r := by
  show (if f = f then _ else _) = _
  rw [if_pos rfl]
theorem put_miss {f g : Str} {v x : V} {r : List (Str × V)} (h : (g == f) = false) : putF f v ((g, x) :: r) = (g, x) :: putF f v r := by
  have h1 : ¬ g = f := fun z => by
    rw [z, beq_self_eq_true] at h
    cases h
  show (if g = f then _ else _) = _
  rw [if_neg h1]
theorem put_nil {f : Str} {v : V} : putF f v [] = [(f, v)] := rfl
theorem put_lt {f : Str} {v : V} {k m : Nat} : ∀ {fs : List (Str × V)}, fs.length + (k + 1) < m → (putF f v fs).length + k < m
  | [], h => by
    show 1 + k < m
    have : 0 + (k + 1) < m := h
    omega
  | (g, x) :: r, h => by
    rw [List.length_cons] at h
    show (if g = f then (g, v) :: r else (g, x) :: putF f v r).length + k < m
    by_cases c : g = f
    · rw [if_pos c, List.length_cons]
      omega
    · rw [if_neg c, List.length_cons]
      have := put_lt (f := f) (v := v) (k := k + 1) (m := m) (fs := r) (by omega)
      omega
theorem put_lt0 {f : Str} {v : V} {m : Nat} {fs : List (Str × V)} (h : fs.length + 1 < m) : (putF f v fs).length < m := put_lt (k := 0) h
theorem ins_ne {H : Hp} {a b C D dx dy : Addr} {fs gs : List (Str × V)} (h : H a = some (.ins C dx fs)) (h' : H b = some (.ins D dy gs)) (n : fs.length ≠ gs.length) : a ≠ b := fun z => by
  rw [z, h'] at h
  injection h with h
  injection h with h1 h2 h3
  exact n (by rw [h3])
/-- all that stood but a is as it was -/
def SameX (a : Addr) (H H' : Hp) : Prop := ∀ b o, b ≠ a → H b = some o → H' b = some o
theorem SameX.refl (a : Addr) (H : Hp) : SameX a H H := fun _ _ _ h => h
theorem SameX.trans {a : Addr} {H H1 H2 : Hp} (x : SameX a H H1) (y : SameX a H1 H2) : SameX a H H2 := fun b o n h => y b o n (x b o n h)
theorem SameX.of {a : Addr} {H H' : Hp} (s : Same H H') : SameX a H H' := fun b o _ h => s b o h
theorem SameX.upd {a : Addr} {H : Hp} {o : HO} : SameX a H (L2.upd H a o) := fun b u n h => by rw [upd_ne n]; exact h
theorem SameX.at_ {a : Addr} {H H' : Hp} {o : HO} (x : SameX a H H') : SameX a H (L2.upd H' a o) := fun b u n h => by rw [upd_ne n]; exact x b u n h
end DP
namespace DP
open PySem PySem.Spec PyProof.Rows L2
def topS (i : Nat) : Stmt := PySem.Challenge.pw_downpass_k05_names_and_order_of_lines.main.body.getD i (.Pass ⟨0, 0, 0, 0⟩)
end DP
namespace DP
open PySem PySem.Spec PyProof.Rows L2
abbrev s_lines_of : Stmt := topS 8
theorem sc_lines_of : FnScope ["text", "rows", "last", "number", "row"] ["text"] (defScope s_lines_of) := ⟨rfl, rfl, rfl, by decide +kernel, rfl, by decide +kernel, by decide +kernel⟩
abbrev s_is_name : Stmt := topS 9
theorem sc_is_name : FnScope ["word", "letter"] ["word"] (defScope s_is_name) := ⟨rfl, rfl, rfl, by decide +kernel, rfl, by decide +kernel, by decide +kernel⟩
abbrev s_is_number : Stmt := topS 10
theorem sc_is_number : FnScope ["word", "letter"] ["word"] (defScope s_is_number) := ⟨rfl, rfl, rfl, by decide +kernel, rfl, by decide +kernel, by decide +kernel⟩
abbrev s_Line___init__ : Stmt := inClass (topS 11) 0
theorem sc_Line___init__ : FnScope ["self", "number", "row"] ["self", "number", "row"] (defScope s_Line___init__) := ⟨rfl, rfl, rfl, by decide +kernel, rfl, by decide +kernel, by decide +kernel⟩
abbrev s_Line_has_more : Stmt := inClass (topS 11) 2
theorem sc_Line_has_more : FnScope ["self"] ["self"] (defScope s_Line_has_more) := ⟨rfl, rfl, rfl, by decide +kernel, rfl, by decide +kernel, by decide +kernel⟩
abbrev s_Line_due : Stmt := inClass (topS 11) 3
theorem sc_Line_due : FnScope ["self", "word"] ["self"] (defScope s_Line_due) := ⟨rfl, rfl, rfl, by decide +kernel, rfl, by decide +kernel, by decide +kernel⟩
abbrev s_Line_step : Stmt := inClass (topS 11) 4
theorem sc_Line_step : FnScope ["self"] ["self"] (defScope s_Line_step) := ⟨rfl, rfl, rfl, by decide +kernel, rfl, by decide +kernel, by decide +kernel⟩
abbrev s_Line_read_choice : Stmt := inClass (topS 11) 5
theorem sc_Line_read_choice : FnScope ["self", "choices", "word"] ["self", "choices"] (defScope s_Line_read_choice) := ⟨rfl, rfl, rfl, by decide +kernel, rfl, by decide +kernel, by decide +kernel⟩
abbrev s_Line_read_number : Stmt := inClass (topS 11) 6
theorem sc_Line_read_number : FnScope ["self", "least", "most", "word", "number"] ["self", "least", "most"] (defScope s_Line_read_number) := ⟨rfl, rfl, rfl, by decide +kernel, rfl, by decide +kernel, by decide +kernel⟩
abbrev s_Line_read_field : Stmt := inClass (topS 11) 7
theorem sc_Line_read_field : FnScope ["self", "word", "least", "most"] ["self", "word", "least", "most"] (defScope s_Line_read_field) := ⟨rfl, rfl, rfl, by decide +kernel, rfl, by decide +kernel, by decide +kernel⟩
abbrev s_Line_due_name : Stmt := inClass (topS 11) 8
theorem sc_Line_due_name : FnScope ["self", "word"] ["self"] (defScope s_Line_due_name) := ⟨rfl, rfl, rfl, by decide +kernel, rfl, by decide +kernel, by decide +kernel⟩
abbrev s_Line_read_new_name : Stmt := inClass (topS 11) 9
theorem sc_Line_read_new_name : FnScope ["self", "used", "word"] ["self", "used"] (defScope s_Line_read_new_name) := ⟨rfl, rfl, rfl, by decide +kernel, rfl, by decide +kernel, by decide +kernel⟩
abbrev s_Line_read_known_name : Stmt := inClass (topS 11) 10
theorem sc_Line_read_known_name : FnScope ["self", "names", "least", "word", "number"] ["self", "names", "least"] (defScope s_Line_read_known_name) := ⟨rfl, rfl, rfl, by decide +kernel, rfl, by decide +kernel, by decide +kernel⟩
abbrev s_Line_finish : Stmt := inClass (topS 11) 11
theorem sc_Line_finish : FnScope ["self"] ["self"] (defScope s_Line_finish) := ⟨rfl, rfl, rfl, by decide +kernel, rfl, by decide +kernel, by decide +kernel⟩
def lnF (n : Int) (wl : Addr) (r : Nat) (c : Int) : List (Str × V) := [("number", .int n), ("words", .ref wl), ("read", .int r), ("column", .int c)]
theorem lnF_number {n : Int} {wl : Addr} {r : Nat} {c : Int} : (lnF n wl r c).lookup ("number" : Str) = some (.int n) := by unfold lnF; exact lk_hit
theorem lnF_words {n : Int} {wl : Addr} {r : Nat} {c : Int} : (lnF n wl r c).lookup ("words" : Str) = some (.ref wl) := by unfold lnF; exact (lk_miss (by decide +kernel)).trans lk_hit
theorem lnF_read {n : Int} {wl : Addr} {r : Nat} {c : Int} : (lnF n wl r c).lookup ("read" : Str) = some (.int r) := by
  unfold lnF; exact (lk_miss (by decide +kernel)).trans ((lk_miss (by decide +kernel)).trans lk_hit)
theorem lnF_column {n : Int} {wl : Addr} {r : Nat} {c : Int} : (lnF n wl r c).lookup ("column" : Str) = some (.int c) := by
  unfold lnF; exact (lk_miss (by decide +kernel)).trans ((lk_miss (by decide +kernel)).trans ((lk_miss (by decide +kernel)).trans lk_hit))
theorem lnF_no {n : Int} {wl : Addr} {r : Nat} {c : Int} {m : Str} (h1 : (m == ("number" : Str)) = false) (h2 : (m == ("words" : Str)) = false) (h3 : (m == ("read" : Str)) = false) (h4 : (m == ("column" : Str)) = false) : (lnF n wl r c).lookup m = none := by
  unfold lnF
  exact (lk_miss h1).trans ((lk_miss h2).trans ((lk_miss h3).trans ((lk_miss h4).trans rfl)))
theorem lnF_put_column {n : Int} {wl : Addr} {r : Nat} {c d : Int} : putF "column" (.int d) (lnF n wl r c) = lnF n wl r d := by
  unfold lnF
  rw [put_miss (by decide +kernel), put_miss (by decide +kernel), put_miss (by decide +kernel), put_hit]
theorem lnF_put_read {n : Int} {wl : Addr} {r q : Nat} {c : Int} : putF "read" (.int q) (lnF n wl r c) = lnF n wl q c := by
  unfold lnF
  rw [put_miss (by decide +kernel), put_miss (by decide +kernel), put_hit]
/-- the line at a, its words ws, r of them passed -/
structure LnAt (C : Addr) (H : Hp) (a : Addr) (ws : List Str) (r : Nat) : Prop where
  ex : ∃ dx n wl c, H a = some (.ins C dx (lnF n wl r c)) ∧ H wl = some (.lst (ws.map V.str))
  ok : ∀ w ∈ ws, WdOk w
theorem LnAt.same {C : Addr} {H H' : Hp} {a : Addr} {ws : List Str} {r : Nat} (h : LnAt C H a ws r) (s : Same H H') : LnAt C H' a ws r := by
  obtain ⟨dx, n, wl, c, h1, h2⟩ := h.ex
  exact ⟨⟨dx, n, wl, c, s _ _ h1, s _ _ h2⟩, h.ok⟩
theorem map_at {ws : List Str} {i : Nat} {w : Str} (h : ws[i]? = some w) : atI (ws.map V.str) (i : Int) = some (.str w) := atI_nat (by rw [List.getElem?_map, h]; rfl)
/-- what the text tells of the class Line and its module -/
structure TxtL (K : PySem.W.Frag) (mg : Str → Option Value) (C : Addr) : Prop where
  B : Bt mg
  c_Line : ClsAt K mg "Line" C
  n_number : NoAttr K C "number"
  n_words : NoAttr K C "words"
  n_read : NoAttr K C "read"
  n_column : NoAttr K C "column"
  g_LETTERS : ∃ t, mg "LETTERS" = some (.str "abcdefghijklmnopqrstuvwxyzABCDEFGHIJKLMNOPQRSTUVWXYZ" t)
  g_DIGITS : ∃ t, mg "DIGITS" = some (.str "0123456789" t)
  g_MOST_NAME : ∃ t, mg "MOST_NAME" = some (.int 15 t)
  g_MOST_DIGITS : ∃ t, mg "MOST_DIGITS" = some (.int 7 t)
section
variable {P : Program} {w : World} {K : PySem.W.Frag} {mg : Str → Option Value} {base : Heap} {C : Addr}
theorem inV_str {u : Str} {cs : List Str} : inV (.str u) (cs.map V.str) = decide (u ∈ cs) := by
  unfold inV
  rw [List.any_map]
  induction cs with
  | nil => rfl
  | cons c r ih =>
    rw [List.any_cons, ih]
    show (decide (c = u) || decide (u ∈ r)) = decide (u ∈ c :: r)
    rw [← Bool.decide_or]
    refine decide_eq_decide.mpr ⟨fun z => ?_, fun z => ?_⟩
    · rcases z with z | z
      · rw [z]; exact List.mem_cons_self
      · exact List.mem_cons_of_mem _ z
    · rcases List.mem_cons.mp z with z | z
      · exact .inl z.symm
      · exact .inr z
theorem flat_strs {cs : List Str} : (cs.map V.str).all flatV = true := by
  rw [List.all_map]
  exact List.all_eq_true.mpr fun _ _ => rfl
/-- a number's text -/
theorem dig_in {c : Nat} (h : 48 ≤ c ∧ c ≤ 57) : c ∈ ("0123456789" : Str).cps.toList := by
  have all : ∀ d, d < 58 → 48 ≤ d → d ∈ ("0123456789" : Str).cps.toList := by decide +kernel
  exact all c (by omega) h.1
theorem str1_inj {a b : Nat} (h : (⟨#[a]⟩ : Str) = ⟨#[b]⟩) : a = b := by
  injection h with h
  injection h with h
  injection h
theorem int_of_num {n : Int} (h0 : 0 ≤ n) (h1 : n < 10000000) : PySem.intText? (num n) = some n ∧ (num n).length ≤ 640 := by
  have e : n = ((n.toNat : Nat) : Int) := by omega
  have hl := numL_len7 (n := n.toNat) (by omega)
  refine ⟨?_, ?_⟩
  · have h := TL.int_num (n := n.toNat) (Nat.le_trans hl (by decide))
    rw [← e] at h
    exact h
  · rw [TL.len_tl, show TL.tl (num n) = tl (num n) from rfl, num_nat h0]
    omega
/-- a name's text -/
theorem let_in {c : Nat} (h : isL c = true) : c ∈ ("abcdefghijklmnopqrstuvwxyzABCDEFGHIJKLMNOPQRSTUVWXYZ" : Str).cps.toList := by
  have all : ∀ d, d < 123 → isL d = true → d ∈ ("abcdefghijklmnopqrstuvwxyzABCDEFGHIJKLMNOPQRSTUVWXYZ" : Str).cps.toList := by decide +kernel
  exact all c (by have := isL_lt h; omega) h
end
end DP
namespace DP
open PySem PySem.Spec PyProof.Rows L2
abbrev s_names_of : Stmt := topS 29
theorem sc_names_of : FnScope ["things", "thing"] ["things"] (defScope s_names_of) := ⟨rfl, rfl, rfl, by decide +kernel, rfl, by decide +kernel, by decide +kernel⟩
abbrev s_read_light : Stmt := topS 31
theorem sc_read_light : FnScope ["line", "horizon", "light", "least", "first"] ["line", "horizon"] (defScope s_read_light) := ⟨rfl, rfl, rfl, by decide +kernel, rfl, by decide +kernel, by decide +kernel⟩
abbrev s_read_satellite : Stmt := topS 30
theorem sc_read_satellite : FnScope ["line", "horizon", "things", "name", "store", "battery", "level", "reserve", "charge", "settle", "light"] ["line", "horizon", "things"] (defScope s_read_satellite) := ⟨rfl, rfl, rfl, by decide +kernel, rfl, by decide +kernel, by decide +kernel⟩
abbrev s_read_station : Stmt := topS 32
theorem sc_read_station : FnScope ["line", "_", "things", "name", "antennas", "turn"] ["line", "_", "things"] (defScope s_read_station) := ⟨rfl, rfl, rfl, by decide +kernel, rfl, by decide +kernel, by decide +kernel⟩
abbrev s_read_recording : Stmt := topS 33
theorem sc_read_recording : FnScope ["line", "horizon", "things", "name", "satellite", "earliest", "latest", "length", "size", "energy", "worth", "rank", "deadline"] ["line", "horizon", "things"] (defScope s_read_recording) := ⟨rfl, rfl, rfl, by decide +kernel, rfl, by decide +kernel, by decide +kernel⟩
abbrev s_read_pass : Stmt := topS 34
theorem sc_read_pass : FnScope ["line", "horizon", "things", "name", "satellite", "station", "first", "end", "room", "energy", "fee"] ["line", "horizon", "things"] (defScope s_read_pass) := ⟨rfl, rfl, rfl, by decide +kernel, rfl, by decide +kernel, by decide +kernel⟩
abbrev s_most_things : Stmt := topS 39
theorem sc_most_things : FnScope ["sort", "most"] ["sort"] (defScope s_most_things) := ⟨rfl, rfl, rfl, by decide +kernel, rfl, by decide +kernel, by decide +kernel⟩
abbrev s_read_sort : Stmt := topS 38
theorem sc_read_sort : FnScope ["line", "ahead", "things", "word", "sort"] ["line", "ahead", "things"] (defScope s_read_sort) := ⟨rfl, rfl, rfl, by decide +kernel, rfl, by decide +kernel, by decide +kernel⟩
abbrev s_read_things : Stmt := topS 37
theorem sc_read_things : FnScope ["lines", "horizon", "things", "sort", "line", "reader"] ["lines", "horizon"] (defScope s_read_things) := ⟨rfl, rfl, rfl, by decide +kernel, rfl, by decide +kernel, by decide +kernel⟩
abbrev s_Satellite___init__ : Stmt := inClass (topS 24) 0
theorem sc_Satellite___init__ : FnScope ["self", "name", "store", "battery", "start_level", "reserve", "charge", "settle", "light"] ["self", "name", "store", "battery", "start_level", "reserve", "charge", "settle", "light"] (defScope s_Satellite___init__) := ⟨rfl, rfl, rfl, by decide +kernel, rfl, by decide +kernel, by decide +kernel⟩
abbrev s_Station___init__ : Stmt := inClass (topS 25) 0
theorem sc_Station___init__ : FnScope ["self", "name", "antennas", "turn"] ["self", "name", "antennas", "turn"] (defScope s_Station___init__) := ⟨rfl, rfl, rfl, by decide +kernel, rfl, by decide +kernel, by decide +kernel⟩
abbrev s_Recording___init__ : Stmt := inClass (topS 26) 0
theorem sc_Recording___init__ : FnScope ["self", "name", "satellite", "earliest", "latest", "length", "size", "energy", "worth", "rank", "deadline"] ["self", "name", "satellite", "earliest", "latest", "length", "size", "energy", "worth", "rank", "deadline"] (defScope s_Recording___init__) := ⟨rfl, rfl, rfl, by decide +kernel, rfl, by decide +kernel, by decide +kernel⟩
abbrev s_Pass___init__ : Stmt := inClass (topS 27) 0
theorem sc_Pass___init__ : FnScope ["self", "name", "satellite", "station", "span", "room", "energy", "fee"] ["self", "name", "satellite", "station", "span", "room", "energy", "fee"] (defScope s_Pass___init__) := ⟨rfl, rfl, rfl, by decide +kernel, rfl, by decide +kernel, by decide +kernel⟩
abbrev s_World___init__ : Stmt := inClass (topS 28) 6
theorem sc_World___init__ : FnScope ["self", "text", "horizon", "things", "satellites", "stations", "recordings", "passes"] ["self", "text", "horizon", "things"] (defScope s_World___init__) := ⟨rfl, rfl, rfl, by decide +kernel, rfl, by decide +kernel, by decide +kernel⟩
abbrev s_World_parse : Stmt := inClass (topS 28) 7
theorem sc_World_parse : FnScope ["text", "lines", "horizon"] ["text"] (defScope s_World_parse) := ⟨rfl, rfl, rfl, by decide +kernel, rfl, by decide +kernel, by decide +kernel⟩
theorem SameX.new {a L : Addr} {H H' : Hp} {o : HO} (hL : H L = none) (s : SameX a H H') : SameX a H (L2.upd H' L o) := fun b u n h => by
  rw [upd_ne (ne_of_none h hL)]
  exact s b u n h
theorem SameX.sqT {K : PySem.W.Frag} {H H' : Hp} {a t C dx : Addr} {fs : List (Str × V)} {xs : List V} (s : SameX a H H') (ha : H a = some (.ins C dx fs)) (h : SqT K H t xs) : SqT K H' t xs := by
  rcases h with (h | ⟨u, h⟩) | h
  · exact .inl (.inl (s _ _ (ne_of h ha (fun z => nomatch z)) h))
  · exact .inl (.inr ⟨u, s _ _ (ne_of h ha (fun z => nomatch z)) h⟩)
  · exact .inr h
theorem SameX.sqL {K : PySem.W.Frag} {H H' : Hp} {a t C dx : Addr} {fs : List (Str × V)} {xs : List V} (s : SameX a H H') (ha : H a = some (.ins C dx fs)) (h : SqL K H t xs) : SqL K H' t xs := by
  rcases h with (h | ⟨u, h⟩) | h
  · exact .inl (.inl (s _ _ (ne_of h ha (fun z => nomatch z)) h))
  · exact .inl (.inr ⟨u, s _ _ (ne_of h ha (fun z => nomatch z)) h⟩)
  · exact .inr h
theorem SameX.spans {K : PySem.W.Frag} {H H' : Hp} {a C dx : Addr} {fs : List (Str × V)} {xs : List V} {qs : List (Int × Int)} (s : SameX a H H') (ha : H a = some (.ins C dx fs)) (h : Spans K H xs qs) : Spans K H' xs qs :=
  Paired.mapP h fun _ _ ⟨t, h1, h2⟩ => ⟨t, h1, s.sqT ha h2⟩
/-- an object with a name -/
def Named (K : PySem.W.Frag) (H : Hp) (x : V) (nm : Str) : Prop := ∃ a C dx fs, x = .ref a ∧ H a = some (.ins C dx fs) ∧ Cls K C ∧ NoAttr K C "name" ∧ fs.lookup ("name" : Str) = some (.str nm)
theorem Named.same {K : PySem.W.Frag} {H H' : Hp} {x : V} {nm : Str} (h : Named K H x nm) (s : Same H H') : Named K H' x nm := by
  obtain ⟨a, C, dx, fs, h1, h2, h3⟩ := h
  exact ⟨a, C, dx, fs, h1, s _ _ h2, h3⟩
section
variable {P : Program} {w : World} {K : PySem.W.Frag} {mg : Str → Option Value} {base : Heap}
def spNames (K : PySem.W.Frag) : Sp := fun vs H Q _ => ∃ (l : Addr) (xs : List V) (ns : List Str), vs = [.ref l] ∧ SqL K H l xs ∧ Paired (Named K H) xs ns ∧ ns.length ≤ 100 ∧
  ∀ p H', Same H H' → H p = none → H' p = some (.lst (ns.map V.str)) → Q (.ref p) H'
theorem d_names_of (B : Bt mg) (A : At K mg "names_of" s_names_of ["things"]) : DefOk P w K mg base CX0 1 "names_of" ["things"] (spNames K) := by
  refine A.ok sc_names_of (fun vs H Q E h => ?_) (fun f cdv A outer s H vs Q E hr h => ?_)
  · obtain ⟨l, xs, ns, rfl, _⟩ := h
    rfl
  obtain ⟨l, xs, ns, rfl, hl, hp, hn, q⟩ := h
  have hlen := paired_len hp
  refine ⟨_, pss_one (ps_ret (pe_lc (own := [("thing", 1)])  rfl sc_names_of.nd (pi_list (pv 0)) (blkOk_by (own := [("thing", 1)]) (N := ["things", "thing"]) (sc := defScope s_names_of) (by decide +kernel)) (fun _ _ _ _ _ => pg_name (i := 1) sc_names_of.nd rfl (Or.inl rfl)) (fun _ _ _ _ _ => pts_nil) (fun _ _ _ _ _ => (pe_fldK (K := K) rfl (pv 1) rfl))))
    , ?_⟩
  refine ⟨_, rfl, l, rfl, ⟨_, hl⟩, fun D hD => ?_⟩
  refine lc_list (K := K) (a := l) (xs := xs) (fun i H' => Same H H' ∧ H' D = some (.lst ((ns.take i).map V.str))) ⟨same_new hD _, upd_same⟩ (fun i H' _ h => h.1.seq hl) (fun i x H1 hx hI => ?_) (fun H1 hI => ?_)
  · obtain ⟨hs, hDD⟩ := hI
    obtain ⟨nm, hnm, hx2⟩ := paired_at hp hx
    obtain ⟨a, C, dx, fs, rfl, h2, h3, h4, h5⟩ := hx2
    refine ⟨rfl, _, rfl, a, C, dx, fs, _, rfl, hs _ _ h2, h3, h4, h5, _, hDD, ?_, same_at hD hs _, ?_⟩
    · rw [List.length_map, List.length_take]
      exact small1000 (by omega)
    · rw [upd_same, List.take_add_one, hnm, List.map_append]
      rfl
  · obtain ⟨hs, hDD⟩ := hI
    rw [hlen, List.take_length] at hDD
    exact q D H1 hs hD hDD
end
def satF (s : SatD) (t : Addr) : List (Str × V) := [("name", .str s.name), ("store", .int s.store), ("battery", .int s.battery), ("start_level", .int s.level), ("reserve", .int s.reserve), ("charge", .int s.charge), ("settle", .int s.settle), ("light", .ref t)]
def staF (s : StaD) : List (Str × V) := [("name", .str s.name), ("antennas", .int s.antennas), ("turn", .int s.turn)]
def recF (r : RecD) : List (Str × V) := [("name", .str r.name), ("satellite", .int (r.sat : Int)), ("earliest", .int r.earliest), ("latest", .int r.latest), ("length", .int r.length), ("size", .int r.size), ("energy", .int r.energy), ("worth", .int r.worth), ("rank", .int r.rank), ("deadline", .int r.deadline)]
def pasF (p : PasD) (t : Addr) : List (Str × V) := [("name", .str p.name), ("satellite", .int (p.sat : Int)), ("station", .int (p.sta : Int)), ("span", .ref t), ("room", .int p.room), ("energy", .int p.energy), ("fee", .int p.fee)]
def SatAt (K : PySem.W.Frag) (C : Addr) (H : Hp) (x : V) (s : SatD) : Prop := ∃ a dx t ls, x = .ref a ∧ H a = some (.ins C dx (satF s t)) ∧ SqT K H t ls ∧ Spans K H ls s.light
def StaAt (C : Addr) (H : Hp) (x : V) (s : StaD) : Prop := ∃ a dx, x = .ref a ∧ H a = some (.ins C dx (staF s))
def RecAt (C : Addr) (H : Hp) (x : V) (r : RecD) : Prop := ∃ a dx, x = .ref a ∧ H a = some (.ins C dx (recF r))
def PasAt (K : PySem.W.Frag) (C : Addr) (H : Hp) (x : V) (p : PasD) : Prop := ∃ a dx t, x = .ref a ∧ H a = some (.ins C dx (pasF p t)) ∧ SqT K H t [.int p.first, .int p.fin]
/-- a line stays apart from the other objects: their fields are more or fewer -/
theorem SameX.ins {H H' : Hp} {a b C D dx dy : Addr} {fs gs : List (Str × V)} (s : SameX a H H') (ha : H a = some (.ins C dx fs)) (hb : H b = some (.ins D dy gs)) (n : gs.length ≠ fs.length) : H' b = some (.ins D dy gs) := s b _ (ins_ne hb ha n) hb
/-- what the text tells of the other classes -/
structure TxtW (K : PySem.W.Frag) (mg : Str → Option Value) (CL CS CT CR CP CW aS aR fS fT fR fP : Addr) : Prop where
  L : TxtL K mg CL
  c_Satellite : ClsAt K mg "Satellite" CS
  c_Station : ClsAt K mg "Station" CT
  c_Recording : ClsAt K mg "Recording" CR
  c_Pass : ClsAt K mg "Pass" CP
  c_World : ClsAt K mg "World" CW
  n_Satellite_name : NoAttr K CS "name"
  n_Satellite_store : NoAttr K CS "store"
  n_Satellite_battery : NoAttr K CS "battery"
  n_Satellite_start_level : NoAttr K CS "start_level"
  n_Satellite_reserve : NoAttr K CS "reserve"
  n_Satellite_charge : NoAttr K CS "charge"
  n_Satellite_settle : NoAttr K CS "settle"
  n_Satellite_light : NoAttr K CS "light"
  n_Station_name : NoAttr K CT "name"
  n_Station_antennas : NoAttr K CT "antennas"
  n_Station_turn : NoAttr K CT "turn"
  n_Recording_name : NoAttr K CR "name"
  n_Recording_satellite : NoAttr K CR "satellite"
  n_Recording_earliest : NoAttr K CR "earliest"
  n_Recording_latest : NoAttr K CR "latest"
  n_Recording_length : NoAttr K CR "length"
  n_Recording_size : NoAttr K CR "size"
  n_Recording_energy : NoAttr K CR "energy"
  n_Recording_worth : NoAttr K CR "worth"
  n_Recording_rank : NoAttr K CR "rank"
  n_Recording_deadline : NoAttr K CR "deadline"
  n_Pass_name : NoAttr K CP "name"
  n_Pass_satellite : NoAttr K CP "satellite"
  n_Pass_station : NoAttr K CP "station"
  n_Pass_span : NoAttr K CP "span"
  n_Pass_room : NoAttr K CP "room"
  n_Pass_energy : NoAttr K CP "energy"
  n_Pass_fee : NoAttr K CP "fee"
  n_World_text : NoAttr K CW "text"
  n_World_horizon : NoAttr K CW "horizon"
  n_World_satellites : NoAttr K CW "satellites"
  n_World_stations : NoAttr K CW "stations"
  n_World_recordings : NoAttr K CW "recordings"
  n_World_passes : NoAttr K CW "passes"
  g_SATELLITES : ∃ t, mg "SATELLITES" = some (.int 0 t)
  g_STATIONS : ∃ t, mg "STATIONS" = some (.int 1 t)
  g_RECORDINGS : ∃ t, mg "RECORDINGS" = some (.int 2 t)
  g_PASSES : ∃ t, mg "PASSES" = some (.int 3 t)
  g_MOST_UNITS : ∃ t, mg "MOST_UNITS" = some (.int 1000000 t)
  g_MOST_CHARGE : ∃ t, mg "MOST_CHARGE" = some (.int 1000 t)
  g_MOST_DELAY : ∃ t, mg "MOST_DELAY" = some (.int 60 t)
  g_MOST_ANTENNAS : ∃ t, mg "MOST_ANTENNAS" = some (.int 3 t)
  g_MOST_WORTH : ∃ t, mg "MOST_WORTH" = some (.int 1000 t)
  g_MOST_RANK : ∃ t, mg "MOST_RANK" = some (.int 3 t)
  g_MOST_FEE : ∃ t, mg "MOST_FEE" = some (.int 1000 t)
  g_SORTS : mg "SORTS" = some (.ref aS)
  t_SORTS : ∀ H, SqT K H aS (([("satellite" : Str), "station", "recording", "pass"]).map V.str)
  k_SORTS : ∃ o, K.lookup aS = some o ∧ o.cls = .type "tuple" ∧ o.dict = none
  g_READERS : mg "READERS" = some (.ref aR)
  t_READERS : ∀ H, SqT K H aR [.ref fS, .ref fT, .ref fR, .ref fP]
  r_satellite : mg "read_satellite" = some (.ref fS)
  r_station : mg "read_station" = some (.ref fT)
  r_recording : mg "read_recording" = some (.ref fR)
  r_pass : mg "read_pass" = some (.ref fP)
  rdW : ClX.CRead K CW (.type "type")
  v_MOST_HORIZON : ∃ t, ClX.CVal K CW (.type "type") "MOST_HORIZON" (.int 500) (.int 500 t)
  v_MOST_SATELLITES : ∃ t, ClX.CVal K CW (.type "type") "MOST_SATELLITES" (.int 3) (.int 3 t)
  v_MOST_STATIONS : ∃ t, ClX.CVal K CW (.type "type") "MOST_STATIONS" (.int 3) (.int 3 t)
  v_MOST_RECORDINGS : ∃ t, ClX.CVal K CW (.type "type") "MOST_RECORDINGS" (.int 10) (.int 10 t)
  v_MOST_PASSES : ∃ t, ClX.CVal K CW (.type "type") "MOST_PASSES" (.int 10) (.int 10 t)
  v_MOST_SHIFT : ∃ t, ClX.CVal K CW (.type "type") "MOST_SHIFT" (.int 20) (.int 20 t)
section
variable {P : Program} {w : World} {K : PySem.W.Frag} {mg : Str → Option Value} {base : Heap} {CL CS CT CR CP CW aS aR fS fT fR fP : Addr}
theorem TxtW.c_Line (T : TxtW K mg CL CS CT CR CP CW aS aR fS fT fR fP) : ClsAt K mg "Line" CL := T.L.c_Line
def spI_Satellite (C : Addr) : Sp := fun vs H Q _ => ∃ (x dx : Addr) (v0 v1 v2 v3 v4 v5 v6 v7 : V), vs = [.ref x, v0, v1, v2, v3, v4, v5, v6, v7] ∧ H x = some (.ins C dx []) ∧
  Q .non (upd H x (.ins C dx [("name", v0), ("store", v1), ("battery", v2), ("start_level", v3), ("reserve", v4), ("charge", v5), ("settle", v6), ("light", v7)]))
theorem dI_Satellite (T : TxtW K mg CL CS CT CR CP CW aS aR fS fT fR fP) (A : MAt K CS "__init__" "Satellite.__init__" s_Satellite___init__ ["self", "name", "store", "battery", "start_level", "reserve", "charge", "settle", "light"]) : MDef P w K mg base CX0 1 CS "__init__" ["self", "name", "store", "battery", "start_level", "reserve", "charge", "settle", "light"] [] (spI_Satellite CS) := by
  refine A.ok sc_Satellite___init__ (fun vs H Q E h => ?_) (fun f cdv A outer s H vs Q E hr h => ?_)
  · obtain ⟨x, dx, v0, v1, v2, v3, v4, v5, v6, v7, rfl, _⟩ := h
    rfl
  obtain ⟨x, dx, v0, v1, v2, v3, v4, v5, v6, v7, rfl, hx, q⟩ := h
  refine ⟨_, pss_cons (ps_fld (pv 0) (pv 1) rfl)
  (pss_cons (ps_fld (pv 0) (pv 2) rfl)
  (pss_cons (ps_fld (pv 0) (pv 3) rfl)
  (pss_cons (ps_fld (pv 0) (pv 4) rfl)
  (pss_cons (ps_fld (pv 0) (pv 5) rfl)
  (pss_cons (ps_fld (pv 0) (pv 6) rfl)
  (pss_cons (ps_fld (pv 0) (pv 7) rfl)
  (pss_one (ps_fld (pv 0) (pv 8) rfl)))))))), ?_⟩
  refine ⟨_, rfl, _, rfl, x, CS, dx, _, rfl, hx, T.c_Satellite.cl, T.n_Satellite_name, (by show 0 < 1000; decide), ?_⟩
  rw [put_nil]
  refine ⟨_, rfl, _, rfl, x, CS, dx, _, rfl, upd_same, T.c_Satellite.cl, T.n_Satellite_store, (by show 1 < 1000; decide), ?_⟩
  rw [upd_upd]
  rw [put_miss (by decide +kernel)]
  rw [put_nil]
  refine ⟨_, rfl, _, rfl, x, CS, dx, _, rfl, upd_same, T.c_Satellite.cl, T.n_Satellite_battery, (by show 2 < 1000; decide), ?_⟩
  rw [upd_upd]
  rw [put_miss (by decide +kernel)]
  rw [put_miss (by decide +kernel)]
  rw [put_nil]
  refine ⟨_, rfl, _, rfl, x, CS, dx, _, rfl, upd_same, T.c_Satellite.cl, T.n_Satellite_start_level, (by show 3 < 1000; decide), ?_⟩
  rw [upd_upd]
  rw [put_miss (by decide +kernel)]
  rw [put_miss (by decide +kernel)]
  rw [put_miss (by decide +kernel)]
  rw [put_nil]
  refine ⟨_, rfl, _, rfl, x, CS, dx, _, rfl, upd_same, T.c_Satellite.cl, T.n_Satellite_reserve, (by show 4 < 1000; decide), ?_⟩
  rw [upd_upd]
  rw [put_miss (by decide +kernel)]
  rw [put_miss (by decide +kernel)]
  rw [put_miss (by decide +kernel)]
  rw [put_miss (by decide +kernel)]
  rw [put_nil]
  refine ⟨_, rfl, _, rfl, x, CS, dx, _, rfl, upd_same, T.c_Satellite.cl, T.n_Satellite_charge, (by show 5 < 1000; decide), ?_⟩
  rw [upd_upd]
  rw [put_miss (by decide +kernel)]
  rw [put_miss (by decide +kernel)]
  rw [put_miss (by decide +kernel)]
  rw [put_miss (by decide +kernel)]
  rw [put_miss (by decide +kernel)]
  rw [put_nil]
  refine ⟨_, rfl, _, rfl, x, CS, dx, _, rfl, upd_same, T.c_Satellite.cl, T.n_Satellite_settle, (by show 6 < 1000; decide), ?_⟩
  rw [upd_upd]
  rw [put_miss (by decide +kernel)]
  rw [put_miss (by decide +kernel)]
  rw [put_miss (by decide +kernel)]
  rw [put_miss (by decide +kernel)]
  rw [put_miss (by decide +kernel)]
  rw [put_miss (by decide +kernel)]
  rw [put_nil]
  refine ⟨_, rfl, _, rfl, x, CS, dx, _, rfl, upd_same, T.c_Satellite.cl, T.n_Satellite_light, (by show 7 < 1000; decide), ?_⟩
  rw [upd_upd]
  rw [put_miss (by decide +kernel)]
  rw [put_miss (by decide +kernel)]
  rw [put_miss (by decide +kernel)]
  rw [put_miss (by decide +kernel)]
  rw [put_miss (by decide +kernel)]
  rw [put_miss (by decide +kernel)]
  rw [put_miss (by decide +kernel)]
  rw [put_nil]
  exact q
def spI_Station (C : Addr) : Sp := fun vs H Q _ => ∃ (x dx : Addr) (v0 v1 v2 : V), vs = [.ref x, v0, v1, v2] ∧ H x = some (.ins C dx []) ∧
  Q .non (upd H x (.ins C dx [("name", v0), ("antennas", v1), ("turn", v2)]))
theorem dI_Station (T : TxtW K mg CL CS CT CR CP CW aS aR fS fT fR fP) (A : MAt K CT "__init__" "Station.__init__" s_Station___init__ ["self", "name", "antennas", "turn"]) : MDef P w K mg base CX0 1 CT "__init__" ["self", "name", "antennas", "turn"] [] (spI_Station CT) := by
  refine A.ok sc_Station___init__ (fun vs H Q E h => ?_) (fun f cdv A outer s H vs Q E hr h => ?_)
  · obtain ⟨x, dx, v0, v1, v2, rfl, _⟩ := h
    rfl
  obtain ⟨x, dx, v0, v1, v2, rfl, hx, q⟩ := h
  refine ⟨_, pss_cons (ps_fld (pv 0) (pv 1) rfl)
  (pss_cons (ps_fld (pv 0) (pv 2) rfl)
  (pss_one (ps_fld (pv 0) (pv 3) rfl))), ?_⟩
  refine ⟨_, rfl, _, rfl, x, CT, dx, _, rfl, hx, T.c_Station.cl, T.n_Station_name, (by show 0 < 1000; decide), ?_⟩
  rw [put_nil]
  refine ⟨_, rfl, _, rfl, x, CT, dx, _, rfl, upd_same, T.c_Station.cl, T.n_Station_antennas, (by show 1 < 1000; decide), ?_⟩
  rw [upd_upd]
  rw [put_miss (by decide +kernel)]
  rw [put_nil]
  refine ⟨_, rfl, _, rfl, x, CT, dx, _, rfl, upd_same, T.c_Station.cl, T.n_Station_turn, (by show 2 < 1000; decide), ?_⟩
  rw [upd_upd]
  rw [put_miss (by decide +kernel)]
  rw [put_miss (by decide +kernel)]
  rw [put_nil]
  exact q
def spI_Recording (C : Addr) : Sp := fun vs H Q _ => ∃ (x dx : Addr) (v0 v1 v2 v3 v4 v5 v6 v7 v8 v9 : V), vs = [.ref x, v0, v1, v2, v3, v4, v5, v6, v7, v8, v9] ∧ H x = some (.ins C dx []) ∧
  Q .non (upd H x (.ins C dx [("name", v0), ("satellite", v1), ("earliest", v2), ("latest", v3), ("length", v4), ("size", v5), ("energy", v6), ("worth", v7), ("rank", v8), ("deadline", v9)]))
theorem dI_Recording (T : TxtW K mg CL CS CT CR CP CW aS aR fS fT fR fP) (A : MAt K CR "__init__" "Recording.__init__" s_Recording___init__ ["self", "name", "satellite", "earliest", "latest", "length", "size", "energy", "worth", "rank", "deadline"]) : MDef P w K mg base CX0 1 CR "__init__" ["self", "name", "satellite", "earliest", "latest", "length", "size", "energy", "worth", "rank", "deadline"] [] (spI_Recording CR) := by
  refine A.ok sc_Recording___init__ (fun vs H Q E h => ?_) (fun f cdv A outer s H vs Q E hr h => ?_)
  · obtain ⟨x, dx, v0, v1, v2, v3, v4, v5, v6, v7, v8, v9, rfl, _⟩ := h
    rfl
  obtain ⟨x, dx, v0, v1, v2, v3, v4, v5, v6, v7, v8, v9, rfl, hx, q⟩ := h
  refine ⟨_, pss_cons (ps_fld (pv 0) (pv 1) rfl)
  (pss_cons (ps_fld (pv 0) (pv 2) rfl)
  (pss_cons (ps_fld (pv 0) (pv 3) rfl)
  (pss_cons (ps_fld (pv 0) (pv 4) rfl)
  (pss_cons (ps_fld (pv 0) (pv 5) rfl)
  (pss_cons (ps_fld (pv 0) (pv 6) rfl)
  (pss_cons (ps_fld (pv 0) (pv 7) rfl)
  (pss_cons (ps_fld (pv 0) (pv 8) rfl)
  (pss_cons (ps_fld (pv 0) (pv 9) rfl)
  (pss_one (ps_fld (pv 0) (pv 10) rfl)))))))))), ?_⟩
  refine ⟨_, rfl, _, rfl, x, CR, dx, _, rfl, hx, T.c_Recording.cl, T.n_Recording_name, (by show 0 < 1000; decide), ?_⟩
  rw [put_nil]
  refine ⟨_, rfl, _, rfl, x, CR, dx, _, rfl, upd_same, T.c_Recording.cl, T.n_Recording_satellite, (by show 1 < 1000; decide), ?_⟩
  rw [upd_upd]
  rw [put_miss (by decide +kernel)]
  rw [put_nil]
  refine ⟨_, rfl, _, rfl, x, CR, dx, _, rfl, upd_same, T.c_Recording.cl, T.n_Recording_earliest, (by show 2 < 1000; decide), ?_⟩
  rw [upd_upd]
  rw [put_miss (by decide +kernel)]
  rw [put_miss (by decide +kernel)]
  rw [put_nil]
  refine ⟨_, rfl, _, rfl, x, CR, dx, _, rfl, upd_same, T.c_Recording.cl, T.n_Recording_latest, (by show 3 < 1000; decide), ?_⟩
  rw [upd_upd]
  rw [put_miss (by decide +kernel)]
  rw [put_miss (by decide +kernel)]
  rw [put_miss (by decide +kernel)]
  rw [put_nil]
  refine ⟨_, rfl, _, rfl, x, CR, dx, _, rfl, upd_same, T.c_Recording.cl, T.n_Recording_length, (by show 4 < 1000; decide), ?_⟩
  rw [upd_upd]
  rw [put_miss (by decide +kernel)]
  rw [put_miss (by decide +kernel)]
  rw [put_miss (by decide +kernel)]
  rw [put_miss (by decide +kernel)]
  rw [put_nil]
  refine ⟨_, rfl, _, rfl, x, CR, dx, _, rfl, upd_same, T.c_Recording.cl, T.n_Recording_size, (by show 5 < 1000; decide), ?_⟩
  rw [upd_upd]
  rw [put_miss (by decide +kernel)]
  rw [put_miss (by decide +kernel)]
  rw [put_miss (by decide +kernel)]
  rw [put_miss (by decide +kernel)]
  rw [put_miss (by decide +kernel)]
  rw [put_nil]
  refine ⟨_, rfl, _, rfl, x, CR, dx, _, rfl, upd_same, T.c_Recording.cl, T.n_Recording_energy, (by show 6 < 1000; decide), ?_⟩
  rw [upd_upd]
  rw [put_miss (by decide +kernel)]
  rw [put_miss (by decide +kernel)]
  rw [put_miss (by decide +kernel)]
  rw [put_miss (by decide +kernel)]
  rw [put_miss (by decide +kernel)]
  rw [put_miss (by decide +kernel)]
  rw [put_nil]
  refine ⟨_, rfl, _, rfl, x, CR, dx, _, rfl, upd_same, T.c_Recording.cl, T.n_Recording_worth, (by show 7 < 1000; decide), ?_⟩
  rw [upd_upd]
  rw [put_miss (by decide +kernel)]
  rw [put_miss (by decide +kernel)]
  rw [put_miss (by decide +kernel)]
  rw [put_miss (by decide +kernel)]
  rw [put_miss (by decide +kernel)]
  rw [put_miss (by decide +kernel)]
  rw [put_miss (by decide +kernel)]
  rw [put_nil]
  refine ⟨_, rfl, _, rfl, x, CR, dx, _, rfl, upd_same, T.c_Recording.cl, T.n_Recording_rank, (by show 8 < 1000; decide), ?_⟩
  rw [upd_upd]
  rw [put_miss (by decide +kernel)]
  rw [put_miss (by decide +kernel)]
  rw [put_miss (by decide +kernel)]
  rw [put_miss (by decide +kernel)]
  rw [put_miss (by decide +kernel)]
  rw [put_miss (by decide +kernel)]
  rw [put_miss (by decide +kernel)]
  rw [put_miss (by decide +kernel)]
  rw [put_nil]
  refine ⟨_, rfl, _, rfl, x, CR, dx, _, rfl, upd_same, T.c_Recording.cl, T.n_Recording_deadline, (by show 9 < 1000; decide), ?_⟩
  rw [upd_upd]
  rw [put_miss (by decide +kernel)]
  rw [put_miss (by decide +kernel)]
  rw [put_miss (by decide +kernel)]
  rw [put_miss (by decide +kernel)]
  rw [put_miss (by decide +kernel)]
  rw [put_miss (by decide +kernel)]
  rw [put_miss (by decide +kernel)]
  rw [put_miss (by decide +kernel)]
  rw [put_miss (by decide +kernel)]
  rw [put_nil]
  exact q
def spI_Pass (C : Addr) : Sp := fun vs H Q _ => ∃ (x dx : Addr) (v0 v1 v2 v3 v4 v5 v6 : V), vs = [.ref x, v0, v1, v2, v3, v4, v5, v6] ∧ H x = some (.ins C dx []) ∧
  Q .non (upd H x (.ins C dx [("name", v0), ("satellite", v1), ("station", v2), ("span", v3), ("room", v4), ("energy", v5), ("fee", v6)]))
theorem dI_Pass (T : TxtW K mg CL CS CT CR CP CW aS aR fS fT fR fP) (A : MAt K CP "__init__" "Pass.__init__" s_Pass___init__ ["self", "name", "satellite", "station", "span", "room", "energy", "fee"]) : MDef P w K mg base CX0 1 CP "__init__" ["self", "name", "satellite", "station", "span", "room", "energy", "fee"] [] (spI_Pass CP) := by
  refine A.ok sc_Pass___init__ (fun vs H Q E h => ?_) (fun f cdv A outer s H vs Q E hr h => ?_)
  · obtain ⟨x, dx, v0, v1, v2, v3, v4, v5, v6, rfl, _⟩ := h
    rfl
  obtain ⟨x, dx, v0, v1, v2, v3, v4, v5, v6, rfl, hx, q⟩ := h
  refine ⟨_, pss_cons (ps_fld (pv 0) (pv 1) rfl)
  (pss_cons (ps_fld (pv 0) (pv 2) rfl)
  (pss_cons (ps_fld (pv 0) (pv 3) rfl)
  (pss_cons (ps_fld (pv 0) (pv 4) rfl)
  (pss_cons (ps_fld (pv 0) (pv 5) rfl)
  (pss_cons (ps_fld (pv 0) (pv 6) rfl)
  (pss_one (ps_fld (pv 0) (pv 7) rfl))))))), ?_⟩
  refine ⟨_, rfl, _, rfl, x, CP, dx, _, rfl, hx, T.c_Pass.cl, T.n_Pass_name, (by show 0 < 1000; decide), ?_⟩
  rw [put_nil]
  refine ⟨_, rfl, _, rfl, x, CP, dx, _, rfl, upd_same, T.c_Pass.cl, T.n_Pass_satellite, (by show 1 < 1000; decide), ?_⟩
  rw [upd_upd]
  rw [put_miss (by decide +kernel)]
  rw [put_nil]
  refine ⟨_, rfl, _, rfl, x, CP, dx, _, rfl, upd_same, T.c_Pass.cl, T.n_Pass_station, (by show 2 < 1000; decide), ?_⟩
  rw [upd_upd]
  rw [put_miss (by decide +kernel)]
  rw [put_miss (by decide +kernel)]
  rw [put_nil]
  refine ⟨_, rfl, _, rfl, x, CP, dx, _, rfl, upd_same, T.c_Pass.cl, T.n_Pass_span, (by show 3 < 1000; decide), ?_⟩
  rw [upd_upd]
  rw [put_miss (by decide +kernel)]
  rw [put_miss (by decide +kernel)]
  rw [put_miss (by decide +kernel)]
  rw [put_nil]
  refine ⟨_, rfl, _, rfl, x, CP, dx, _, rfl, upd_same, T.c_Pass.cl, T.n_Pass_room, (by show 4 < 1000; decide), ?_⟩
  rw [upd_upd]
  rw [put_miss (by decide +kernel)]
  rw [put_miss (by decide +kernel)]
  rw [put_miss (by decide +kernel)]
  rw [put_miss (by decide +kernel)]
  rw [put_nil]
  refine ⟨_, rfl, _, rfl, x, CP, dx, _, rfl, upd_same, T.c_Pass.cl, T.n_Pass_energy, (by show 5 < 1000; decide), ?_⟩
  rw [upd_upd]
  rw [put_miss (by decide +kernel)]
  rw [put_miss (by decide +kernel)]
  rw [put_miss (by decide +kernel)]
  rw [put_miss (by decide +kernel)]
  rw [put_miss (by decide +kernel)]
  rw [put_nil]
  refine ⟨_, rfl, _, rfl, x, CP, dx, _, rfl, upd_same, T.c_Pass.cl, T.n_Pass_fee, (by show 6 < 1000; decide), ?_⟩
  rw [upd_upd]
  rw [put_miss (by decide +kernel)]
  rw [put_miss (by decide +kernel)]
  rw [put_miss (by decide +kernel)]
  rw [put_miss (by decide +kernel)]
  rw [put_miss (by decide +kernel)]
  rw [put_miss (by decide +kernel)]
  rw [put_nil]
  exact q
/-- the names of a sort's things -/
def NamesAt (K : PySem.W.Frag) (H : Hp) (th : Addr) (i : Nat) (ns : List Str) : Prop := ∃ (ls : List Addr) (l : Addr) (xs : List V), SqT K H th (ls.map V.ref) ∧ ls[i]? = some l ∧ SqL K H l xs ∧ Paired (Named K H) xs ns ∧ ns.length ≤ 100
theorem NamesAt.same {K : PySem.W.Frag} {H H' : Hp} {th : Addr} {i : Nat} {ns : List Str} (h : NamesAt K H th i ns) (s : Same H H') : NamesAt K H' th i ns := by
  obtain ⟨ls, l, xs, h1, h2, h3, h4, h5⟩ := h
  exact ⟨ls, l, xs, Same.tup s h1, h2, s.seq h3, Paired.mapP h4 fun _ _ z => z.same s, h5⟩
/-- a line is none of the named objects: it has no name -/
theorem SameX.named {K : PySem.W.Frag} {H H' : Hp} {a C dx : Addr} {fs : List (Str × V)} {x : V} {nm : Str} (s : SameX a H H') (ha : H a = some (.ins C dx fs)) (hn : fs.lookup ("name" : Str) = none) (h : Named K H x nm) : Named K H' x nm := by
  obtain ⟨b, D, dy, gs, h1, h2, h3, h4, h5⟩ := h
  refine ⟨b, D, dy, gs, h1, s _ _ (fun z => ?_) h2, h3, h4, h5⟩
  rw [z, ha] at h2
  injection h2 with h2
  injection h2 with z1 z2 z3
  rw [← z3, hn] at h5
  cases h5
theorem SameX.free {a x : Addr} {H H' : Hp} {o : HO} (s : SameX a H H') (ha : H' a = some o) (h : H' x = none) : H x = none := by
  cases q : H x with
  | none => rfl
  | some u =>
    by_cases e : x = a
    · rw [e, ha] at h; cases h
    · rw [s x u e q] at h; cases h
theorem LnAt.there {C : Addr} {H : Hp} {a : Addr} {ws : List Str} {r : Nat} (h : LnAt C H a ws r) : ∃ o, H a = some o := by
  obtain ⟨dx, n, wl, c, h1, h2⟩ := h.ex
  exact ⟨_, h1⟩
theorem same_made {H : Hp} {x dx : Addr} {o u v : HO} (hx : H x = none) (hd : H dx = none) : Same H (upd (upd (upd H dx o) x u) x v) := fun b z e => by
  have n1 : b ≠ x := ne_of_none e hx
  rw [upd_ne n1, upd_ne n1, upd_ne (ne_of_none e hd)]
  exact e
end
end DP
namespace DP
open PySem PySem.Spec PyProof.Rows L2
section
variable {K : PySem.W.Frag} {CL CS CT CR CP : Addr} {H H' : Hp} {a L : Addr} {ws : List Str} {r : Nat} {x : V} {ys : List V} {o : HO}
theorem SatAt.same {s : SatD} (h : SatAt K CS H x s) (z : Same H H') : SatAt K CS H' x s := by
  obtain ⟨b, dx, t, ls, h1, h2, h3, h4⟩ := h
  exact ⟨b, dx, t, ls, h1, z _ _ h2, Same.tup z h3, h4.same z⟩
theorem StaAt.same {s : StaD} (h : StaAt CT H x s) (z : Same H H') : StaAt CT H' x s := by
  obtain ⟨b, dx, h1, h2⟩ := h
  exact ⟨b, dx, h1, z _ _ h2⟩
theorem RecAt.same {s : RecD} (h : RecAt CR H x s) (z : Same H H') : RecAt CR H' x s := by
  obtain ⟨b, dx, h1, h2⟩ := h
  exact ⟨b, dx, h1, z _ _ h2⟩
theorem PasAt.same {s : PasD} (h : PasAt K CP H x s) (z : Same H H') : PasAt K CP H' x s := by
  obtain ⟨b, dx, t, h1, h2, h3⟩ := h
  exact ⟨b, dx, t, h1, z _ _ h2, Same.tup z h3⟩
theorem SatAt.sx {s : SatD} (h : SatAt K CS H x s) (hL : LnAt CL H a ws r) (z : SameX a H H') : SatAt K CS H' x s := by
  obtain ⟨dx', n, wl, c, g1, g2⟩ := hL.ex
  obtain ⟨b, dx, t, ls, h1, h2, h3, h4⟩ := h
  exact ⟨b, dx, t, ls, h1, z.ins g1 h2 (by show 8 ≠ 4; decide), z.sqT g1 h3, z.spans g1 h4⟩
theorem StaAt.sx {s : StaD} (h : StaAt CT H x s) (hL : LnAt CL H a ws r) (z : SameX a H H') : StaAt CT H' x s := by
  obtain ⟨dx', n, wl, c, g1, g2⟩ := hL.ex
  obtain ⟨b, dx, h1, h2⟩ := h
  exact ⟨b, dx, h1, z.ins g1 h2 (by show 3 ≠ 4; decide)⟩
theorem RecAt.sx {s : RecD} (h : RecAt CR H x s) (hL : LnAt CL H a ws r) (z : SameX a H H') : RecAt CR H' x s := by
  obtain ⟨dx', n, wl, c, g1, g2⟩ := hL.ex
  obtain ⟨b, dx, h1, h2⟩ := h
  exact ⟨b, dx, h1, z.ins g1 h2 (by show 10 ≠ 4; decide)⟩
theorem PasAt.sx {s : PasD} (h : PasAt K CP H x s) (hL : LnAt CL H a ws r) (z : SameX a H H') : PasAt K CP H' x s := by
  obtain ⟨dx', n, wl, c, g1, g2⟩ := hL.ex
  obtain ⟨b, dx, t, h1, h2, h3⟩ := h
  exact ⟨b, dx, t, h1, z.ins g1 h2 (by show 7 ≠ 4; decide), z.sqT g1 h3⟩
theorem SatAt.up {s : SatD} (h : SatAt K CS H x s) (e : H L = some (.lst ys)) : SatAt K CS (L2.upd H L o) x s := by
  obtain ⟨b, dx, t, ls, h1, h2, h3, h4⟩ := h
  exact ⟨b, dx, t, ls, h1, by rw [upd_ne (ne_of h2 e (fun z => nomatch z))]; exact h2, sqT_upd h3 e, h4.upd e⟩
theorem StaAt.up {s : StaD} (h : StaAt CT H x s) (e : H L = some (.lst ys)) : StaAt CT (L2.upd H L o) x s := by
  obtain ⟨b, dx, h1, h2⟩ := h
  exact ⟨b, dx, h1, by rw [upd_ne (ne_of h2 e (fun z => nomatch z))]; exact h2⟩
theorem RecAt.up {s : RecD} (h : RecAt CR H x s) (e : H L = some (.lst ys)) : RecAt CR (L2.upd H L o) x s := by
  obtain ⟨b, dx, h1, h2⟩ := h
  exact ⟨b, dx, h1, by rw [upd_ne (ne_of h2 e (fun z => nomatch z))]; exact h2⟩
theorem PasAt.up {s : PasD} (h : PasAt K CP H x s) (e : H L = some (.lst ys)) : PasAt K CP (L2.upd H L o) x s := by
  obtain ⟨b, dx, t, h1, h2, h3⟩ := h
  exact ⟨b, dx, t, h1, by rw [upd_ne (ne_of h2 e (fun z => nomatch z))]; exact h2, sqT_upd h3 e⟩
/-- a line stays where a list of objects is changed -/
theorem LnAt.up (h : LnAt CL H a ws r) (hne : ws ≠ []) (e : H L = some (.lst ys)) (hr : ∀ y ∈ ys, ∃ t, y = V.ref t) : LnAt CL (L2.upd H L o) a ws r := by
  obtain ⟨dx, n, wl, c, h1, h2⟩ := h.ex
  refine ⟨⟨dx, n, wl, c, by rw [upd_ne (ne_of h1 e (fun z => nomatch z))]; exact h1, ?_⟩, h.ok⟩
  rw [upd_ne]
  · exact h2
  · intro z
    rw [z, e] at h2
    have e2 : ys = ws.map V.str := HO.lst.inj (Option.some.inj h2)
    cases ws with
    | nil => exact hne rfl
    | cons w wr =>
      obtain ⟨t, ht⟩ := hr (.str w) (by rw [e2]; exact List.mem_cons_self)
      cases ht
theorem LnAt.sx {b : Addr} {vs : List Str} {q : Nat} (h : LnAt CL H a ws r) (hL : LnAt CL H b vs q) (n : a ≠ b) (z : SameX b H H') : LnAt CL H' a ws r := by
  obtain ⟨dx', n', wl', c', g1, g2⟩ := hL.ex
  obtain ⟨dx, m, wl, c, h1, h2⟩ := h.ex
  exact ⟨⟨dx, m, wl, c, z _ _ n h1, z _ _ (ne_of h2 g1 (fun z => nomatch z)) h2⟩, h.ok⟩
end
/-- the four lists of a world's things as far as they are read -/
structure Thg (K : PySem.W.Frag) (CS CT CR CP : Addr) (H : Hp) (th l0 l1 l2 l3 : Addr) (S : List SatD) (T : List StaD) (R : List RecD) (P : List PasD) : Prop where
  tup : H th = some (.tup [.ref l0, .ref l1, .ref l2, .ref l3])
  d01 : l0 ≠ l1
  d02 : l0 ≠ l2
  d03 : l0 ≠ l3
  d12 : l1 ≠ l2
  d13 : l1 ≠ l3
  d23 : l2 ≠ l3
  sats : ∃ xs, H l0 = some (.lst xs) ∧ Paired (SatAt K CS H) xs S
  stas : ∃ xs, H l1 = some (.lst xs) ∧ Paired (StaAt CT H) xs T
  recs : ∃ xs, H l2 = some (.lst xs) ∧ Paired (RecAt CR H) xs R
  pass : ∃ xs, H l3 = some (.lst xs) ∧ Paired (PasAt K CP H) xs P
section
variable {K : PySem.W.Frag} {CL CS CT CR CP : Addr} {H H' : Hp} {a th l0 l1 l2 l3 : Addr} {ws : List Str} {r : Nat} {S : List SatD} {T : List StaD} {R : List RecD} {P : List PasD}
theorem Thg.same (h : Thg K CS CT CR CP H th l0 l1 l2 l3 S T R P) (z : Same H H') : Thg K CS CT CR CP H' th l0 l1 l2 l3 S T R P := by
  obtain ⟨x0, a0, b0⟩ := h.sats
  obtain ⟨x1, a1, b1⟩ := h.stas
  obtain ⟨x2, a2, b2⟩ := h.recs
  obtain ⟨x3, a3, b3⟩ := h.pass
  exact ⟨z _ _ h.tup, h.d01, h.d02, h.d03, h.d12, h.d13, h.d23, ⟨x0, z _ _ a0, Paired.mapP b0 fun _ _ y => y.same z⟩, ⟨x1, z _ _ a1, Paired.mapP b1 fun _ _ y => y.same z⟩, ⟨x2, z _ _ a2, Paired.mapP b2 fun _ _ y => y.same z⟩, ⟨x3, z _ _ a3, Paired.mapP b3 fun _ _ y => y.same z⟩⟩
theorem Thg.sx (h : Thg K CS CT CR CP H th l0 l1 l2 l3 S T R P) (hL : LnAt CL H a ws r) (z : SameX a H H') : Thg K CS CT CR CP H' th l0 l1 l2 l3 S T R P := by
  obtain ⟨dx', n', wl', c', g1, g2⟩ := hL.ex
  obtain ⟨x0, a0, b0⟩ := h.sats
  obtain ⟨x1, a1, b1⟩ := h.stas
  obtain ⟨x2, a2, b2⟩ := h.recs
  obtain ⟨x3, a3, b3⟩ := h.pass
  exact ⟨z _ _ (ne_of h.tup g1 (fun z => nomatch z)) h.tup, h.d01, h.d02, h.d03, h.d12, h.d13, h.d23, ⟨x0, z _ _ (ne_of a0 g1 (fun z => nomatch z)) a0, Paired.mapP b0 fun _ _ y => y.sx hL z⟩, ⟨x1, z _ _ (ne_of a1 g1 (fun z => nomatch z)) a1, Paired.mapP b1 fun _ _ y => y.sx hL z⟩,
    ⟨x2, z _ _ (ne_of a2 g1 (fun z => nomatch z)) a2, Paired.mapP b2 fun _ _ y => y.sx hL z⟩, ⟨x3, z _ _ (ne_of a3 g1 (fun z => nomatch z)) a3, Paired.mapP b3 fun _ _ y => y.sx hL z⟩⟩
end
theorem paired_map {α β γ : Type} {F : α → β → Prop} {G : α → γ → Prop} {f : β → γ} (h : ∀ a b, F a b → G a (f b)) : ∀ {xs : List α} {ys : List β}, Paired F xs ys → Paired G xs (ys.map f)
  | _, _, .nil => .nil
  | _, _, .cons a t => .cons (h _ _ a) (paired_map h t)
section
variable {K : PySem.W.Frag} {mg : Str → Option Value} {CL CS CT CR CP CW aS aR fS fT fR fP : Addr} {H : Hp} {th l0 l1 l2 l3 : Addr} {S : List SatD} {T : List StaD} {R : List RecD} {P : List PasD}
theorem Thg.list (h : Thg K CS CT CR CP H th l0 l1 l2 l3 S T R P) : SqT K H th (([l0, l1, l2, l3]).map V.ref) := SqT.of h.tup
theorem Thg.n0 (X : TxtW K mg CL CS CT CR CP CW aS aR fS fT fR fP) (h : Thg K CS CT CR CP H th l0 l1 l2 l3 S T R P) (hl : S.length ≤ 100) : NamesAt K H th 0 (S.map (·.name)) := by
  obtain ⟨xs, a, b⟩ := h.sats
  exact ⟨[l0, l1, l2, l3], l0, xs, h.list, rfl, SqL.of a, paired_map (fun _ _ ⟨b, dx, t, ls, h1, h2, _⟩ => ⟨b, CS, dx, _, h1, h2, X.c_Satellite.cl, X.n_Satellite_name, lk_hit⟩) b, by rw [List.length_map]; exact hl⟩
theorem Thg.n1 (X : TxtW K mg CL CS CT CR CP CW aS aR fS fT fR fP) (h : Thg K CS CT CR CP H th l0 l1 l2 l3 S T R P) (hl : T.length ≤ 100) : NamesAt K H th 1 (T.map (·.name)) := by
  obtain ⟨xs, a, b⟩ := h.stas
  exact ⟨[l0, l1, l2, l3], l1, xs, h.list, rfl, SqL.of a, paired_map (fun _ _ ⟨b, dx, h1, h2⟩ => ⟨b, CT, dx, _, h1, h2, X.c_Station.cl, X.n_Station_name, lk_hit⟩) b, by rw [List.length_map]; exact hl⟩
end
end DP
namespace DP
open PySem PySem.Spec PyProof.Rows L2
theorem take_snoc {α : Type} {l : List α} {i : Nat} {x : α} (h : l[i]? = some x) : l.take (i + 1) = l.take i ++ [x] := by
  rw [List.take_add_one, h]
  rfl
def sortsL : List Str := ["satellite", "station", "recording", "pass"]
section
variable {P : Program} {w : World} {K : PySem.W.Frag} {mg : Str → Option Value} {base : Heap} {CL CS CT CR CP CW aS aR fS fT fR fP : Addr}
def mostK : List Int := [3, 3, 10, 10]
def spMost : Sp := fun vs H Q _ => ∃ (i : Nat) (m : Int), vs = [.int (i : Int)] ∧ mostK[i]? = some m ∧ ∀ H', Same H H' → Q (.int m) H'
theorem d_most_things (T : TxtW K mg CL CS CT CR CP CW aS aR fS fT fR fP) (A : At K mg "most_things" s_most_things ["sort"]) : DefOk P w K mg base CX0 1 "most_things" ["sort"] spMost := by
  have B := T.L.B
  refine A.ok sc_most_things (fun vs H Q E h => ?_) (fun f cdv A outer s H vs Q E hr h => ?_)
  · obtain ⟨i, m, rfl, _⟩ := h
    rfl
  obtain ⟨i, m, rfl, hi, q⟩ := h
  refine ⟨_, pss_cons (ps_set (i := 1) sc_most_things.nd rfl (Or.inl rfl) (pe_tup (pa_cons (ClX.pe_cval (pe_ga T.c_World.gC) rfl) (pa_cons (ClX.pe_cval (pe_ga T.c_World.gC) rfl) (pa_cons (ClX.pe_cval (pe_ga T.c_World.gC) rfl) (pa_cons (ClX.pe_cval (pe_ga T.c_World.gC) rfl) pa_nil))))))
  (pss_one (ps_ret (pe_ix ix_tup (pv 1) (pv 0) (fun _ _ => rfl))))
    , ?_⟩
  obtain ⟨k1, h1⟩ := T.v_MOST_SATELLITES
  obtain ⟨k2, h2⟩ := T.v_MOST_STATIONS
  obtain ⟨k3, h3⟩ := T.v_MOST_RECORDINGS
  obtain ⟨k4, h4⟩ := T.v_MOST_PASSES
  refine ⟨CW, _, _, _, rfl, T.rdW, h1, CW, _, _, _, rfl, T.rdW, h2, CW, _, _, _, rfl, T.rdW, h3, CW, _, _, _, rfl, T.rdW, h4, (by show 4 ≤ sizeLine; decide), fun p hp => ?_⟩
  refine ⟨_, rfl, _, rfl, p, _, _, .int m, rfl, rfl, SqT.of upd_same, atI_nat ?_, q _ (same_new hp _)⟩
  have e : ([V.int 3, V.int 3, V.int 10, V.int 10] : List V) = mostK.map V.int := rfl
  rw [e, List.getElem?_map, hi]
  rfl
end
end DP
namespace DP
open PySem PySem.Spec PyProof.Rows L2
def SameA (as : List Addr) (H H' : Hp) : Prop := ∀ b o, b ∉ as → H b = some o → H' b = some o
theorem SameA.trans {as : List Addr} {H H1 H2 : Hp} (x : SameA as H H1) (y : SameA as H1 H2) : SameA as H H2 := fun b o n h => y b o n (x b o n h)
theorem SameA.of {as : List Addr} {H H' : Hp} (s : Same H H') : SameA as H H' := fun b o _ h => s b o h
theorem SameA.ofX {as : List Addr} {a : Addr} {H H' : Hp} (s : SameX a H H') (h : a ∈ as) : SameA as H H' := fun b o n q => s b o (fun z => n (z ▸ h)) q
theorem SameA.new {as : List Addr} {H H' : Hp} {L : Addr} {o : HO} (hL : H L = none) (s : SameA as H H') : SameA as H (upd H' L o) := fun b u n h => by
  rw [upd_ne (ne_of_none h hL)]
  exact s b u n h
theorem at_ne {K : PySem.W.Frag} {mg : Str → Option Value} {x y : Str} {st st' : Stmt} {ps ps' : List Str} {f g : Addr} (A : At K mg x st ps) (B : At K mg y st' ps') (hf : mg x = some (.ref f)) (hg : mg y = some (.ref g)) (n : x ≠ y) : f ≠ g := fun z => by
  obtain ⟨f', fd, F, e1, _⟩ := A.ex
  obtain ⟨g', gd, G, e2, _⟩ := B.ex
  rw [hf] at e1
  rw [hg] at e2
  cases e1
  cases e2
  obtain ⟨_, _, _, _, _, _, _, _, _, e3, l1, _⟩ := F.ex
  obtain ⟨_, _, _, _, _, _, _, _, _, e4, l2, _⟩ := G.ex
  rw [← z, l1] at l2
  have e : fd = gd := by
    injection Option.some.inj l2 with _ _ h _
    injection h
  have e5 := congrArg FuncData.name (e3.symm.trans (e.trans e4))
  exact n e5
end DP
namespace DP
open PySem PySem.Spec PyProof.Rows L2
/-- a staticmethod of a class -/
structure SMet (K : PySem.W.Frag) (C : Addr) (m : Str) (g : Addr) : Prop where
  ex : ∃ p rest, PySem.W.findCls K (.ref C) (.type "type") m = some (.get (.builtin "staticmethod.__get__") (.ref p) .none (.ref C)) ∧ PySem.W.recIn K p "staticmethod" = some (.ref g :: rest)
structure SAt (K : PySem.W.Frag) (C : Addr) (m qual : Str) (st : Stmt) (ps : List Str) : Prop where
  ex : ∃ f fd, Fun K m qual st f fd ∧ SMet K C m f ∧ Binds K fd ps []
structure SDef (P : Program) (w : World) (K : PySem.W.Frag) (mg : Str → Option Value) (base : Heap) (CX : CXT) (k : Nat) (C : Addr) (m : Str) (ps : List Str) (sp : Sp) : Prop where
  ex : ∃ f fd, FnOk P w K mg base CX k f fd ps sp ∧ SMet K C m f ∧ PySem.W.keepIn K (.ref f) = true ∧ Binds K fd ps []
section
variable {P : Program} {w : World} {K : PySem.W.Frag} {mg : Str → Option Value} {base : Heap} {C : Addr} {m qual : Str} {st : Stmt} {ps N : List Str} {k : Nat} {sp : Sp}
theorem SAt.ok (F : SAt K C m qual st ps) (S : FnScope N ps (defScope st)) (len : ∀ vs H Q E, sp vs H Q E → vs.length = ps.length)
    (hbody : ∀ (f : Addr) (cdv : Value) (A : Around) (outer : List Env) (s : Shared) (H : Hp) (vs : List V) (Q : VK) (E : XK), Room k (A.deeper (envOfC qual (defScope st) s.heap.objs.size f cdv)) → sp vs H Q E →
      ∃ t, PSs (cxOf CX0 P w K mg base N qual (defScope st) f cdv A outer s H E).nox (defBody st) t ∧ t { nx := fun _ H' => Q .non H', rt := Q } (start N vs) H) : SDef P w K mg base CX0 (k + 1) C m ps sp := by
  obtain ⟨f, fd, G, M, b⟩ := F.ex
  exact ⟨f, fd, G.ok S len (fun cdv A outer s H vs Q E hr h => hbody f cdv A outer s H vs Q E hr h), M, G.kp, b⟩
end
def worF (u : Str) (h : Int) (t0 t1 t2 t3 : Addr) : List (Str × V) := [("text", .str u), ("horizon", .int h), ("satellites", .ref t0), ("stations", .ref t1), ("recordings", .ref t2), ("passes", .ref t3)]
structure WorldAt (K : PySem.W.Frag) (CS CT CR CP CW : Addr) (H : Hp) (a : Addr) (W : WorldD) : Prop where
  ex : ∃ dx t0 t1 t2 t3 x0 x1 x2 x3, H a = some (.ins CW dx (worF (textW W) W.horizon t0 t1 t2 t3)) ∧ SqT K H t0 x0 ∧ Paired (SatAt K CS H) x0 W.sats ∧ SqT K H t1 x1 ∧ Paired (StaAt CT H) x1 W.stas ∧
    SqT K H t2 x2 ∧ Paired (RecAt CR H) x2 W.recs ∧ SqT K H t3 x3 ∧ Paired (PasAt K CP H) x3 W.pass
theorem WorldAt.same {K : PySem.W.Frag} {CS CT CR CP CW : Addr} {H H' : Hp} {a : Addr} {W : WorldD} (h : WorldAt K CS CT CR CP CW H a W) (z : Same H H') : WorldAt K CS CT CR CP CW H' a W := by
  obtain ⟨dx, t0, t1, t2, t3, x0, x1, x2, x3, g, a0, b0, a1, b1, a2, b2, a3, b3⟩ := h.ex
  exact ⟨dx, t0, t1, t2, t3, x0, x1, x2, x3, z _ _ g, Same.tup z a0, Paired.mapP b0 fun _ _ y => y.same z, Same.tup z a1, Paired.mapP b1 fun _ _ y => y.same z, Same.tup z a2, Paired.mapP b2 fun _ _ y => y.same z, Same.tup z a3, Paired.mapP b3 fun _ _ y => y.same z⟩
section
variable {K : PySem.W.Frag} {CS CT CR CP C : Addr} {H H' : Hp} {x dx th l0 l1 l2 l3 : Addr} {y : V} {S : List SatD} {T : List StaD} {R : List RecD} {P : List PasD}
theorem ne_bare {b D dy : Addr} {fs : List (Str × V)} (hx : H x = some (.ins C dx [])) (hb : H b = some (.ins D dy fs)) (n : fs.length ≠ 0) : b ≠ x := ins_ne hb hx n
/-- the things stay where a new object is filled -/
theorem Thg.bare (h : Thg K CS CT CR CP H th l0 l1 l2 l3 S T R P) (hx : H x = some (.ins C dx [])) (z : SameX x H H') : Thg K CS CT CR CP H' th l0 l1 l2 l3 S T R P := by
  obtain ⟨x0, a0, b0⟩ := h.sats
  obtain ⟨x1, a1, b1⟩ := h.stas
  obtain ⟨x2, a2, b2⟩ := h.recs
  obtain ⟨x3, a3, b3⟩ := h.pass
  refine ⟨z _ _ (ne_of h.tup hx (fun z => nomatch z)) h.tup, h.d01, h.d02, h.d03, h.d12, h.d13, h.d23, ⟨x0, z _ _ (ne_of a0 hx (fun z => nomatch z)) a0, Paired.mapP b0 fun _ _ q => ?_⟩, ⟨x1, z _ _ (ne_of a1 hx (fun z => nomatch z)) a1, Paired.mapP b1 fun _ _ q => ?_⟩,
    ⟨x2, z _ _ (ne_of a2 hx (fun z => nomatch z)) a2, Paired.mapP b2 fun _ _ q => ?_⟩, ⟨x3, z _ _ (ne_of a3 hx (fun z => nomatch z)) a3, Paired.mapP b3 fun _ _ q => ?_⟩⟩
  · obtain ⟨b, dx, t, ls, h1, h2, h3, h4⟩ := q
    exact ⟨b, dx, t, ls, h1, z _ _ (ne_bare hx h2 (by show 8 ≠ 0; decide)) h2, z.sqT hx h3, z.spans hx h4⟩
  · obtain ⟨b, dx, h1, h2⟩ := q
    exact ⟨b, dx, h1, z _ _ (ne_bare hx h2 (by show 3 ≠ 0; decide)) h2⟩
  · obtain ⟨b, dx, h1, h2⟩ := q
    exact ⟨b, dx, h1, z _ _ (ne_bare hx h2 (by show 10 ≠ 0; decide)) h2⟩
  · obtain ⟨b, dx, t, h1, h2, h3⟩ := q
    exact ⟨b, dx, t, h1, z _ _ (ne_bare hx h2 (by show 7 ≠ 0; decide)) h2, z.sqT hx h3⟩
end
end DP
namespace DP
open PySem PySem.Spec PyProof.Rows L2
section
open PySem.W PySem.Calls
variable {prog : Program} {w : World} {A : Around} {E : Value → Shared → Prop} {h : Heap} {g : Array GenState} {d : Drawn} {t : Nat} {os : OsState}
variable {nm q : Str} {C N : Addr} {bs bm : List Value} {hdct : Bool} {sn : List Str} {sub : List Value} {ab : Bool} {col : Option Bool} {dd : Option Addr} {k0 k1 k2 k3 k5 : Option Value}
theorem call_mw {u e t0 : Addr} {rest : List Value} {Q : Value → Shared → Prop}
    (hC : h.get? C = some (excClassObj nm q C N bs bm hdct sn sub ab col dd k0 k1 k2 k3 k5 "ValueError.__new__")) (he : h.get? e = some (HandSPX.excO C t0)) (hu : h.get? u = some (kxs_mw "ValueError.__init__" e)) (hrest : rest.length ≤ sizeLine)
    (hq : ∀ h' t1, (∀ b o, b ≠ e → h.get? b = some o → h'.get? b = some o) → h'.get? e = some (HandSPX.excO C t1) → Q .none ⟨h', g, d, t, os⟩) :
    wpAny (model prog w) A (call (.ref u) rest) Q E ⟨h, g, d, t, os⟩ := by
  refine wpAny_call (codeAny_of_tree ?_)
  show wpAny _ A.in1 (callAny (.ref u) ⟨rest, []⟩) _ _ _
  simp only [callAny]
  refine wpAny_bind (wpAny_load hu ?_)
  simp only [kxs_mw, show (Value.type "method-wrapper" == Value.type "method" || Value.type "method-wrapper" == Value.type "builtin_function_or_method" || Value.type "method-wrapper" == Value.type "method-wrapper") = true by decide, if_true]
  refine W.KFB.if_so (by decide) ?_
  refine wpAny_bind (ESX.check_bound F.excBase_ValueError hC he rfl ?_)
  refine wpAny_bind (wpAny_pure (wpAny_pure ?_))
  refine ⟨Code.quiet_builtin _ (by decide +kernel), codeAny_builtin F.excBase_ValueError.initEntry ?_⟩
  rw [Around.under_plainId F.excBase_ValueError.init.plain _]
  wp_walk
  refine hq _ h.objs.size (fun b o hb ho => ?_) ?_
  · rw [Heap.get?_update_other _ _ (Ne.symm hb)]
    exact Heap.get?_push_of_some _ ho
  · rw [Heap.get?_update_self _ (Heap.get?_push_of_some _ he) rfl]
    rfl
end
/-- names: the parameters first; a free name is __class__ -/
structure FnScopeS (N P : List Str) (sc : Scope) : Prop where
  kind : sc.kind = .function
  co : sc.isCoroutine = false
  gen : sc.isGenerator = false
  nd : N.Nodup
  pre : N.take P.length = P
  par : ∀ x ∈ P, sc.names.lookup x = some .local
  nocell : ∀ y ∈ sc.names, y.2 ≠ .cell
  free : ∀ y ∈ sc.names, y.2 = .free → y.1 = ("__class__" : Str)
  su : sc.names.lookup ("super" : Str) = some .globalImplicit
  cl : sc.names.lookup ("__class__" : Str) = some .free
def cxS (CX : CXT) (P : Program) (w : World) (K : PySem.W.Frag) (mg : Str → Option Value) (base : Heap) (N : List Str) (qual : Str) (scope : Scope) (f : Addr) (cd : Value) (cc : Addr) (A : Around) (outer : List Env) (s : Shared) (H : Hp) (E : XK) : Cx where
  prog := P
  w := w
  K := K
  mg := mg
  base := base
  A := A.deeper (PySem.W.ksEnv qual scope s.heap.objs.size f cd cc)
  N := N
  s_0 := s
  H_0 := H
  env := PySem.W.ksEnv qual scope s.heap.objs.size f cd cc
  outer := outer
  stack := PySem.W.ksEnv qual scope s.heap.objs.size f cd cc :: outer
  ex := []
  calm := true
  fn := fun _ => false
  pn := []
  xe := fun e s' => wpAny (model P w) (A.deeper (PySem.W.ksEnv qual scope s.heap.objs.size f cd cc)) (leaving (PySem.W.ksEnv qual scope s.heap.objs.size f cd cc) e) (fun _ s'' => CX outer H s E e s'') (fun e' s'' => CX outer H s E e' s'') s'
theorem lookup_of_mem {α β : Type} [BEq α] [LawfulBEq α] {a : α} {b : β} : ∀ {l : List (α × β)}, (l.map (·.1)).Nodup → (a, b) ∈ l → l.lookup a = some b
  | [], _, h => absurd h (by simp)
  | (c, e) :: l, n, h => by
    rw [List.map_cons, List.nodup_cons] at n
    rw [List.lookup_cons]
    rcases List.mem_cons.mp h with h2 | h2
    · cases h2
      simp
    · have hne : (a == c) = false := by
        simp only [beq_eq_false_iff_ne]
        rintro rfl
        exact n.1 (List.mem_map.mpr ⟨(a, b), h2, rfl⟩)
      rw [hne]
      exact lookup_of_mem n.2 h2
theorem zip_map_fst {α β : Type} : ∀ {l : List α} {m : List β}, l.length = m.length → (l.zip m).map (·.1) = l
  | [], [], _ => rfl
  | a :: l, b :: m, h => by
    rw [List.zip_cons_cons, List.map_cons, zip_map_fst (by simpa using h)]
  | [], _ :: _, h => by simp at h
  | _ :: _, [], h => by simp at h
theorem cls_lookup {x : Str} {cc c : Addr} (h : ([(("__class__" : Str), cc)] : List (Str × Addr)).lookup x = some c) : x = ("__class__" : Str) ∧ c = cc := by
  rw [List.lookup_cons] at h
  by_cases e : x = ("__class__" : Str)
  · have e2 : (x == ("__class__" : Str)) = true := by simpa using e
    rw [e2] at h
    exact ⟨e, (Option.some.inj h).symm⟩
  · have e2 : (x == ("__class__" : Str)) = false := by simpa using e
    rw [e2] at h
    cases h
section
variable {CX : CXT} {P : Program} {w : World} {K : PySem.W.Frag} {mg : Str → Option Value} {base : Heap} {N ps : List Str} {qual : Str} {scope : Scope} {f cc CT : Addr} {cd : Value} {A : Around} {outer : List Env} {s : Shared} {H : Hp} {E : XK} {us : List Value} {vs : List V}
theorem inv_startS {h₁ : Heap} {tk : Nat} {ccl : Value} {ccd : Option Addr} {ccs : Array (Option Value)} (S : FnScopeS N ps scope) (hd : A.handled = none) (e0 : Env0 P w K mg base A outer s H) (hl : vs.length = ps.length) (r : Vals vs us)
    (lkc : K.lookup cc = some ⟨ccl, ccd, .cell (some (.ref CT)), ccs⟩)
    (hns : h₁.Ns s.heap.objs.size (fun x => (ps.zip us).reverse.lookup x)) (hk : ∀ b o, s.heap.get? b = some o → h₁.get? b = some o) :
    Inv (cxS CX P w K mg base N qual scope f cd cc A outer s H E) [] (start N vs) H { s with heap := h₁, toks := tk } := by
  have hpl : ps.length ≤ N.length := by have := congrArg List.length S.pre; rw [List.length_take] at this; omega
  have noA : ∀ b : Addr, b ∉ (cxS CX P w K mg base N qual scope f cd cc A outer s H E).ex := fun b z => absurd (show b ∈ ([] : List Addr) from z) (by simp)
  have bcc : base.get? cc = some ⟨ccl, ccd, .cell (some (.ref CT)), ccs⟩ := e0.mod.kin _ _ lkc
  have ndP : ps.Nodup := by rw [← S.pre]; exact S.nd.sublist (List.take_sublist _ _)
  have hul : ps.length = us.length := by rw [← hl]; exact r.length
  refine ⟨⟨e0.mod, S.kind, rfl, rfl, Nat.le_refl _, fun y z c h1 h2 => ?_, fun y hy => ?_, fun y c h _ => absurd (show false = true from h) Bool.false_ne_true, fun _ => hd, Around.frames_deeper e0.frames, .inr ⟨rfl, rfl⟩, fun b z => absurd z (noA b), e0.bs, e0.bsz, fun b _ _ => noA b, fun b z => absurd z (noA b), e0.funs, e0.frf⟩,
    rfl, e0.bare, Un.kept hk, ⟨_, hns, fun i y v h1 h2 h3 => ?_⟩, fun y c h => ?_, e0.hok.fresh (Nat.le_refl _), fun y c h => ?_, fun p hp => absurd (show p ∈ ([] : List (Addr × Obj)) from hp) (by simp), e0.hok.kept hk, ?_⟩
  · exact (cls_lookup h1).1.trans (cls_lookup h2).1.symm
  · have hy : scope.names.lookup y = some .cell ∨ scope.names.lookup y = some .free := hy
    rcases hy with hy | hy
    · exact absurd rfl (S.nocell _ (PySem.mem_of_lookup hy))
    · have e := S.free _ (PySem.mem_of_lookup hy) rfl
      refine ⟨cc, ?_⟩
      show ([(("__class__" : Str), cc)] : List (Str × Addr)).lookup y = some cc
      dsimp only at e
      rw [e]
      rfl
  · have hi : i < vs.length := by
      unfold L2.start at h2
      by_cases hi : i < vs.length
      · exact hi
      · rw [List.getElem?_append_right (by simpa using hi)] at h2
        rw [List.getElem?_replicate] at h2
        split at h2 <;> cases h2
    have ha : vs[i]? = some v := by
      unfold L2.start at h2
      rw [List.getElem?_append_left (by simpa using hi), List.getElem?_map] at h2
      cases e : vs[i]? with
      | none => rw [e] at h2; cases h2
      | some a => rw [e] at h2; cases h2; rfl
    obtain ⟨u, hu, rv⟩ := r.get ha
    have hp : ps[i]? = some y := by
      rw [← S.pre, List.getElem?_take_of_lt (by omega)]; exact h1
    refine ⟨u, rv, .inl ⟨S.par y (List.mem_of_getElem? hp), ?_⟩⟩
    have hm : (y, u) ∈ ps.zip us := by
      refine List.mem_iff_getElem?.mpr ⟨i, ?_⟩
      rw [List.getElem?_zip_eq_some]
      exact ⟨hp, hu⟩
    refine lookup_of_mem ?_ (List.mem_reverse.mpr hm)
    rw [List.map_reverse, zip_map_fst hul]
    exact List.pairwise_reverse.mpr (ndP.imp fun h => h.symm)
  · obtain ⟨_, rfl⟩ := cls_lookup h
    exact ⟨_, _, hk _ _ (e0.bs _ _ bcc).1, rfl⟩
  · obtain ⟨_, rfl⟩ := cls_lookup h
    exact (e0.bs _ _ bcc).2
  · unfold L2.start
    show _ = N.length
    rw [List.length_append, List.length_map, List.length_replicate]
    omega
end
/-- what the written part says of the class and of super() in its __init__ -/
structure SupC (K : PySem.W.Frag) (mg : Str → Option Value) (C cda cc : Addr) : Prop where
  ox : OexC K C
  sub : PySem.W.subIn K (.ref C) (.type "ValueError") = some true
  along : PySem.W.ks_superIn K C C "__init__" = some (some (.builtin "ValueError.__init__"))
  third : PySem.W.nsIn K cStatics "thirdparty.any" = some none
  su : mg "super" = none
  code : ∃ ccl cdd vs ccs tf, K.lookup cda = some ⟨ccl, cdd, .fields vs, ccs⟩ ∧ vs[2]? = some (.str "/claim/cut.py" tf)
  cell : ∃ cl cld csl, K.lookup cc = some ⟨cl, cld, .cell (some (.ref C)), csl⟩
/-- what it says of the program -/
structure SupP (P : Program) : Prop where
  file : ((P.main.file : Str) == ("/claim/cut.py" : Str)) = true
  top : (P.main.scope.names.lookup ("super" : Str)).isSome = false
theorem fn_sup {CX : CXT} {P : Program} {w : World} {K : PySem.W.Frag} {mg : Str → Option Value} {base : Heap} {k : Nat} {f cda cc C : Addr} {name qual : Str} {params : Arguments} {body : List Stmt} {scope : Scope} {dV kV doc pm ct oc : Value} {an od : Option Addr}
    {osl : Array (Option Value)} {N ps : List Str} {sp : Sp} {e : Expr} {p0 p1 p2 p3 p4 : Pos} {ar : Arg} (SC : SupC K mg C cda cc) (SP : SupP P)
    (lk : K.lookup f = some ⟨oc, od, .func (PySem.W.ksFn name qual params (.Expr (.Call (.Attribute (.Call (.Name "super" p0) [] [] p1) "__init__" p2) [e] [] p3) p4 :: body) scope dV kV doc pm an (.ref cda) ct cc), osl⟩)
    (hcd : PySem.W.codeIn K (.ref cda) qual = true) (S : FnScopeS N ps scope) (hp : (params.posonlyargs ++ params.args).head? = some ar) (hN : N[0]? = some ar.arg) (hka : scope.names.lookup ar.arg = some .local)
    {pl : Env → Sem Bool} (hst : ∀ env, starEach [e] env = [(false, eval e env)])
    (he : ∀ env : Env, eval (.Call (.Attribute (.Call (.Name "super" p0) [] [] p1) "__init__" p2) [e] [] p3) env = (do
      let ov ← attributeBase (.Call (.Name "super" p0) [] [] p1) "__init__" env (eval (.Call (.Name "super" p0) [] [] p1) env)
      standAt p2.atName
      let (f, first) ← holding [ov] (getMethod ov "__init__" (pl env))
      callWith p3 f first (backTo p3 (starEach [e] env)) []))
    (len : ∀ vs H Q E, sp vs H Q E → vs.length = ps.length)
    (hbody : ∀ (A : Around) (outer : List Env) (s : Shared) (H : Hp) (vs : List V) (Q : VK) (E : XK), Room k (A.deeper (PySem.W.ksEnv qual scope s.heap.objs.size f (.ref cda) cc)) → sp vs H Q E →
      ∃ ta t, PA (cxS CX P w K mg base N qual scope f (.ref cda) cc A outer s H E) [e] ta ∧ PSs (cxS CX P w K mg base N qual scope f (.ref cda) cc A outer s H E) body t ∧
        ∃ (x : Addr) (vs' : List V), vs = .ref x :: vs' ∧ H x = some (exo x C none) ∧ ta (start N vs) H fun ws H1 => ws.length ≤ 1000 ∧ H1 x = some (exo x C none) ∧ t { nx := fun _ H' => Q .non H', rt := Q } (start N vs) H1) :
    FnOk P w K mg base CX (k + 1) f (PySem.W.ksFn name qual params (.Expr (.Call (.Attribute (.Call (.Name "super" p0) [] [] p1) "__init__" p2) [e] [] p3) p4 :: body) scope dV kV doc pm an (.ref cda) ct cc) ps sp := by
  refine ⟨len, fun A outer s H args us vs Q E hr e0 hb r hsp => ?_⟩
  have hl := len _ _ _ _ hsp
  have KX : K.In s.heap := e0.mod.kin.keeps fun b o e => (e0.bs b o e).1
  have lim : s.heap.NoLimit := e0.mod.nolimit.keeps fun b o e => (e0.bs b o e).1
  obtain ⟨cl, cld, csl, lkc⟩ := SC.cell
  obtain ⟨ccl, cdd, cvs, ccs, tf, lkd, hfile⟩ := SC.code
  obtain ⟨nm, q, NN, bs, bm, sn, sub, ab, col, dd, k0, k1, k2, k3, k5, hC, hbm⟩ := SC.ox.cls
  have hcl : PySem.W.clsIn K C = some { name := nm, bases := bs, mro := .ref C :: bm, ns := NN, qualname := q, hasDict := true, slotNames := sn, subclasses := sub, abstract := ab, collection := col, hasDel := false } := by unfold PySem.W.clsIn; rw [hC] <;> rfl
  have hal : PySem.W.alongIn K "__init__" (((Value.ref C :: bm).dropWhile (· != .ref C)).drop 1) = some (some (.builtin "ValueError.__init__")) := by
    have z := SC.along
    unfold PySem.W.ks_superIn at z
    rw [hcl] at z
    exact z
  refine PySem.ks_codeAny_call_defAt (fd := PySem.W.ksFn name qual params (.Expr (.Call (.Attribute (.Call (.Name "super" p0) [] [] p1) "__init__" p2) [e] [] p3) p4 :: body) scope dV kV doc pm an (.ref cda) ct cc) (binds := ps.zip us) hr.depth (KX _ _ lk) rfl lim (PySem.W.codeRec_of KX hcd) rfl hb S.nocell
    (fun y hy => S.par _ (List.of_mem_zip hy).1) (fun h₁ hns hk₁ => ?_) S.co S.gen S.kind
  obtain ⟨ta, t, hta, hpss, x, vs', rfl, hx, hq⟩ := hbody A outer s H vs Q E (hr.deeper _) hsp
  have I : Inv (cxS CX P w K mg base N qual scope f (.ref cda) cc A outer s H E) [] (start N (.ref x :: vs')) H { s with heap := h₁, toks := s.toks + (ps.zip us).length } := inv_startS S hr.hd e0 hl r lkc hns hk₁
  have fin : ∀ {s' : Shared} {σ' : L2.St} {H' : Hp} {v : V} {u : Value}, Inv (cxS CX P w K mg base N qual scope f (.ref cda) cc A outer s H E) [] σ' H' s' → RelV v u → Q v H' → CE outer P w H s Q u s' :=
    fun {s' σ' H' v u} J rv q => ⟨v, H', J.os, J.bare, J.base, J.hok, rv, q⟩
  obtain ⟨t1, ho⟩ := exo_at I.hok hx
  show _root_.PySem.wpAt (model P w) (A.deeper (PySem.W.ksEnv qual scope s.heap.objs.size f (.ref cda) cc)) (.func _ (PySem.W.ksEnv qual scope s.heap.objs.size f (.ref cda) cc)) (execs _ (PySem.W.ksEnv qual scope s.heap.objs.size f (.ref cda) cc)) _ _ _
  refine PySem.ks_wpAt_execs_cons (PySem.ks_wpAt_Expr_any (PySem.ks_wpAt_MethodCall (PySem.ks_wpAt_super_base (env := PySem.W.ksEnv qual scope s.heap.objs.size f (.ref cda) cc) S.su S.cl (by decide) rfl (I.kIn _ _ lk) rfl hp rfl (I.kIn _ _ lkd) rfl hfile SP.file SP.top ?_) (he _)) (by simp [interactive, S.kind]))
  obtain ⟨mb, hb1, hb2⟩ := I.mod.blt
  refine PySem.W.ks_loadName_global S.kind S.su (Calls.loadGlobal_builtin (env := PySem.W.ksEnv qual scope s.heap.objs.size f (.ref cda) cc) (I.mod.glob.keeps I.bk) SC.su (hb1.keeps I.bk) ((hb2 "super" (by decide)).trans PyProof.Rows.Boot.«super») ⟨rfl, ?_⟩)
  refine wpAny_loadName_free S.kind S.cl rfl ⟨_, I.kIn _ _ lkc, rfl⟩ ?_
  obtain ⟨m, hn, hloc⟩ := I.loc
  have hself : m ar.arg = some (.ref x) := by
    obtain ⟨u, ru, lu⟩ := hloc 0 ar.arg (.ref x) hN rfl (.inl hka)
    obtain rfl : u = Value.ref x := ru
    rcases lu with ⟨_, lu⟩ | ⟨lu, _⟩
    · exact lu
    · have lu' : scope.names.lookup ar.arg = some .cell ∨ scope.names.lookup ar.arg = some .free := lu
      rw [hka] at lu'
      rcases lu' with z | z <;> cases z
  refine wpAny_loadName_local S.kind hka hn hself ?_
  refine PySem.ks_wpAny_isType_cls (I.kIn _ _ hC) rfl ⟨rfl, ?_⟩
  have hmro : PySem.W.mroIn K C (.ref C) = some true := by
    unfold PySem.W.mroIn
    rw [hcl, Option.bind_some]
    simp
  refine PySem.ks_wpAny_call_super (I.kIn _ _ hC) rfl ho rfl (fun c z => by cases z) (PySem.W.looks_mroIn I.kIn hmro) (fun h2 e2 kk2 => ?_)
  have I2 := I.kept (t' := s.toks + (ps.zip us).length) kk2
  have ho2 := kk2 _ _ ho
  have hI : PySem.W.Looks (model P w) h2 (isInstance (.ref x) (.type "ValueError")) true := (show PySem.W.InstAt h2 x _ C none from ⟨ho2, rfl, rfl, trivial⟩).type.andThen (PySem.W.looks_subIn I2.kIn SC.sub)
  have hxC : x ≠ C := fun z => by
    rw [z] at ho2
    have y := I2.kIn _ _ hC
    rw [ho2] at y
    cases y
  refine PySem.W.kxs_getMethod PySem.W.kxs_ValueError e2 (PySem.W.looks_opaque I2.kIn SC.third) (l₀ := .ref C :: bm) (fun A Q E s k q => wpAny_bind ((PySem.W.looks_clsIn (show K.In h2 from I2.kIn) hcl) A _ E s k (wpAny_pure q))) rfl I2.kIn hal hI hxC (by decide) ?_
  have e3 : (h2.push (PySem.W.kxs_mw "ValueError.__init__" x)).get? h2.objs.size = some (PySem.W.kxs_mw "ValueError.__init__" x) := Heap.get?_push_at rfl rfl
  have hfr : H h2.objs.size = none := I2.hok.fresh (Nat.le_refl _)
  have hlo : h2.objs.size ≠ (PySem.W.ksEnv qual scope s.heap.objs.size f (.ref cda) cc).locals := fun z => by
    have y := I2.lt
    rw [show (cxS CX P w K mg base N qual scope f (.ref cda) cc A outer s H E).env.locals = h2.objs.size from z.symm] at y
    exact Nat.lt_irrefl _ y
  have hfs : h2.objs.size ∉ (cxS CX P w K mg base N qual scope f (.ref cda) cc A outer s H E).fs := I2.nofs (Nat.le_refl _)
  have I3 := (I2.kept (t' := s.toks + (ps.zip us).length + 1) (h' := h2.push (PySem.W.kxs_mw "ValueError.__init__" x)) fun b o z => Heap.get?_push_of_some _ z)
  have I4 : Inv (cxS CX P w K mg base N qual scope f (.ref cda) cc A outer s H E) [(h2.objs.size, PySem.W.kxs_mw "ValueError.__init__" x)] _ H _ := I3.pins_of fun p hp => by
    rcases List.mem_singleton.mp hp with rfl
    exact ⟨e3, hfr, hlo, hfs, fun v z => by cases z⟩
  have hrun := hta.run p3 _ _ _ H _ I4 hq
  rw [hst] at hrun
  rw [hst]
  refine PySem.W.kxs_callWith (i := "ValueError.__init__") (x := x) rfl (PySem.Calls.evalArgs_plain (thn hrun fun us2 s3 ⟨ws, H1, I5, r5, hlen, hx1, hq1⟩ => ⟨?_, ?_⟩))
  · exact (I5.pin _ (List.mem_append_right _ (List.mem_singleton.mpr rfl))).1
  have hu5 : s3.heap.get? h2.objs.size = some (PySem.W.kxs_mw "ValueError.__init__" x) := (I5.pin _ (List.mem_append_right _ (List.mem_singleton.mpr rfl))).1
  obtain ⟨t5, ho5⟩ := exo_at I5.hok hx1
  obtain ⟨hp5, g5, d5, tk5, os5⟩ := s3
  have hl5 : us2.length ≤ sizeLine := by
    rw [← Paired.length r5, sizeLine_eq]
    omega
  refine call_mw (I5.kIn _ _ hC) ho5 hu5 hl5 fun h6 t6 k6 hx6 => ?_
  have J := I5.write (t' := tk5) (x := x) (e := x) (o := exo x C none) (by rw [hx1]; exact True.intro) (.inl rfl) k6 ⟨_, hx6⟩ (exo_ok hx6)
  have eu : upd H1 x (exo x C none) = H1 := by
    funext b
    by_cases hb : b = x
    · rw [hb, upd_same, hx1]
    · rw [upd_ne hb]
  rw [eu] at J
  have J0 : Inv (cxS CX P w K mg base N qual scope f (.ref cda) cc A outer s H E) [] _ H1 _ := J.pins_of fun p hp => absurd hp (by simp)
  refine wpAt_of_wpAny (wpAny_mono (hpss.run [] _ _ H1 _ J0 hq1) (fun fl s' hs => ?_) fun e s' hs => hs)
  cases fl with
  | ret u =>
    obtain ⟨v, σ', H', J, rv, q⟩ := hs
    exact fin J rv q
  | next =>
    obtain ⟨σ', H', J, q⟩ := hs
    exact fin (v := V.non) (u := Value.none) J rfl q
  | brk =>
    obtain ⟨_, _, _, q⟩ := hs
    exact False.elim q
  | cont =>
    obtain ⟨_, _, _, q⟩ := hs
    exact False.elim q
end DP
namespace DP
open PySem PySem.Spec PyProof.Rows L2
abbrev s_TextFault___init__ : Stmt := inClass (topS 2) 0
theorem sc_TextFault___init__ : FnScopeS ["self", "line", "column", "reason"] ["self", "line", "column", "reason"] (defScope s_TextFault___init__) := ⟨rfl, rfl, rfl, by decide +kernel, rfl, by decide +kernel, by decide +kernel, by decide +kernel, by decide +kernel, by decide +kernel⟩
abbrev s_Line_refuse : Stmt := inClass (topS 11) 1
theorem sc_Line_refuse : FnScope ["self", "reason"] ["self", "reason"] (defScope s_Line_refuse) := ⟨rfl, rfl, rfl, by decide +kernel, rfl, by decide +kernel, by decide +kernel⟩
def tfF (l c : Int) (r : Str) : List (Str × V) := [("reason", .str r), ("column", .int c), ("line", .int l)]
structure TfAt (K : PySem.W.Frag) (mg : Str → Option Value) (CT : Addr) : Prop where
  g : mg "TextFault" = some (.ref CT)
  ex : ∃ (fI cda cc : Addr) (oc kV doc pm ct : Value) (od an : Option Addr) (osl : Array (Option Value)), PySem.W.findIn K (.ref CT) "__init__" = some (some (.ref fI)) ∧ PySem.W.typeIn K (.ref fI) = some (.type "function") ∧
    K.lookup fI = some ⟨oc, od, .func (PySem.W.ksFn "__init__" "TextFault.__init__" (defArgs s_TextFault___init__) (defBody s_TextFault___init__) (defScope s_TextFault___init__) .none kV doc pm an (.ref cda) ct cc), osl⟩ ∧
    PySem.W.codeIn K (.ref cda) "TextFault.__init__" = true ∧ SupC K mg CT cda cc
  nl : PySem.W.findIn K (.ref CT) "line" = some none
  nc : PySem.W.findIn K (.ref CT) "column" = some none
  nr : PySem.W.findIn K (.ref CT) "reason" = some none
  xf : XfC K CT
  iT : PySem.W.isClsIn K CT = true
  sT : PySem.W.subIn K (.ref CT) (.ref CT) = some true
  bT : PySem.W.subIn K (.ref CT) (.type "BaseException") = some true
  tT : PySem.W.typeIn K (.ref CT) = some (.type "type")
theorem TfAt.te {K : PySem.W.Frag} {mg : Str → Option Value} {CB : Addr} (T : TfAt K mg CB) : PySem.W.exmOne K (.ref CB) (.ref CB) = some true := by
  have e1 : (PySem.W.subIn K (.ref CB) (.type "BaseException") == some true) = true := by rw [T.bT] <;> rfl
  have e2 : ((PySem.W.clsIn K CB).isSome && PySem.W.typeIn K (.ref CB) == some (.type "type")) = true := by
    have h2' : (PySem.W.clsIn K CB).isSome = true := T.iT
    rw [h2', T.tT] <;> rfl
  show (if (PySem.W.subIn K (.ref CB) (.type "BaseException") == some true) = true then (if ((PySem.W.clsIn K CB).isSome && PySem.W.typeIn K (.ref CB) == some (.type "type")) = true then PySem.W.subIn K (.ref CB) (.ref CB) else none) else none) = some true
  rw [if_pos e1, if_pos e2]
  exact T.sT
section
variable {P : Program} {w : World} {K : PySem.W.Frag} {mg : Str → Option Value} {base : Heap} {C CT : Addr}
theorem MAt.okX {C : Addr} {m qual : Str} {st : Stmt} {ps N : List Str} {k : Nat} {sp : Sp} (F : MAt K C m qual st ps) (S : FnScope N ps (defScope st)) (len : ∀ vs H Q E, sp vs H Q E → vs.length = ps.length)
    (hbody : ∀ (f : Addr) (cdv : Value) (A : Around) (outer : List Env) (s : Shared) (H : Hp) (vs : List V) (Q : VK) (E : XK), Room k (A.deeper (envOfC qual (defScope st) s.heap.objs.size f cdv)) → sp vs H Q E →
      ∃ t, PSs (cxOf (L2.CX P w) P w K mg base N qual (defScope st) f cdv A outer s H E) (defBody st) t ∧ t { nx := fun _ H' => Q .non H', rt := Q } (start N vs) H) : MDef P w K mg base (L2.CX P w) (k + 1) C m ps [] sp := by
  obtain ⟨f, fd, G, M, b⟩ := F.ex
  exact ⟨f, fd, [], G.okX S len (fun cdv A outer s H vs Q E hr h => hbody f cdv A outer s H vs Q E hr h), M, b, .nil⟩
theorem At.okX {x : Str} {st : Stmt} {ps N : List Str} {k : Nat} {sp : Sp} (F : At K mg x st ps) (S : FnScope N ps (defScope st)) (len : ∀ vs H Q E, sp vs H Q E → vs.length = ps.length)
    (hbody : ∀ (f : Addr) (cdv : Value) (A : Around) (outer : List Env) (s : Shared) (H : Hp) (vs : List V) (Q : VK) (E : XK), Room k (A.deeper (envOfC x (defScope st) s.heap.objs.size f cdv)) → sp vs H Q E →
      ∃ t, PSs (cxOf (L2.CX P w) P w K mg base N x (defScope st) f cdv A outer s H E) (defBody st) t ∧ t { nx := fun _ H' => Q .non H', rt := Q } (start N vs) H) : DefOk P w K mg base (L2.CX P w) (k + 1) x ps sp := by
  obtain ⟨f, fd, G, m, b⟩ := F.ex
  obtain ⟨oc, od, _, _, _, _, _, _, osl, _, lk, _⟩ := G.ex
  exact ⟨f, fd, G.okX S len (fun cdv A outer s H vs Q E hr h => hbody f cdv A outer s H vs Q E hr h), m, G.kp, b, oc, od, osl, lk⟩
theorem DefOk.up {x : Str} {ps : List Str} {k : Nat} {sp : Sp} (D : DefOk P w K mg base CX0 k x ps sp) {CX : CXT} : DefOk P w K mg base CX k x ps sp := by
  obtain ⟨f, fd, G, m, kp, b, lk⟩ := D.ex
  refine ⟨f, fd, ⟨G.len, fun A outer s H args us vs Q E hr he hb hv h => codeAny_mono (G.run A outer s H args us vs Q E hr he hb hv h) fun r s' hq => ?_⟩, m, kp, b, lk⟩
  cases r with
  | error e => exact hq.elim
  | ok fl => cases fl <;> exact hq
theorem MDef.up {C : Addr} {m : Str} {ps : List Str} {ds : List V} {k : Nat} {sp : Sp} (D : MDef P w K mg base CX0 k C m ps ds sp) {CX : CXT} : MDef P w K mg base CX k C m ps ds sp := by
  obtain ⟨f, fd, us, G, M, b, v⟩ := D.ex
  refine ⟨f, fd, us, ⟨G.len, fun A outer s H args us vs Q E hr he hb hv h => codeAny_mono (G.run A outer s H args us vs Q E hr he hb hv h) fun r s' hq => ?_⟩, M, b, v⟩
  cases r with
  | error e => exact hq.elim
  | ok fl => cases fl <;> exact hq
theorem passOut {X : Cx} {E : XK} (hs : X.stack = X.env :: X.outer) (hf : X.env.frame = some X.env.locals) (hex : X.ex = []) {E₁ : Value → Shared → Prop}
    (hx : X.xe = fun e s' => wpAny (model X.prog X.w) X.A (leaving X.env e) (fun _ s'' => L2.CX X.prog X.w X.outer X.H_0 X.s_0 E e s'') E₁ s') : Passes (L2.CX X.prog X.w) X E :=
  passes_call (takes_of hs hf hex hx) fun _ _ _ _ h => h
theorem tos_len {n : Int} (h0 : 0 ≤ n) (h1 : n < 1000000000) : (Str.ofString (toString n)).length ≤ 9 := by
  rw [TL.len_tl, show TL.tl (Str.ofString (toString n)) = tl (num n) from rfl, num_nat h0]
  exact TL.numL_len (k := 9) (by decide) (by omega)
theorem log_lt {n : Int} (h0 : 0 ≤ n) (h1 : n < 1000000000) : n.natAbs.log2 < 1920 := by
  have : n.natAbs < 2 ^ 30 := by omega
  have h2 : n.natAbs.log2 < 30 ∨ n.natAbs = 0 := by
    by_cases c : n.natAbs = 0
    · exact .inr c
    · exact .inl ((Nat.log2_lt c).mpr this)
  rcases h2 with h2 | h2
  · omega
  · rw [h2]; decide
def spTF (CT : Addr) : Sp := fun vs H Q _ => ∃ (x : Addr) (l c : Int) (r : Str), vs = [.ref x, .int l, .int c, .str r] ∧ H x = some (exo x CT none) ∧ 0 ≤ l ∧ l < 1000000000 ∧ 0 ≤ c ∧ c < 1000000000 ∧ r.length ≤ 100 ∧
  ∀ dx, H dx = none → dx ≠ x → Q .non (upd (upd (upd (upd H dx (exd dx [("line", .int l)])) x (exo x CT (some dx))) dx (exd dx [("column", .int c), ("line", .int l)])) dx (exd dx (tfF l c r)))
theorem len_app (a b : Str) : (a ++ b).length = a.length + b.length := by
  rw [TL.len_tl, TL.len_tl, TL.len_tl, show TL.tl (a ++ b) = TL.tl a ++ TL.tl b from TL.tl_append _ _, List.length_append]
theorem d_TF (T : TfAt K mg CT) (SP : SupP P) {CX : CXT} : ∃ fI fd, PySem.W.findIn K (.ref CT) "__init__" = some (some (.ref fI)) ∧ PySem.W.typeIn K (.ref fI) = some (.type "function") ∧ OexC K CT ∧ Binds K fd ["self", "line", "column", "reason"] [] ∧
    FnOk P w K mg base CX 1 fI fd ["self", "line", "column", "reason"] (spTF CT) := by
  obtain ⟨fI, cda, cc, oc, kV, doc, pm, ct, od, an, osl, h1, h2, lk, hcd, SC⟩ := T.ex
  refine ⟨fI, _, h1, h2, SC.ox, Binds.all fun us hl => ?_, fn_sup (k := 0) (pl := fun _ => _) SC SP lk hcd sc_TextFault___init__ rfl rfl (by decide +kernel) (fun _ => rfl) (fun _ => rfl) (fun vs H Q E h => ?_) (fun A outer s H vs Q E hr h => ?_)⟩
  · exact match us, hl with | [_, _, _, _], _ => rfl
  · obtain ⟨x, l, c, r, rfl, _⟩ := h
    rfl
  obtain ⟨x, l, c, r, rfl, hx, l0, l1, c0, c1, hr, q⟩ := h
  refine ⟨_, _, pa_cons (pe_joined (PJ.cons pe_str (PJ.cons (pe_fmt (pv 1)) (PJ.cons pe_str (PJ.cons (pe_fmt (pv 2)) (PJ.cons pe_str (PJ.cons (pe_fmt (pv 3)) PJ.nil))))))) pa_nil,
    pss_cons (ps_ost (pv 0) (pv 1)) (pss_cons (ps_ost (pv 0) (pv 2)) (pss_one (ps_ost (pv 0) (pv 3)))), x, _, rfl, hx, ?_⟩
  have e1 : (Str.ofString "line ").length = 5 := by decide +kernel
  have e2 : (Str.ofString ", column ").length = 9 := by decide +kernel
  have e3 : (Str.ofString ": ").length = 2 := by decide +kernel
  have e0 : Str.empty.length = 0 := by decide +kernel
  have hl := tos_len l0 l1
  have hc := tos_len c0 c1
  have z := sizeLine_eq
  refine ⟨_, rfl, (by simp only [len_app]; omega), _, rfl, .inr ⟨_, rfl, log_lt l0 l1, _, rfl, (by simp only [len_app]; omega), ?_⟩⟩
  refine ⟨_, rfl, (by simp only [len_app]; omega), _, rfl, .inr ⟨_, rfl, log_lt c0 c1, _, rfl, (by simp only [len_app]; omega), ?_⟩⟩
  refine ⟨_, rfl, (by simp only [len_app]; omega), _, rfl, .inl ⟨_, rfl, (by omega), _, rfl, (by simp only [len_app]; omega), ?_⟩⟩
  refine ⟨by show 1 ≤ 1000; decide, hx, ?_⟩
  refine ⟨_, rfl, _, rfl, x, CT, rfl, SC.ox, T.nl, .inl ⟨hx, fun dx n ne => ?_⟩⟩
  refine ⟨_, rfl, _, rfl, x, CT, rfl, SC.ox, T.nc, .inr ⟨dx, _, upd_same, (upd_ne ne).trans upd_same, by show 1 ≤ 900; decide, ?_⟩⟩
  refine ⟨_, rfl, _, rfl, x, CT, rfl, SC.ox, T.nr, .inr ⟨dx, _, (upd_ne (Ne.symm ne)).trans upd_same, upd_same, by show 2 ≤ 900; decide, ?_⟩⟩
  exact q dx n ne
def FltE (CT : Addr) (E : XK) (S : Hp → Prop) (l c : Int) (r : Str) : Prop := ∀ d H', S H' → H' d = some (.xd (tfF l c r)) → E (.ref CT) (some d) H'
/-- the line at a, as far as r words, in the text's words -/
def colW (ws : List Str) (r : Nat) : Int := 1 + (((ws.take r).map fun w => (w.length : Int) + 1).sum)
structure LnX (C : Addr) (H : Hp) (a : Addr) (n : Int) (ws : List Str) (r : Nat) : Prop where
  ex : ∃ dx wl, H a = some (.ins C dx (lnF n wl r (colW ws r))) ∧ H wl = some (.lst (ws.map V.str))
  n0 : 0 ≤ n
  n1 : n < 1000000
  le : r ≤ ws.length
  wl : ∀ w ∈ ws, w.length ≤ 40
  sz : ws.length ≤ 2000
theorem LnX.same {C : Addr} {H H' : Hp} {a : Addr} {n : Int} {ws : List Str} {r : Nat} (h : LnX C H a n ws r) (s : Same H H') : LnX C H' a n ws r := by
  obtain ⟨dx, wl, h1, h2⟩ := h.ex
  exact ⟨⟨dx, wl, s _ _ h1, s _ _ h2⟩, h.n0, h.n1, h.le, h.wl, h.sz⟩
theorem sum_le {m : Int} : ∀ (l : List Int), (∀ x ∈ l, 0 ≤ x ∧ x ≤ m) → 0 ≤ l.sum ∧ l.sum ≤ l.length * m
  | [], _ => by simp
  | a :: r, h => by
    have h1 := h a List.mem_cons_self
    have h2 := sum_le r fun x hx => h x (List.mem_cons_of_mem _ hx)
    rw [List.sum_cons, List.length_cons, Int.natCast_add, Int.add_mul]
    omega
theorem LnX.col {C : Addr} {H : Hp} {a : Addr} {n : Int} {ws : List Str} {r : Nat} (h : LnX C H a n ws r) : 0 ≤ colW ws r ∧ colW ws r < 1000000 := by
  have h1 := sum_le (m := 41) ((ws.take r).map fun w => (w.length : Int) + 1) fun x hx => by
    obtain ⟨w, hw, rfl⟩ := List.mem_map.mp hx
    have := h.wl w (List.mem_of_mem_take hw)
    omega
  have h2 := h.sz
  rw [List.length_map, List.length_take] at h1
  unfold colW
  have h3 : ((min r ws.length : Nat) : Int) * 41 ≤ 2000 * 41 := Int.mul_le_mul_of_nonneg_right (by omega) (by decide)
  omega
theorem LnX.no {C : Addr} {H : Hp} {a : Addr} {n : Int} {ws : List Str} {r : Nat} (h : LnX C H a n ws r) {m : Str} (z1 : (m == ("number" : Str)) = false) (z2 : (m == ("words" : Str)) = false) (z3 : (m == ("read" : Str)) = false) (z4 : (m == ("column" : Str)) = false) :
    ∃ dx fs, H a = some (.ins C dx fs) ∧ fs.lookup m = none := by
  obtain ⟨dx, wl, h1, h2⟩ := h.ex
  exact ⟨dx, _, h1, lnF_no z1 z2 z3 z4⟩
def spRefuse (C CT : Addr) : Sp := fun vs H _ E => ∃ (a : Addr) (n : Int) (ws : List Str) (r : Nat) (e : Str), vs = [.ref a, .str e] ∧ LnX C H a n ws r ∧ e.length ≤ 100 ∧ FltE CT E (Same H) n (colW ws r) e
theorem d_refuse (T : TxtL K mg C) (TF : TfAt K mg CT) (SP : SupP P) (A : MAt K C "refuse" "Line.refuse" s_Line_refuse ["self", "reason"]) : MDef P w K mg base (L2.CX P w) 3 C "refuse" ["self", "reason"] [] (spRefuse C CT) := by
  have B := T.B
  refine A.okX sc_Line_refuse (fun vs H Q E h => ?_) (fun f cdv A outer s H vs Q E hr h => ?_)
  · obtain ⟨a, n, ws, r, e, rfl, _⟩ := h
    rfl
  obtain ⟨a, n, ws, r, e, rfl, hL, he, qe⟩ := h
  obtain ⟨dx, wl, h1, h2⟩ := hL.ex
  obtain ⟨fI, fd, i1, i2, ox, bd, F1⟩ := d_TF (w := w) (base := base) (CX := CX0) TF SP
  refine ⟨_, pss_one (ps_raise rfl (takes_of rfl rfl rfl rfl) (pmk_oex ox i1 i2 F1 (hr.mono (by omega)) bd .nil pass0 rfl TF.g (pa_cons (pe_fld (pv 0) rfl) (pa_cons (pe_fld (pv 0) rfl) (pa_cons (pv 1) pa_nil)))))
    , ?_⟩
  obtain ⟨c0, c1⟩ := hL.col
  have n0 := hL.n0
  have n1 := hL.n1
  refine ⟨_, rfl, a, C, dx, _, _, rfl, h1, T.c_Line.cl, T.n_number, lnF_number, _, rfl, a, C, dx, _, _, rfl, h1, T.c_Line.cl, T.n_column, lnF_column, _, rfl, (by show 3 ≤ 1000; decide), fun x hx => ?_⟩
  refine ⟨x, n, colW ws r, e, rfl, upd_same, n0, by omega, c0, by omega, he, fun d hd dne => ?_⟩
  have hdH : H d = none := by rw [upd_ne dne] at hd; exact hd
  refine ⟨rfl, d, _, (upd_ne (Ne.symm dne)).trans ((upd_ne (Ne.symm dne)).trans upd_same), upd_same, hdH, qe d _ (fun b o hb => ?_) upd_same⟩
  have b1 : b ≠ x := ne_of_none hb hx
  have b2 : b ≠ d := ne_of_none hb hdH
  rw [upd_ne b2, del_ne b1, upd_ne b2, upd_ne b2, upd_ne b1, upd_ne b2, upd_ne b1]
  exact hb
end
end DP
namespace DP
open PySem PySem.Spec PyProof.Rows L2
def digC (c : Nat) : Bool := decide (c ∈ ("0123456789" : Str).cps.toList)
def letC (c : Nat) : Bool := decide (c ∈ ("abcdefghijklmnopqrstuvwxyzABCDEFGHIJKLMNOPQRSTUVWXYZ" : Str).cps.toList)
def isNumB (u : Str) : Bool := !decide (7 < u.length) && (!(decide ((tl u).head? = some 48) && !decide (u = Str.ofString "0")) && (tl u).all digC)
def isNameB (u : Str) : Bool := !decide (15 < u.length) && ((match (tl u).head? with | some d => letC d | none => false) && (tl u).all fun c => letC c || digC c)
section
variable {P : Program} {w : World} {K : PySem.W.Frag} {mg : Str → Option Value} {base : Heap} {C : Addr}
def spIsNumX : Sp := fun vs H Q _ => ∃ u : Str, vs = [.str u] ∧ u.length ≤ 100 ∧ tl u ≠ [] ∧ ∀ H', Same H H' → Q (.bl (isNumB u)) H'
theorem d_is_numberX (T : TxtL K mg C) (A : At K mg "is_number" s_is_number ["word"]) : DefOk P w K mg base CX0 1 "is_number" ["word"] spIsNumX := by
  have B := T.B
  refine A.ok sc_is_number (fun vs H Q E h => ?_) (fun f cdv A outer s H vs Q E hr h => ?_)
  · obtain ⟨n, rfl, _⟩ := h
    rfl
  obtain ⟨u, rfl, hlen, hne, q⟩ := h
  refine ⟨_, pss_cons (ps_if (PW.pt (pw_or (pt_cmpR op_gt (pe_callB (call_len_str) (by rfl) B.len (by decide +kernel) (pa_cons (pv 0) pa_nil)) (pe_gi T.g_MOST_DIGITS) (nomark _)) (pw_or1 (PW.pt (pw_and (pt_cmpR op_eq (pe_ix ix_str (pv 0) pe_int (fun _ _ => rfl)) pe_str (nomark _)) (pw_and1 (pt_cmpR op_ne (pv 0) pe_str (nomark _))))))))
      (pss_one (ps_ret pe_bl))
      (pss_nil))
  (pss_one (ps_ret (pe_callB (cr_all rfl) (by rfl) B.all (by decide +kernel) (pa_cons (pe_lc (own := [("letter", 1)])  rfl sc_is_number.nd (pi_str (pv 0)) (blkOk_by (own := [("letter", 1)]) (N := ["word", "letter"]) (sc := defScope s_is_number) (by decide +kernel)) (fun _ _ _ _ _ => pg_name (i := 1) sc_is_number.nd rfl (Or.inl rfl)) (fun _ _ _ _ _ => pts_nil) (fun _ _ _ _ _ => (pe_cmpR op_in_sign (pv 1) (pe_gs T.g_DIGITS) (by rfl)))) pa_nil))))
    , ?_⟩
  obtain ⟨d, ds, e⟩ : ∃ d ds, tl u = d :: ds := by
    cases e : tl u with
    | nil => exact absurd e hne
    | cons d ds => exact ⟨d, ds, rfl⟩
  have hd : atI u.cps.toList 0 = some d := by
    show atI (tl u) 0 = some d
    rw [e]
    exact atI_nat (j := 0) rfl
  have hz : Str.ofString "0" = ⟨#[48]⟩ := by decide +kernel
  have fin : decide (7 < u.length) = false → (decide ((⟨#[d]⟩ : Str) = Str.ofString "0") && !decide (u = Str.ofString "0")) = false → isNumB u = (tl u).all digC := fun h1 h2 => by
    have e2 : decide ((⟨#[d]⟩ : Str) = Str.ofString "0") = decide ((tl u).head? = some 48) := by
      rw [e, hz]
      exact decide_eq_decide.mpr ⟨fun z => by rw [str1_inj z]; rfl, fun z => by rw [Option.some.inj (show some d = some 48 from z)]⟩
    unfold isNumB
    rw [h1, ← e2, h2]
    rfl
  have out : (decide (7 < u.length) = true ∨ (decide ((⟨#[d]⟩ : Str) = Str.ofString "0") && !decide (u = Str.ofString "0")) = true) → isNumB u = false := fun h => by
    rcases h with h | h
    · unfold isNumB
      rw [h]
      rfl
    · have e2 : decide ((⟨#[d]⟩ : Str) = Str.ofString "0") = decide ((tl u).head? = some 48) := by
        rw [e, hz]
        exact decide_eq_decide.mpr ⟨fun z => by rw [str1_inj z]; rfl, fun z => by rw [Option.some.inj (show some d = some 48 from z)]⟩
      unfold isNumB
      rw [← e2, h, Bool.not_true, Bool.false_and, Bool.and_false]
  have more : ∀ {D : Addr} {H1 : Hp} {i : Nat} {ch : Nat}, (tl u)[i]? = some ch → H1 D = some (.lst ((((tl u).take i).map digC).map V.bl)) → ((((tl u).take i).map digC).map V.bl).length < sizeLine ∧ .lst ((((tl u).take i).map digC).map V.bl ++ [V.bl (digC ch)]) = HO.lst ((((tl u).take (i + 1)).map digC).map V.bl) := fun {D H1 i ch} h _ => by
    refine ⟨?_, ?_⟩
    · rw [List.length_map, List.length_map, List.length_take]
      have : (tl u).length ≤ 100 := by rw [← TL.len_tl]; exact hlen
      exact small1000 (by omega)
    · rw [List.take_add_one, h, List.map_append, List.map_append]
      rfl
  refine ⟨_, rfl, _, rfl, Nat.le_trans hlen (by decide), _, _, rfl, rfl, _, rfl, ite2 (fun c => ?_) (fun c => ?_)⟩
  · have c' : 7 < u.length := by have := of_decide_eq_true c; omega
    have z := q H (Same.refl _)
    rw [out (.inl (decide_eq_true c'))] at z
    exact iteT z
  have c' : decide (7 < u.length) = false := decide_eq_false fun z => c (decide_eq_true (by omega))
  refine ⟨_, rfl, _, _, d, rfl, rfl, Nat.le_trans hlen (by decide), hd, rfl, _, rfl, ite2 (fun c2 => ?_) (fun c2 => ?_)⟩
  · by_cases c3 : u = Str.ofString "0"
    · have hb : (decide ((⟨#[d]⟩ : Str) = Str.ofString "0") && !decide (u = Str.ofString "0")) = false := by rw [decide_eq_true c3, Bool.not_true, Bool.and_false]
      refine ⟨_, rfl, rfl, _, rfl, iteF' (by rw [decide_eq_true (congrArg V.str c3)]; rfl) ?_⟩
      exact ⟨_, rfl, _, rfl, fun D hD => lc_it (walk_str) (fun i H' => Same H H' ∧ H' D = some (.lst ((((tl u).take i).map digC).map V.bl))) ⟨same_new hD _, upd_same⟩ (fun _ _ _ _ => True.intro) (fun i x H1 H2 hi hI hy => by obtain ⟨rfl, ch, hch, rfl⟩ := hy; obtain ⟨hs, hDD⟩ := hI; have hch2 : (tl u)[i]? = some ch := (by rw [show tl u = u.cps.toList from rfl, Array.getElem?_toList]; exact hch); obtain ⟨m1, m2⟩ := more hch2 hDD; exact ⟨rfl, _, rfl, ch, _, rfl, rfl, _, hDD, m1, same_at hD hs _, by rw [upd_same]; exact congrArg some m2⟩) (fun H1 hI => ⟨D, (tl u).map digC, rfl, SqL.of (by have := hI.2; rw [show u.cps.size = (tl u).length from (Array.length_toList (xs := u.cps)).symm, List.take_length] at this; exact this), by have z := q H1 hI.1; rw [fin c' hb] at z; rw [List.all_map]; exact z⟩)⟩
    · refine ⟨_, rfl, rfl, _, rfl, iteT' (by rw [decide_eq_false (fun z => c3 (V.str.inj z))]; rfl) ?_⟩
      have z := q H (Same.refl _)
      have c2' : (⟨#[d]⟩ : Str) = Str.ofString "0" := V.str.inj (of_decide_eq_true c2)
      rw [out (.inr (by rw [decide_eq_true c2', decide_eq_false c3]; rfl))] at z
      exact z
  · refine iteF ?_
    have hb : (decide ((⟨#[d]⟩ : Str) = Str.ofString "0") && !decide (u = Str.ofString "0")) = false := by rw [decide_eq_false (fun z => c2 (decide_eq_true (congrArg V.str z))), Bool.false_and]
    exact ⟨_, rfl, _, rfl, fun D hD => lc_it (walk_str) (fun i H' => Same H H' ∧ H' D = some (.lst ((((tl u).take i).map digC).map V.bl))) ⟨same_new hD _, upd_same⟩ (fun _ _ _ _ => True.intro) (fun i x H1 H2 hi hI hy => by obtain ⟨rfl, ch, hch, rfl⟩ := hy; obtain ⟨hs, hDD⟩ := hI; have hch2 : (tl u)[i]? = some ch := (by rw [show tl u = u.cps.toList from rfl, Array.getElem?_toList]; exact hch); obtain ⟨m1, m2⟩ := more hch2 hDD; exact ⟨rfl, _, rfl, ch, _, rfl, rfl, _, hDD, m1, same_at hD hs _, by rw [upd_same]; exact congrArg some m2⟩) (fun H1 hI => ⟨D, (tl u).map digC, rfl, SqL.of (by have := hI.2; rw [show u.cps.size = (tl u).length from (Array.length_toList (xs := u.cps)).symm, List.take_length] at this; exact this), by have z := q H1 hI.1; rw [fin c' hb] at z; rw [List.all_map]; exact z⟩)⟩
def spIsNameX : Sp := fun vs H Q _ => ∃ u : Str, vs = [.str u] ∧ u.length ≤ 100 ∧ tl u ≠ [] ∧ ∀ H', Same H H' → Q (.bl (isNameB u)) H'
theorem d_is_nameX (T : TxtL K mg C) (A : At K mg "is_name" s_is_name ["word"]) : DefOk P w K mg base CX0 1 "is_name" ["word"] spIsNameX := by
  have B := T.B
  refine A.ok sc_is_name (fun vs H Q E h => ?_) (fun f cdv A outer s H vs Q E hr h => ?_)
  · obtain ⟨u, rfl, _⟩ := h
    rfl
  obtain ⟨u, rfl, hlen, hne, q⟩ := h
  refine ⟨_, pss_cons (ps_if (PW.pt (pw_or (pt_cmpR op_gt (pe_callB (call_len_str) (by rfl) B.len (by decide +kernel) (pa_cons (pv 0) pa_nil)) (pe_gi T.g_MOST_NAME) (nomark _)) (pw_or1 (pt_cmpR op_notIn_sign (pe_ix ix_str (pv 0) pe_int (fun _ _ => rfl)) (pe_gs T.g_LETTERS) (by rfl)))))
      (pss_one (ps_ret pe_bl))
      (pss_nil))
  (pss_one (ps_ret (pe_callB (cr_all rfl) (by rfl) B.all (by decide +kernel) (pa_cons (pe_lc (own := [("letter", 1)])  rfl sc_is_name.nd (pi_str (pv 0)) (blkOk_by (own := [("letter", 1)]) (N := ["word", "letter"]) (sc := defScope s_is_name) (by decide +kernel)) (fun _ _ _ _ _ => pg_name (i := 1) sc_is_name.nd rfl (Or.inl rfl)) (fun _ _ _ _ _ => pts_nil) (fun _ _ _ _ _ => (pe_or (pe_cmpR op_in_sign (pv 1) (pe_gs T.g_LETTERS) (by rfl)) (pe_one (pe_cmpR op_in_sign (pv 1) (pe_gs T.g_DIGITS) (by rfl)))))) pa_nil))))
    , ?_⟩
  obtain ⟨d, ds, e⟩ : ∃ d ds, tl u = d :: ds := by
    cases e : tl u with
    | nil => exact absurd e hne
    | cons d ds => exact ⟨d, ds, rfl⟩
  have hd : atI u.cps.toList 0 = some d := by
    show atI (tl u) 0 = some d
    rw [e]
    exact atI_nat (j := 0) rfl
  have more : ∀ {D : Addr} {H1 : Hp} {i : Nat} {ch : Nat}, (tl u)[i]? = some ch → H1 D = some (.lst ((((tl u).take i).map fun c => letC c || digC c).map V.bl)) → ((((tl u).take i).map fun c => letC c || digC c).map V.bl).length < sizeLine ∧ HO.lst ((((tl u).take i).map fun c => letC c || digC c).map V.bl ++ [V.bl (letC ch || digC ch)]) = HO.lst ((((tl u).take (i + 1)).map fun c => letC c || digC c).map V.bl) := fun {D H1 i ch} h _ => by
    refine ⟨?_, ?_⟩
    · rw [List.length_map, List.length_map, List.length_take]
      have : (tl u).length ≤ 100 := by rw [← TL.len_tl]; exact hlen
      exact small1000 (by omega)
    · rw [List.take_add_one, h, List.map_append, List.map_append]
      rfl
  refine ⟨_, rfl, _, rfl, Nat.le_trans hlen (by decide), _, _, rfl, rfl, _, rfl, ite2 (fun c => ?_) (fun c => ?_)⟩
  · have c' : 15 < u.length := by have := of_decide_eq_true c; omega
    have z := q H (Same.refl _)
    rw [show isNameB u = false by unfold isNameB; rw [decide_eq_true c']; rfl] at z
    exact iteT z
  have c' : decide (15 < u.length) = false := decide_eq_false fun z => c (decide_eq_true (by omega))
  refine ⟨_, rfl, _, _, d, rfl, rfl, Nat.le_trans hlen (by decide), hd, d, _, rfl, rfl, _, rfl, ?_⟩
  cases hl : letC d with
  | false =>
    refine iteT' (show (!letC d) = true by rw [hl]; rfl) ?_
    have z := q H (Same.refl _)
    rw [show isNameB u = false by unfold isNameB; rw [c', e, List.head?_cons]; dsimp only; rw [hl]; rfl] at z
    exact z
  | true =>
    refine iteF' (show (!letC d) = false by rw [hl]; rfl) ?_
    refine ⟨_, rfl, _, rfl, fun D hD => lc_it (walk_str) (fun i H' => Same H H' ∧ H' D = some (.lst ((((tl u).take i).map fun c => letC c || digC c).map V.bl))) ⟨same_new hD _, upd_same⟩ (fun _ _ _ _ => True.intro) (fun i x H1 H2 hi hI hy => ?_) (fun H1 hI => ?_)⟩
    · obtain ⟨rfl, ch, hch, rfl⟩ := hy
      obtain ⟨hs, hDD⟩ := hI
      have hch2 : (tl u)[i]? = some ch := by
        rw [show tl u = u.cps.toList from rfl, Array.getElem?_toList]
        exact hch
      obtain ⟨m1, m2⟩ := more hch2 hDD
      refine ⟨rfl, _, rfl, ch, _, rfl, rfl, _, rfl, ite2 (fun c3 => ?_) (fun c3 => ?_)⟩
      · refine ⟨_, hDD, m1, same_at hD hs _, ?_⟩
        have c4 : letC ch = true := c3
        rw [c4, Bool.true_or] at m2
        rw [upd_same, ← m2, ← c4]
      · refine ⟨_, rfl, ch, _, rfl, rfl, _, hDD, m1, same_at hD hs _, ?_⟩
        have c4 : letC ch = false := Bool.eq_false_iff.mpr c3
        rw [c4, Bool.false_or] at m2
        rw [upd_same, ← m2]
        rfl
    · have h2 := hI.2
      rw [show u.cps.size = (tl u).length from (Array.length_toList (xs := u.cps)).symm, List.take_length] at h2
      refine ⟨D, (tl u).map fun c => letC c || digC c, rfl, SqL.of h2, ?_⟩
      have z := q H1 hI.1
      rw [show isNameB u = (tl u).all fun c => letC c || digC c by unfold isNameB; rw [c', e, List.head?_cons]; dsimp only; rw [hl]; rfl] at z
      rw [List.all_map]
      exact z
end
end DP
namespace DP
open PySem PySem.Spec PyProof.Rows L2
/-- a fault: the word's place in the line, the reason -/
abbrev Er := Nat × Str
abbrev Rd (α : Type) := Except Er α
def rdDue (ws : List Str) (r : Nat) : Rd Str := match ws[r]? with
  | none => .error (r, "missing word")
  | some u => if u = Str.ofString "" then .error (r, "empty word") else .ok u
def rdChoice (ws : List Str) (r : Nat) (cs : List Str) : Rd Str := match rdDue ws r with
  | .error e => .error e
  | .ok u => if u ∈ cs then .ok u else .error (r, "unexpected word")
def numV (u : Str) : Int := (PySem.intText? u).getD 0
def rdNum (ws : List Str) (r : Nat) (lo hi : Int) : Rd Int := match rdDue ws r with
  | .error e => .error e
  | .ok u => if isNumB u = true then (if numV u < lo ∨ hi < numV u then .error (r, "number out of range") else .ok (numV u)) else .error (r, "number expected")
def rdField (ws : List Str) (r : Nat) (x : Str) (lo hi : Int) : Rd Int := match rdChoice ws r [x] with
  | .error e => .error e
  | .ok _ => rdNum ws (r + 1) lo hi
def rdDueName (ws : List Str) (r : Nat) : Rd Str := match rdDue ws r with
  | .error e => .error e
  | .ok u => if isNameB u = true then .ok u else .error (r, "name expected")
def rdNew (ws : List Str) (r : Nat) (used : List Str) : Rd Str := match rdDueName ws r with
  | .error e => .error e
  | .ok u => if u ∈ used then .error (r, "name already used") else .ok u
def idxS (u : Str) : List Str → Nat
  | [] => 0
  | a :: r => if a = u then 0 else idxS u r + 1
def rdKnown (ws : List Str) (r : Nat) (ns : List Str) (least : Int) : Rd Nat := match rdDueName ws r with
  | .error e => .error e
  | .ok u => if u ∈ ns then (if (idxS u ns : Int) < least then .error (r, "line out of order") else .ok (idxS u ns)) else .error (r, "unknown name")
def rdFinish (ws : List Str) (r : Nat) : Rd Unit := if r < ws.length then (match rdDue ws r with
  | .error e => .error e
  | .ok _ => .error (r, "unexpected word")) else .ok ()
theorem rdDue_ok {ws : List Str} {r : Nat} {u : Str} (h : rdDue ws r = .ok u) : ws[r]? = some u ∧ u ≠ Str.ofString "" := by
  unfold rdDue at h
  split at h
  · cases h
  · rename_i v e
    split at h
    · cases h
    · rename_i n
      cases h
      exact ⟨e, n⟩
theorem ne_tl {u : Str} (h : u ≠ Str.ofString "") : tl u ≠ [] := fun z => h (TL.ext_tl (show tl u = tl (Str.ofString "") by rw [z]; decide +kernel))
theorem colW_succ {ws : List Str} {r : Nat} {u : Str} (h : ws[r]? = some u) : colW ws (r + 1) = colW ws r + ((u.length : Int) + 1) := by
  unfold colW
  rw [List.take_add_one, h, List.map_append, List.sum_append]
  show 1 + (_ + ((u.length : Int) + 1 + 0)) = _
  omega
section
variable {P : Program} {w : World} {K : PySem.W.Frag} {mg : Str → Option Value} {base : Heap} {C CT : Addr}
def spHasMoreX (C : Addr) : Sp := fun vs H Q _ => ∃ (a : Addr) (n : Int) (ws : List Str) (r : Nat), vs = [.ref a] ∧ LnX C H a n ws r ∧ Q (.bl (decide (r < ws.length))) H
theorem d_has_moreX (T : TxtL K mg C) (A : MAt K C "has_more" "Line.has_more" s_Line_has_more ["self"]) : MDef P w K mg base CX0 1 C "has_more" ["self"] [] (spHasMoreX C) := by
  have B := T.B
  refine A.ok sc_Line_has_more (fun vs H Q E h => ?_) (fun f cdv A outer s H vs Q E hr h => ?_)
  · obtain ⟨a, n, ws, r, rfl, _⟩ := h
    rfl
  obtain ⟨a, n, ws, r, rfl, hL, q⟩ := h
  obtain ⟨dx, wl, h1, h2⟩ := hL.ex
  refine ⟨_, pss_one (ps_ret (pe_cmpR op_lt (pe_fld (pv 0) rfl) (pe_callB (call_len_seq) (by rfl) B.len (by decide +kernel) (pa_cons (pe_fld (pv 0) rfl) pa_nil)) (nomark _)))
    , ?_⟩
  refine ⟨_, rfl, a, C, dx, _, _, rfl, h1, T.c_Line.cl, T.n_read, lnF_read, _, rfl, a, C, dx, _, _, rfl, h1, T.c_Line.cl, T.n_words, lnF_words, wl, _, rfl, .inl (SqL.of h2), _, _, rfl, rfl, ?_⟩
  have e : decide ((r : Int) < (((ws.map V.str).length : Nat) : Int)) = decide (r < ws.length) := by
    rw [List.length_map]
    exact decide_eq_decide.mpr (by omega)
  show Q (.bl (decide ((r : Int) < (((ws.map V.str).length : Nat) : Int)))) H
  rw [e]
  exact q
def spStepX (C : Addr) : Sp := fun vs H Q _ => ∃ (a : Addr) (n : Int) (ws : List Str) (r : Nat), vs = [.ref a] ∧ LnX C H a n ws r ∧ r < ws.length ∧ ∀ H', SameX a H H' → LnX C H' a n ws (r + 1) → Q .non H'
theorem d_stepX (T : TxtL K mg C) (A : MAt K C "step" "Line.step" s_Line_step ["self"]) : MDef P w K mg base CX0 1 C "step" ["self"] [] (spStepX C) := by
  have B := T.B
  refine A.ok sc_Line_step (fun vs H Q E h => ?_) (fun f cdv A outer s H vs Q E hr h => ?_)
  · obtain ⟨a, n, ws, r, rfl, _⟩ := h
    rfl
  obtain ⟨a, n, ws, r, rfl, hL, hr', q⟩ := h
  obtain ⟨dx, wl, h1, h2⟩ := hL.ex
  have hu : ws[r]? = some ws[r] := List.getElem?_eq_getElem hr'
  have ea : wl ≠ a := ne_of h2 h1 (fun z => nomatch z)
  have hw := hL.wl _ (List.getElem_mem hr')
  refine ⟨_, pss_cons (ps_fldaug (pv 0) (pe_op op_add (pe_callB (call_len_str) (by rfl) B.len (by decide +kernel) (pa_cons (pe_ix ix_list (pe_fld (pv 0) rfl) (pe_fld (pv 0) rfl) (fun _ _ => rfl)) pa_nil)) pe_int) in_add)
  (pss_one (ps_fldaug (pv 0) pe_int in_add))
    , ?_⟩
  refine ⟨_, rfl, a, C, dx, _, _, rfl, h1, T.c_Line.cl, T.n_column, lnF_column, _, rfl, a, C, dx, _, _, rfl, h1, T.c_Line.cl, T.n_words, lnF_words, _, rfl, a, C, dx, _, _, rfl, h1, T.c_Line.cl, T.n_read, lnF_read, wl, _, _, _, rfl, rfl, SqL.of h2, map_at hu, ?_⟩
  refine ⟨_, rfl, Nat.le_trans hw (by decide), _, _, rfl, rfl, _, _, rfl, rfl, dx, _, h1, (by show 4 < 1000; decide), ?_⟩
  rw [lnF_put_column]
  refine ⟨_, rfl, a, C, dx, _, _, rfl, upd_same, T.c_Line.cl, T.n_read, lnF_read, _, _, rfl, rfl, dx, _, upd_same, (by show 4 < 1000; decide), ?_⟩
  rw [show ((r : Int) + 1) = ((r + 1 : Nat) : Int) by omega, lnF_put_read, upd_upd, ← colW_succ hu]
  exact q _ SameX.upd ⟨⟨dx, wl, upd_same, by rw [upd_ne ea]; exact h2⟩, hL.n0, hL.n1, hr', hL.wl, hL.sz⟩
/-- a fault of the line at a -/
abbrev FltX (CT : Addr) (E : XK) (a : Addr) (H : Hp) (n : Int) (ws : List Str) (e : Er) : Prop := FltE CT E (SameX a H) n (colW ws e.1) e.2
theorem FltX.on {CT : Addr} {E : XK} {a : Addr} {H H' : Hp} {n : Int} {ws : List Str} {e : Er} (h : FltX CT E a H n ws e) (s : SameX a H H') : FltX CT E a H' n ws e := fun d H2 s2 hd => h d H2 (s.trans s2) hd
theorem FltX.same {CT : Addr} {E : XK} {a : Addr} {H : Hp} {n : Int} {ws : List Str} {e : Er} (h : FltX CT E a H n ws e) : FltE CT E (Same H) n (colW ws e.1) e.2 := fun d H2 s2 hd => h d H2 (SameX.of s2) hd
def spDueX (C CT : Addr) : Sp := fun vs H Q E => ∃ (a : Addr) (n : Int) (ws : List Str) (r : Nat), vs = [.ref a] ∧ LnX C H a n ws r ∧ (∀ e, rdDue ws r = .error e → FltX CT E a H n ws e) ∧ (∀ u, rdDue ws r = .ok u → Q (.str u) H)
theorem d_dueX (T : TxtL K mg C) (D_Line_has_more : MDef P w K mg base (L2.CX P w) 1 C "has_more" ["self"] [] (spHasMoreX C)) (D_Line_refuse : MDef P w K mg base (L2.CX P w) 3 C "refuse" ["self", "reason"] [] (spRefuse C CT)) (A : MAt K C "due" "Line.due" s_Line_due ["self"]) : MDef P w K mg base (L2.CX P w) 4 C "due" ["self"] [] (spDueX C CT) := by
  have B := T.B
  refine A.okX sc_Line_due (fun vs H Q E h => ?_) (fun f cdv A outer s H vs Q E hr h => ?_)
  · obtain ⟨a, n, ws, r, rfl, _⟩ := h
    rfl
  obtain ⟨a, n, ws, r, rfl, hL, qe, q⟩ := h
  obtain ⟨dx, wl, h1, h2⟩ := hL.ex
  refine ⟨_, pss_cons (ps_if (pt_not (pt_val (pe_m0 D_Line_has_more T.c_Line.cl (hr.mono (by omega)) (passOut rfl rfl rfl rfl) (pv 0))))
      (pss_one (ps_expr (pe_m D_Line_refuse T.c_Line.cl (hr.mono (by omega)) (passOut rfl rfl rfl rfl) (pv 0) (pa_cons pe_str pa_nil))))
      (pss_nil))
  (pss_cons (ps_set (i := 1) sc_Line_due.nd rfl (Or.inl rfl) (pe_ix ix_list (pe_fld (pv 0) rfl) (pe_fld (pv 0) rfl) (fun _ _ => rfl)))
  (pss_cons (ps_if (pt_cmpR op_eq (pv 1) pe_str (nomark _))
      (pss_one (ps_expr (pe_m D_Line_refuse T.c_Line.cl (hr.mono (by omega)) (passOut rfl rfl rfl rfl) (pv 0) (pa_cons pe_str pa_nil))))
      (pss_nil))
  (pss_one (ps_ret (pv 1)))))
    , ?_⟩
  refine ⟨_, rfl, a, dx, _, rfl, h1, lnF_no (by decide +kernel) (by decide +kernel) (by decide +kernel) (by decide +kernel), a, n, ws, r, rfl, hL, _, rfl, ?_⟩
  by_cases hr' : r < ws.length
  · have hu : ws[r]? = some ws[r] := List.getElem?_eq_getElem hr'
    refine iteF' (by rw [decide_eq_true hr']; rfl) ?_
    refine ⟨_, rfl, a, C, dx, _, _, rfl, h1, T.c_Line.cl, T.n_words, lnF_words, _, rfl, a, C, dx, _, _, rfl, h1, T.c_Line.cl, T.n_read, lnF_read, wl, _, _, _, rfl, rfl, SqL.of h2, map_at hu, ?_⟩
    by_cases hz : ws[r] = Str.ofString ""
    · have er : rdDue ws r = .error (r, "empty word") := by unfold rdDue; rw [hu]; dsimp only; rw [if_pos hz]
      refine ⟨_, rfl, rfl, _, rfl, iteT' (decide_eq_true (congrArg V.str hz)) ?_⟩
      exact ⟨_, rfl, a, dx, _, rfl, h1, lnF_no (by decide +kernel) (by decide +kernel) (by decide +kernel) (by decide +kernel), a, n, ws, r, _, rfl, hL, by decide +kernel, (qe _ er).same⟩
    · have er : rdDue ws r = .ok ws[r] := by unfold rdDue; rw [hu]; dsimp only; rw [if_neg hz]
      refine ⟨_, rfl, rfl, _, rfl, iteF' (decide_eq_false fun z => hz (V.str.inj z)) ?_⟩
      exact ⟨_, rfl, q _ er⟩
  · have er : rdDue ws r = .error (r, "missing word") := by unfold rdDue; rw [List.getElem?_eq_none (by omega)]
    refine iteT' (by rw [decide_eq_false hr']; rfl) ?_
    exact ⟨_, rfl, a, dx, _, rfl, h1, lnF_no (by decide +kernel) (by decide +kernel) (by decide +kernel) (by decide +kernel), a, n, ws, r, _, rfl, hL, by decide +kernel, (qe _ er).same⟩
theorem LnX.at {H : Hp} {a : Addr} {n : Int} {ws : List Str} {r : Nat} {u : Str} (_ : LnX C H a n ws r) (h : rdDue ws r = .ok u) : r < ws.length := (List.getElem?_eq_some_iff.mp (rdDue_ok h).1).1
def spChoiceX (K : PySem.W.Frag) (C CT : Addr) : Sp := fun vs H Q E => ∃ (a : Addr) (n : Int) (ws : List Str) (r : Nat) (t : Addr) (cs : List Str), vs = [.ref a, .ref t] ∧ LnX C H a n ws r ∧ SqT K H t (cs.map V.str) ∧ (∀ e, rdChoice ws r cs = .error e → FltX CT E a H n ws e) ∧
  ∀ u, rdChoice ws r cs = .ok u → ∀ H', SameX a H H' → LnX C H' a n ws (r + 1) → Q (.str u) H'
theorem d_read_choiceX (T : TxtL K mg C) (D_Line_due : MDef P w K mg base (L2.CX P w) 4 C "due" ["self"] [] (spDueX C CT)) (D_Line_refuse : MDef P w K mg base (L2.CX P w) 3 C "refuse" ["self", "reason"] [] (spRefuse C CT)) (D_Line_step : MDef P w K mg base (L2.CX P w) 1 C "step" ["self"] [] (spStepX C))
    (A : MAt K C "read_choice" "Line.read_choice" s_Line_read_choice ["self", "choices"]) : MDef P w K mg base (L2.CX P w) 5 C "read_choice" ["self", "choices"] [] (spChoiceX K C CT) := by
  have B := T.B
  refine A.okX sc_Line_read_choice (fun vs H Q E h => ?_) (fun f cdv A outer s H vs Q E hr h => ?_)
  · obtain ⟨a, n, ws, r, t, cs, rfl, _⟩ := h
    rfl
  obtain ⟨a, n, ws, r, t, cs, rfl, hL, hT, qe, q⟩ := h
  refine ⟨_, pss_cons (ps_set (i := 2) sc_Line_read_choice.nd rfl (Or.inl rfl) (pe_m0 D_Line_due T.c_Line.cl (hr.mono (by omega)) (passOut rfl rfl rfl rfl) (pv 0)))
  (pss_cons (ps_if (pt_cmpR op_notIn_seq (pv 2) (pv 1) (by rfl))
      (pss_one (ps_expr (pe_m D_Line_refuse T.c_Line.cl (hr.mono (by omega)) (passOut rfl rfl rfl rfl) (pv 0) (pa_cons pe_str pa_nil))))
      (pss_nil))
  (pss_cons (ps_expr (pe_m0 D_Line_step T.c_Line.cl (hr.mono (by omega)) (passOut rfl rfl rfl rfl) (pv 0)))
  (pss_one (ps_ret (pv 2)))))
    , ?_⟩
  obtain ⟨_, _, g0, z0⟩ := LnX.no hL (m := "due") (by decide +kernel) (by decide +kernel) (by decide +kernel) (by decide +kernel)
  refine ⟨_, rfl, a, _, _, rfl, g0, z0, a, n, ws, r, rfl, hL, fun e he => qe e (by unfold rdChoice; rw [he]), fun u hu => ?_⟩
  refine ⟨_, rfl, _, rfl, t, _, rfl, .inr hT, rfl, flat_strs, _, rfl, ?_⟩
  by_cases hc : u ∈ cs
  · refine iteF' (by rw [inV_str, decide_eq_true hc]; rfl) ?_
    obtain ⟨_, _, g1, z1⟩ := LnX.no hL (m := "step") (by decide +kernel) (by decide +kernel) (by decide +kernel) (by decide +kernel)
    refine ⟨_, rfl, a, _, _, rfl, g1, z1, a, n, ws, r, rfl, hL, hL.at hu, fun H' s' L' => ?_⟩
    exact ⟨_, rfl, q u (by unfold rdChoice; rw [hu]; dsimp only; rw [if_pos hc]) H' s' L'⟩
  · refine iteT' (by rw [inV_str, decide_eq_false hc]; rfl) ?_
    (obtain ⟨_, _, g1, z1⟩ := LnX.no hL (m := "refuse") (by decide +kernel) (by decide +kernel) (by decide +kernel) (by decide +kernel); exact ⟨_, rfl, a, _, _, rfl, g1, z1, a, n, ws, r, _, rfl, hL, by decide +kernel, (qe _ (by unfold rdChoice; rw [hu]; dsimp only; rw [if_neg hc])).same⟩)
end
end DP
namespace DP
open PySem PySem.Spec PyProof.Rows L2
theorem digC_lt {c : Nat} (h : digC c = true) : 48 ≤ c ∧ c ≤ 57 := by
  have all : ∀ d ∈ ("0123456789" : Str).cps.toList, 48 ≤ d ∧ d ≤ 57 := by decide +kernel
  exact all c (of_decide_eq_true h)
theorem digC_of {c : Nat} (h : 48 ≤ c ∧ c ≤ 57) : digC c = true := decide_eq_true (dig_in h)
/-- digits without a 0 ahead are a number's text -/
theorem numL_of : ∀ (k : Nat) (ds : List Nat), ds.length = k → ds ≠ [] → (∀ c ∈ ds, 48 ≤ c ∧ c ≤ 57) → (ds.head? = some 48 → ds = [48]) → ∃ m, TL.numL m = ds := by
  intro k
  induction k using Nat.strongRecOn with
  | _ k ih =>
    intro ds hk hne hd h0
    have hsp := List.dropLast_concat_getLast hne
    have hl := hd (ds.getLast hne) (List.getLast_mem hne)
    by_cases c : ds.dropLast = []
    · rw [c, List.nil_append] at hsp
      refine ⟨ds.getLast hne - 48, ?_⟩
      rw [TL.numL_lt (by omega), show 48 + (ds.getLast hne - 48) = ds.getLast hne by omega]
      exact hsp
    · have hh : ds.head? = ds.dropLast.head? := by
        cases q : ds.dropLast with
        | nil => exact absurd q c
        | cons x y =>
          rw [q] at hsp
          rw [← hsp]
          rfl
      have h1 : ds.dropLast.length < k := by
        rw [List.length_dropLast, hk]
        have : 0 < ds.length := List.length_pos_iff.mpr hne
        omega
      have h2 : ds.head? ≠ some 48 := fun z => by
        have e := h0 z
        rw [e] at c
        exact c rfl
      obtain ⟨m, hm⟩ := ih _ h1 ds.dropLast rfl c (fun x hx => hd x (List.dropLast_subset _ hx)) (fun z => absurd (hh.trans z) h2)
      have m0 : m ≠ 0 := fun z => by
        rw [z] at hm
        have e : TL.numL 0 = [48] := by rw [TL.numL_lt (by decide)]
        rw [e] at hm
        exact h2 (by rw [hh, ← hm]; rfl)
      refine ⟨10 * m + (ds.getLast hne - 48), ?_⟩
      rw [TL.numL_step (by omega), show (10 * m + (ds.getLast hne - 48)) / 10 = m by omega, show (10 * m + (ds.getLast hne - 48)) % 10 = ds.getLast hne - 48 by omega, hm]
      conv => rhs; rw [← hsp]
      congr 2
      omega
theorem numL_small {m k : Nat} (hk : 0 < k) (h : (TL.numL m).length ≤ k) : m < 10 ^ k := by
  induction k generalizing m with
  | zero => omega
  | succ j ih =>
    by_cases c : m < 10
    · have : 10 ^ 1 ≤ 10 ^ (j + 1) := Nat.pow_le_pow_right (by decide) (by omega)
      omega
    · rw [TL.numL_step (by omega), List.length_append, List.length_singleton] at h
      have hj : 0 < j := by
        rcases Nat.eq_zero_or_pos j with z | z
        · subst z
          have : TL.numL (m / 10) = [] := List.eq_nil_of_length_eq_zero (by omega)
          exact absurd this (TL.numL_ne _)
        · exact z
      have := ih hj (m := m / 10) (by omega)
      rw [Nat.pow_succ]
      omega
theorem isNumB_num {u : Str} (hne : tl u ≠ []) (h : isNumB u = true) : ∃ m : Int, 0 ≤ m ∧ m < 10000000 ∧ u = num m := by
  unfold isNumB at h
  rw [Bool.and_eq_true, Bool.and_eq_true] at h
  obtain ⟨h1, h2, h3⟩ := h
  have hl : u.length ≤ 7 := by
    rw [Bool.not_eq_true', decide_eq_false_iff_not] at h1
    omega
  obtain ⟨m, hm⟩ := numL_of _ (tl u) rfl hne (fun c hc => digC_lt (List.all_eq_true.mp h3 c hc)) (fun z => by
    rw [Bool.not_eq_true', Bool.and_eq_false_iff, decide_eq_false_iff_not, Bool.not_eq_false', decide_eq_true_eq] at h2
    rcases h2 with h2 | h2
    · exact absurd z h2
    · rw [h2]
      decide +kernel)
  have hm7 : m < 10000000 := by
    have hl' : (tl u).length ≤ 7 := by rw [← TL.len_tl]; exact hl
    rw [← hm] at hl'
    exact numL_small (k := 7) (by decide) hl'
  refine ⟨(m : Int), by omega, by omega, TL.ext_tl ?_⟩
  show tl u = tl (num (m : Int))
  rw [num_nat (by omega), Int.toNat_natCast, hm]
theorem numV_num {m : Int} (h0 : 0 ≤ m) (h1 : m < 10000000) : numV (num m) = m := by
  unfold numV
  rw [(int_of_num h0 h1).1]
  rfl
theorem isNumB_of {m : Int} (h0 : 0 ≤ m) (h1 : m < 10000000) : isNumB (num m) = true := by
  have htl := num_nat h0
  have hlen : (num m).length ≤ 7 := by
    rw [TL.len_tl, show TL.tl (num m) = tl (num m) from rfl, htl]
    exact numL_len7 (by omega)
  unfold isNumB
  rw [Bool.and_eq_true, Bool.and_eq_true]
  refine ⟨by rw [decide_eq_false (by omega)]; rfl, ?_, List.all_eq_true.mpr fun c hc => ?_⟩
  · by_cases c : (tl (num m)).head? = some 48
    · have e : m = 0 := by
        rw [htl] at c
        cases q : TL.numL m.toNat with
        | nil => exact absurd q (TL.numL_ne _)
        | cons a b =>
          rw [q] at c
          have ea : a = 48 := Option.some.inj c
          have := numL_head b (by rw [q, ea])
          omega
      rw [e]
      decide +kernel
    · rw [decide_eq_false c]
      rfl
  · rw [htl] at hc
    exact digC_of (TL.numL_digits _ c hc)
section
variable {P : Program} {w : World} {K : PySem.W.Frag} {mg : Str → Option Value} {base : Heap} {C CT : Addr}
theorem LnX.wlen {H : Hp} {a : Addr} {n : Int} {ws : List Str} {r : Nat} {u : Str} (h : LnX C H a n ws r) (hu : rdDue ws r = .ok u) : u.length ≤ 100 := Nat.le_trans (h.wl u (List.mem_of_getElem? (rdDue_ok hu).1)) (by decide)
def spNumberX (C CT : Addr) : Sp := fun vs H Q E => ∃ (a : Addr) (n : Int) (ws : List Str) (r : Nat) (lo hi : Int), vs = [.ref a, .int lo, .int hi] ∧ LnX C H a n ws r ∧ (∀ e, rdNum ws r lo hi = .error e → FltX CT E a H n ws e) ∧
  ∀ m, rdNum ws r lo hi = .ok m → ∀ H', SameX a H H' → LnX C H' a n ws (r + 1) → Q (.int m) H'
theorem d_read_numberX (T : TxtL K mg C) (D_is_number : DefOk P w K mg base (L2.CX P w) 1 "is_number" ["word"] spIsNumX) (D_Line_due : MDef P w K mg base (L2.CX P w) 4 C "due" ["self"] [] (spDueX C CT)) (D_Line_refuse : MDef P w K mg base (L2.CX P w) 3 C "refuse" ["self", "reason"] [] (spRefuse C CT)) (D_Line_step : MDef P w K mg base (L2.CX P w) 1 C "step" ["self"] [] (spStepX C))
    (A : MAt K C "read_number" "Line.read_number" s_Line_read_number ["self", "least", "most"]) : MDef P w K mg base (L2.CX P w) 5 C "read_number" ["self", "least", "most"] [] (spNumberX C CT) := by
  have B := T.B
  refine A.okX sc_Line_read_number (fun vs H Q E h => ?_) (fun f cdv A outer s H vs Q E hr h => ?_)
  · obtain ⟨a, n, ws, r, lo, hi, rfl, _⟩ := h
    rfl
  obtain ⟨a, n, ws, r, lo, hi, rfl, hL, qe, q⟩ := h
  refine ⟨_, pss_cons (ps_set (i := 3) sc_Line_read_number.nd rfl (Or.inl rfl) (pe_m0 D_Line_due T.c_Line.cl (hr.mono (by omega)) (passOut rfl rfl rfl rfl) (pv 0)))
  (pss_cons (ps_if (pt_not (pt_val (pe_f D_is_number (hr.mono (by omega)) (passOut rfl rfl rfl rfl) (pa_cons (pv 3) pa_nil))))
      (pss_one (ps_expr (pe_m D_Line_refuse T.c_Line.cl (hr.mono (by omega)) (passOut rfl rfl rfl rfl) (pv 0) (pa_cons pe_str pa_nil))))
      (pss_nil))
  (pss_cons (ps_set (i := 4) sc_Line_read_number.nd rfl (Or.inl rfl) (pe_callTy (call_int_str) (by rfl) B.int (by decide +kernel) (pa_cons (pv 3) pa_nil)))
  (pss_cons (ps_if (PW.pt (pw_or (pt_cmpR op_lt (pv 4) (pv 1) (nomark _)) (pw_or1 (pt_cmpR op_gt (pv 4) (pv 2) (nomark _)))))
      (pss_one (ps_expr (pe_m D_Line_refuse T.c_Line.cl (hr.mono (by omega)) (passOut rfl rfl rfl rfl) (pv 0) (pa_cons pe_str pa_nil))))
      (pss_nil))
  (pss_cons (ps_expr (pe_m0 D_Line_step T.c_Line.cl (hr.mono (by omega)) (passOut rfl rfl rfl rfl) (pv 0)))
  (pss_one (ps_ret (pv 4)))))))
    , ?_⟩
  obtain ⟨_, _, g0, z0⟩ := LnX.no hL (m := "due") (by decide +kernel) (by decide +kernel) (by decide +kernel) (by decide +kernel)
  refine ⟨_, rfl, a, _, _, rfl, g0, z0, a, n, ws, r, rfl, hL, fun e he => qe e (by unfold rdNum; rw [he]), fun u hu => ?_⟩
  have hne := ne_tl (rdDue_ok hu).2
  refine ⟨_, rfl, u, rfl, hL.wlen hu, hne, fun H1 s1 => ⟨_, rfl, ?_⟩⟩
  have L1 := hL.same s1
  cases hb : isNumB u with
  | false =>
    refine iteT ?_
    (obtain ⟨_, _, g1, z1⟩ := LnX.no L1 (m := "refuse") (by decide +kernel) (by decide +kernel) (by decide +kernel) (by decide +kernel); exact ⟨_, rfl, a, _, _, rfl, g1, z1, a, n, ws, r, _, rfl, L1, by decide +kernel, ((qe _ (by unfold rdNum; rw [hu]; dsimp only; rw [hb, if_neg Bool.false_ne_true])).on (SameX.of s1)).same⟩)
  | true =>
    refine iteF ?_
    obtain ⟨m, m0, m1, hm⟩ := isNumB_num hne hb
    obtain ⟨i1, i2⟩ := int_of_num m0 m1
    have hv : numV u = m := by rw [hm]; exact numV_num m0 m1
    refine ⟨_, rfl, u, m, rfl, by rw [hm]; exact i1, by rw [hm]; exact i2, ?_⟩
    refine ⟨_, rfl, _, rfl, _, _, rfl, rfl, _, rfl, ite2 (fun c => ?_) (fun c => ?_)⟩
    · refine iteT ?_
      have c1 : m < lo := of_decide_eq_true c
      (obtain ⟨_, _, g1, z1⟩ := LnX.no L1 (m := "refuse") (by decide +kernel) (by decide +kernel) (by decide +kernel) (by decide +kernel); exact ⟨_, rfl, a, _, _, rfl, g1, z1, a, n, ws, r, _, rfl, L1, by decide +kernel, ((qe _ (by unfold rdNum; rw [hu]; dsimp only; rw [hb, if_pos rfl, hv, if_pos (Or.inl c1)])).on (SameX.of s1)).same⟩)
    refine ⟨_, rfl, _, rfl, _, _, rfl, rfl, _, rfl, ite2 (fun c2 => ?_) (fun c2 => ?_)⟩
    · have c3 : hi < m := by have := of_decide_eq_true c2; omega
      (obtain ⟨_, _, g1, z1⟩ := LnX.no L1 (m := "refuse") (by decide +kernel) (by decide +kernel) (by decide +kernel) (by decide +kernel); exact ⟨_, rfl, a, _, _, rfl, g1, z1, a, n, ws, r, _, rfl, L1, by decide +kernel, ((qe _ (by unfold rdNum; rw [hu]; dsimp only; rw [hb, if_pos rfl, hv, if_pos (Or.inr c3)])).on (SameX.of s1)).same⟩)
    have d1 : ¬ m < lo := fun z => c (decide_eq_true z)
    have d2 : ¬ hi < m := fun z => c2 (decide_eq_true (by omega))
    obtain ⟨_, _, g1, z1⟩ := LnX.no L1 (m := "step") (by decide +kernel) (by decide +kernel) (by decide +kernel) (by decide +kernel)
    refine ⟨_, rfl, a, _, _, rfl, g1, z1, a, n, ws, r, rfl, L1, hL.at hu, fun H' s' L' => ?_⟩
    exact ⟨_, rfl, q m (by unfold rdNum; rw [hu]; dsimp only; rw [hb, if_pos rfl, hv, if_neg (fun z => z.elim d1 d2)]) H' ((SameX.of s1).trans s') L'⟩
def spFieldX (C CT : Addr) : Sp := fun vs H Q E => ∃ (a : Addr) (n : Int) (ws : List Str) (r : Nat) (x : Str) (lo hi : Int), vs = [.ref a, .str x, .int lo, .int hi] ∧ LnX C H a n ws r ∧ (∀ e, rdField ws r x lo hi = .error e → FltX CT E a H n ws e) ∧
  ∀ m, rdField ws r x lo hi = .ok m → ∀ H', SameX a H H' → LnX C H' a n ws (r + 2) → Q (.int m) H'
theorem d_read_fieldX (T : TxtL K mg C) (D_Line_read_choice : MDef P w K mg base (L2.CX P w) 5 C "read_choice" ["self", "choices"] [] (spChoiceX K C CT)) (D_Line_read_number : MDef P w K mg base (L2.CX P w) 5 C "read_number" ["self", "least", "most"] [] (spNumberX C CT))
    (A : MAt K C "read_field" "Line.read_field" s_Line_read_field ["self", "word", "least", "most"]) : MDef P w K mg base (L2.CX P w) 6 C "read_field" ["self", "word", "least", "most"] [] (spFieldX C CT) := by
  have B := T.B
  refine A.okX sc_Line_read_field (fun vs H Q E h => ?_) (fun f cdv A outer s H vs Q E hr h => ?_)
  · obtain ⟨a, n, ws, r, x, lo, hi, rfl, _⟩ := h
    rfl
  obtain ⟨a, n, ws, r, x, lo, hi, rfl, hL, qe, q⟩ := h
  refine ⟨_, pss_cons (ps_expr (pe_m D_Line_read_choice T.c_Line.cl (hr.mono (by omega)) (passOut rfl rfl rfl rfl) (pv 0) (pa_cons (pe_tup (pa_cons (pv 1) pa_nil)) pa_nil)))
  (pss_one (ps_ret (pe_m D_Line_read_number T.c_Line.cl (hr.mono (by omega)) (passOut rfl rfl rfl rfl) (pv 0) (pa_cons (pv 2) (pa_cons (pv 3) pa_nil)))))
    , ?_⟩
  obtain ⟨_, _, g0, z0⟩ := LnX.no hL (m := "read_choice") (by decide +kernel) (by decide +kernel) (by decide +kernel) (by decide +kernel)
  refine ⟨_, rfl, a, _, _, rfl, g0, z0, _, rfl, (by show 1 ≤ sizeLine; decide), fun t ht => ?_⟩
  have s1 : Same H (upd H t (.tup [.str x])) := same_new ht _
  refine ⟨a, n, ws, r, t, [x], rfl, hL.same s1, SqT.of upd_same, fun e he => (qe e (by unfold rdField; rw [he])).on (SameX.of s1), fun u hu H2 s2 L2 => ?_⟩
  have s02 := (SameX.of s1).trans s2
  obtain ⟨_, _, g1, z1⟩ := LnX.no L2 (m := "read_number") (by decide +kernel) (by decide +kernel) (by decide +kernel) (by decide +kernel)
  refine ⟨_, rfl, a, _, _, rfl, g1, z1, _, rfl, _, rfl, a, n, ws, r + 1, lo, hi, rfl, L2, fun e he => (qe e (by unfold rdField; rw [hu]; exact he)).on s02, fun m hm H3 s3 L3 => ?_⟩
  exact q m (by unfold rdField; rw [hu]; exact hm) H3 (s02.trans s3) L3
def spDueNameX (C CT : Addr) : Sp := fun vs H Q E => ∃ (a : Addr) (n : Int) (ws : List Str) (r : Nat), vs = [.ref a] ∧ LnX C H a n ws r ∧ (∀ e, rdDueName ws r = .error e → FltX CT E a H n ws e) ∧ (∀ u, rdDueName ws r = .ok u → ∀ H', Same H H' → Q (.str u) H')
theorem d_due_nameX (T : TxtL K mg C) (D_is_name : DefOk P w K mg base (L2.CX P w) 1 "is_name" ["word"] spIsNameX) (D_Line_due : MDef P w K mg base (L2.CX P w) 4 C "due" ["self"] [] (spDueX C CT)) (D_Line_refuse : MDef P w K mg base (L2.CX P w) 3 C "refuse" ["self", "reason"] [] (spRefuse C CT))
    (A : MAt K C "due_name" "Line.due_name" s_Line_due_name ["self"]) : MDef P w K mg base (L2.CX P w) 5 C "due_name" ["self"] [] (spDueNameX C CT) := by
  have B := T.B
  refine A.okX sc_Line_due_name (fun vs H Q E h => ?_) (fun f cdv A outer s H vs Q E hr h => ?_)
  · obtain ⟨a, n, ws, r, rfl, _⟩ := h
    rfl
  obtain ⟨a, n, ws, r, rfl, hL, qe, q⟩ := h
  refine ⟨_, pss_cons (ps_set (i := 1) sc_Line_due_name.nd rfl (Or.inl rfl) (pe_m0 D_Line_due T.c_Line.cl (hr.mono (by omega)) (passOut rfl rfl rfl rfl) (pv 0)))
  (pss_cons (ps_if (pt_not (pt_val (pe_f D_is_name (hr.mono (by omega)) (passOut rfl rfl rfl rfl) (pa_cons (pv 1) pa_nil))))
      (pss_one (ps_expr (pe_m D_Line_refuse T.c_Line.cl (hr.mono (by omega)) (passOut rfl rfl rfl rfl) (pv 0) (pa_cons pe_str pa_nil))))
      (pss_nil))
  (pss_one (ps_ret (pv 1))))
    , ?_⟩
  obtain ⟨_, _, g0, z0⟩ := LnX.no hL (m := "due") (by decide +kernel) (by decide +kernel) (by decide +kernel) (by decide +kernel)
  refine ⟨_, rfl, a, _, _, rfl, g0, z0, a, n, ws, r, rfl, hL, fun e he => qe e (by unfold rdDueName; rw [he]), fun u hu => ?_⟩
  refine ⟨_, rfl, u, rfl, hL.wlen hu, ne_tl (rdDue_ok hu).2, fun H1 s1 => ⟨_, rfl, ?_⟩⟩
  have L1 := hL.same s1
  cases hb : isNameB u with
  | false =>
    refine iteT ?_
    (obtain ⟨_, _, g1, z1⟩ := LnX.no L1 (m := "refuse") (by decide +kernel) (by decide +kernel) (by decide +kernel) (by decide +kernel); exact ⟨_, rfl, a, _, _, rfl, g1, z1, a, n, ws, r, _, rfl, L1, by decide +kernel, ((qe _ (by unfold rdDueName; rw [hu]; dsimp only; rw [hb, if_neg Bool.false_ne_true])).on (SameX.of s1)).same⟩)
  | true =>
    refine iteF ⟨_, rfl, q u (by unfold rdDueName; rw [hu]; dsimp only; rw [hb, if_pos rfl]) H1 s1⟩
theorem rdDueName_at {ws : List Str} {r : Nat} {u : Str} (h : rdDueName ws r = .ok u) : r < ws.length := by
  unfold rdDueName at h
  split at h
  · cases h
  · rename_i v e
    exact (List.getElem?_eq_some_iff.mp (rdDue_ok e).1).1
def spNewNameX (K : PySem.W.Frag) (C CT : Addr) : Sp := fun vs H Q E => ∃ (a : Addr) (n : Int) (ws : List Str) (r : Nat) (p : Addr) (ns : List Str), vs = [.ref a, .ref p] ∧ LnX C H a n ws r ∧ SqL K H p (ns.map V.str) ∧ (∀ e, rdNew ws r ns = .error e → FltX CT E a H n ws e) ∧
  ∀ u, rdNew ws r ns = .ok u → ∀ H', SameX a H H' → LnX C H' a n ws (r + 1) → Q (.str u) H'
theorem d_read_new_nameX (T : TxtL K mg C) (D_Line_due_name : MDef P w K mg base (L2.CX P w) 5 C "due_name" ["self"] [] (spDueNameX C CT)) (D_Line_refuse : MDef P w K mg base (L2.CX P w) 3 C "refuse" ["self", "reason"] [] (spRefuse C CT)) (D_Line_step : MDef P w K mg base (L2.CX P w) 1 C "step" ["self"] [] (spStepX C))
    (A : MAt K C "read_new_name" "Line.read_new_name" s_Line_read_new_name ["self", "used"]) : MDef P w K mg base (L2.CX P w) 6 C "read_new_name" ["self", "used"] [] (spNewNameX K C CT) := by
  have B := T.B
  refine A.okX sc_Line_read_new_name (fun vs H Q E h => ?_) (fun f cdv A outer s H vs Q E hr h => ?_)
  · obtain ⟨a, n, ws, r, p, ns, rfl, _⟩ := h
    rfl
  obtain ⟨a, n, ws, r, p, ns, rfl, hL, hP, qe, q⟩ := h
  refine ⟨_, pss_cons (ps_set (i := 2) sc_Line_read_new_name.nd rfl (Or.inl rfl) (pe_m0 D_Line_due_name T.c_Line.cl (hr.mono (by omega)) (passOut rfl rfl rfl rfl) (pv 0)))
  (pss_cons (ps_if (pt_cmpR op_in_seq (pv 2) (pv 1) (by rfl))
      (pss_one (ps_expr (pe_m D_Line_refuse T.c_Line.cl (hr.mono (by omega)) (passOut rfl rfl rfl rfl) (pv 0) (pa_cons pe_str pa_nil))))
      (pss_nil))
  (pss_cons (ps_expr (pe_m0 D_Line_step T.c_Line.cl (hr.mono (by omega)) (passOut rfl rfl rfl rfl) (pv 0)))
  (pss_one (ps_ret (pv 2)))))
    , ?_⟩
  obtain ⟨_, _, g0, z0⟩ := LnX.no hL (m := "due_name") (by decide +kernel) (by decide +kernel) (by decide +kernel) (by decide +kernel)
  refine ⟨_, rfl, a, _, _, rfl, g0, z0, a, n, ws, r, rfl, hL, fun e he => qe e (by unfold rdNew; rw [he]), fun u hu H1 s1 => ?_⟩
  have L1 := hL.same s1
  refine ⟨_, rfl, _, rfl, p, _, rfl, .inl (s1.seq hP), rfl, flat_strs, _, rfl, ?_⟩
  by_cases hc : u ∈ ns
  · refine iteT' (by rw [inV_str, decide_eq_true hc]; rfl) ?_
    (obtain ⟨_, _, g1, z1⟩ := LnX.no L1 (m := "refuse") (by decide +kernel) (by decide +kernel) (by decide +kernel) (by decide +kernel); exact ⟨_, rfl, a, _, _, rfl, g1, z1, a, n, ws, r, _, rfl, L1, by decide +kernel, ((qe _ (by unfold rdNew; rw [hu]; dsimp only; rw [if_pos hc])).on (SameX.of s1)).same⟩)
  · refine iteF' (by rw [inV_str, decide_eq_false hc]; rfl) ?_
    obtain ⟨_, _, g1, z1⟩ := LnX.no L1 (m := "step") (by decide +kernel) (by decide +kernel) (by decide +kernel) (by decide +kernel)
    refine ⟨_, rfl, a, _, _, rfl, g1, z1, a, n, ws, r, rfl, L1, rdDueName_at hu, fun H' s' L' => ?_⟩
    exact ⟨_, rfl, q u (by unfold rdNew; rw [hu]; dsimp only; rw [if_neg hc]) H' ((SameX.of s1).trans s') L'⟩
def spFinishX (C CT : Addr) : Sp := fun vs H Q E => ∃ (a : Addr) (n : Int) (ws : List Str) (r : Nat), vs = [.ref a] ∧ LnX C H a n ws r ∧ (∀ e, rdFinish ws r = .error e → FltX CT E a H n ws e) ∧ (rdFinish ws r = .ok () → Q .non H)
theorem d_finishX (T : TxtL K mg C) (D_Line_has_more : MDef P w K mg base (L2.CX P w) 1 C "has_more" ["self"] [] (spHasMoreX C)) (D_Line_due : MDef P w K mg base (L2.CX P w) 4 C "due" ["self"] [] (spDueX C CT)) (D_Line_refuse : MDef P w K mg base (L2.CX P w) 3 C "refuse" ["self", "reason"] [] (spRefuse C CT)) (A : MAt K C "finish" "Line.finish" s_Line_finish ["self"]) : MDef P w K mg base (L2.CX P w) 5 C "finish" ["self"] [] (spFinishX C CT) := by
  have B := T.B
  refine A.okX sc_Line_finish (fun vs H Q E h => ?_) (fun f cdv A outer s H vs Q E hr h => ?_)
  · obtain ⟨a, n, ws, r, rfl, _⟩ := h
    rfl
  obtain ⟨a, n, ws, r, rfl, hL, qe, q⟩ := h
  refine ⟨_, pss_one (ps_if (pt_val (pe_m0 D_Line_has_more T.c_Line.cl (hr.mono (by omega)) (passOut rfl rfl rfl rfl) (pv 0)))
      (pss_cons (ps_expr (pe_m0 D_Line_due T.c_Line.cl (hr.mono (by omega)) (passOut rfl rfl rfl rfl) (pv 0)))
      (pss_one (ps_expr (pe_m D_Line_refuse T.c_Line.cl (hr.mono (by omega)) (passOut rfl rfl rfl rfl) (pv 0) (pa_cons pe_str pa_nil)))))
      (pss_nil))
    , ?_⟩
  obtain ⟨_, _, g0, z0⟩ := LnX.no hL (m := "has_more") (by decide +kernel) (by decide +kernel) (by decide +kernel) (by decide +kernel)
  refine ⟨_, rfl, a, _, _, rfl, g0, z0, a, n, ws, r, rfl, hL, _, rfl, ?_⟩
  by_cases c : r < ws.length
  · refine iteT' (decide_eq_true c) ?_
    obtain ⟨_, _, g1, z1⟩ := LnX.no hL (m := "due") (by decide +kernel) (by decide +kernel) (by decide +kernel) (by decide +kernel)
    refine ⟨_, rfl, a, _, _, rfl, g1, z1, a, n, ws, r, rfl, hL, fun e he => qe e (by unfold rdFinish; rw [if_pos c, he]), fun u hu => ?_⟩
    (obtain ⟨_, _, g2, z2⟩ := LnX.no hL (m := "refuse") (by decide +kernel) (by decide +kernel) (by decide +kernel) (by decide +kernel); exact ⟨_, rfl, a, _, _, rfl, g2, z2, a, n, ws, r, _, rfl, hL, by decide +kernel, (qe _ (by unfold rdFinish; rw [if_pos c, hu])).same⟩)
  · exact iteF' (decide_eq_false c) (q (by unfold rdFinish; rw [if_neg c]))
theorem MAtD.okX {m qual : Str} {st : Stmt} {ps N : List Str} {k : Nat} {sp : Sp} {ds : List V} (F : MAtD K C m qual st ps ds) (S : FnScope N ps (defScope st)) (len : ∀ vs H Q E, sp vs H Q E → vs.length = ps.length)
    (hbody : ∀ (f : Addr) (cdv : Value) (A : Around) (outer : List Env) (s : Shared) (H : Hp) (vs : List V) (Q : VK) (E : XK), Room k (A.deeper (envOfC qual (defScope st) s.heap.objs.size f cdv)) → sp vs H Q E →
      ∃ t, PSs (cxOf (L2.CX P w) P w K mg base N qual (defScope st) f cdv A outer s H E) (defBody st) t ∧ t { nx := fun _ H' => Q .non H', rt := Q } (start N vs) H) : MDef P w K mg base (L2.CX P w) (k + 1) C m ps ds sp := by
  obtain ⟨f, fd, us, G, M, b, v⟩ := F.ex
  exact ⟨f, fd, us, G.ok S len (fun cdv A outer s H vs Q E hr h => hbody f cdv A outer s H vs Q E hr h), M, b, v⟩
theorem idxS_at {u : Str} : ∀ {ns : List Str}, u ∈ ns → ns[idxS u ns]? = some u
  | a :: r, h => by
    unfold idxS
    by_cases e : a = u
    · rw [if_pos e, e]
      rfl
    · rw [if_neg e, List.getElem?_cons_succ]
      rcases List.mem_cons.mp h with h | h
      · exact absurd h.symm e
      · exact idxS_at h
theorem idxS_first {u : Str} : ∀ {ns : List Str} {m : Nat} {z : Str}, m < idxS u ns → ns[m]? = some z → z ≠ u
  | [], _, _, _, h => by simp at h
  | a :: r, 0, z, h, hz => by
    have ez : a = z := Option.some.inj hz
    rw [← ez]
    intro e
    unfold idxS at h
    rw [if_pos e] at h
    exact absurd h (Nat.lt_irrefl _)
  | a :: r, m + 1, z, h, hz => by
    unfold idxS at h
    by_cases e : a = u
    · rw [if_pos e] at h
      omega
    · rw [if_neg e] at h
      exact idxS_first (m := m) (by omega) hz
def spKnownNameX (K : PySem.W.Frag) (C CT : Addr) : Sp := fun vs H Q E => ∃ (a : Addr) (n : Int) (ws : List Str) (r : Nat) (p : Addr) (ns : List Str) (least : Int), vs = [.ref a, .ref p, .int least] ∧ LnX C H a n ws r ∧ SqL K H p (ns.map V.str) ∧ (∀ e, rdKnown ws r ns least = .error e → FltX CT E a H n ws e) ∧
  ∀ j, rdKnown ws r ns least = .ok j → ∀ H', SameX a H H' → LnX C H' a n ws (r + 1) → Q (.int (j : Int)) H'
theorem d_read_known_nameX (T : TxtL K mg C) (D_Line_due_name : MDef P w K mg base (L2.CX P w) 5 C "due_name" ["self"] [] (spDueNameX C CT)) (D_Line_refuse : MDef P w K mg base (L2.CX P w) 3 C "refuse" ["self", "reason"] [] (spRefuse C CT)) (D_Line_step : MDef P w K mg base (L2.CX P w) 1 C "step" ["self"] [] (spStepX C))
    (A : MAtD K C "read_known_name" "Line.read_known_name" s_Line_read_known_name ["self", "names", "least"] [.int 0]) : MDef P w K mg base (L2.CX P w) 6 C "read_known_name" ["self", "names", "least"] [.int 0] (spKnownNameX K C CT) := by
  have B := T.B
  refine A.okX sc_Line_read_known_name (fun vs H Q E h => ?_) (fun f cdv A outer s H vs Q E hr h => ?_)
  · obtain ⟨a, n, ws, r, p, ns, least, rfl, _⟩ := h
    rfl
  obtain ⟨a, n, ws, r, p, ns, least, rfl, hL, hP, qe, q⟩ := h
  refine ⟨_, pss_cons (ps_set (i := 3) sc_Line_read_known_name.nd rfl (Or.inl rfl) (pe_m0 D_Line_due_name T.c_Line.cl (hr.mono (by omega)) (passOut rfl rfl rfl rfl) (pv 0)))
  (pss_cons (ps_if (pt_cmpR op_notIn_seq (pv 3) (pv 1) (by rfl))
      (pss_one (ps_expr (pe_m D_Line_refuse T.c_Line.cl (hr.mono (by omega)) (passOut rfl rfl rfl rfl) (pv 0) (pa_cons pe_str pa_nil))))
      (pss_nil))
  (pss_cons (ps_set (i := 4) sc_Line_read_known_name.nd rfl (Or.inl rfl) (pe_bm PySem.F.plainAttrs_list PySem.F.slot_list_index PySem.F.type_list_index mt_index (pv 1) (pa_cons (pv 3) pa_nil)))
  (pss_cons (ps_if (pt_cmpR op_lt (pv 4) (pv 2) (nomark _))
      (pss_one (ps_expr (pe_m D_Line_refuse T.c_Line.cl (hr.mono (by omega)) (passOut rfl rfl rfl rfl) (pv 0) (pa_cons pe_str pa_nil))))
      (pss_nil))
  (pss_cons (ps_expr (pe_m0 D_Line_step T.c_Line.cl (hr.mono (by omega)) (passOut rfl rfl rfl rfl) (pv 0)))
  (pss_one (ps_ret (pv 4)))))))
    , ?_⟩
  obtain ⟨_, _, g0, z0⟩ := LnX.no hL (m := "due_name") (by decide +kernel) (by decide +kernel) (by decide +kernel) (by decide +kernel)
  refine ⟨_, rfl, a, _, _, rfl, g0, z0, a, n, ws, r, rfl, hL, fun e he => qe e (by unfold rdKnown; rw [he]), fun u hu H1 s1 => ?_⟩
  have L1 := hL.same s1
  refine ⟨_, rfl, _, rfl, p, _, rfl, .inl (s1.seq hP), rfl, flat_strs, _, rfl, ?_⟩
  by_cases hc : u ∈ ns
  · refine iteF' (by rw [inV_str, decide_eq_true hc]; rfl) ?_
    refine ⟨_, rfl, .inl ⟨rfl, _, s1.seq hP⟩, _, rfl, p, _, _, idxS u ns, .str u, rfl, rfl, s1.seq hP, rfl, flat_strs, by rw [List.getElem?_map, idxS_at hc]; rfl, decide_eq_true rfl, fun m z hm hz => ?_, ?_⟩
    · rw [List.getElem?_map] at hz
      cases e : ns[m]? with
      | none => rw [e] at hz; cases hz
      | some y =>
        rw [e] at hz
        have ez : V.str y = z := Option.some.inj hz
        rw [← ez]
        exact decide_eq_false (idxS_first hm e)
    refine ⟨_, rfl, _, rfl, _, _, rfl, rfl, _, rfl, ?_⟩
    by_cases hl : (idxS u ns : Int) < least
    · refine iteT' (decide_eq_true hl) ?_
      (obtain ⟨_, _, g1, z1⟩ := LnX.no L1 (m := "refuse") (by decide +kernel) (by decide +kernel) (by decide +kernel) (by decide +kernel); exact ⟨_, rfl, a, _, _, rfl, g1, z1, a, n, ws, r, _, rfl, L1, by decide +kernel, ((qe _ (by unfold rdKnown; rw [hu]; dsimp only; rw [if_pos hc, if_pos hl])).on (SameX.of s1)).same⟩)
    · refine iteF' (decide_eq_false hl) ?_
      obtain ⟨_, _, g1, z1⟩ := LnX.no L1 (m := "step") (by decide +kernel) (by decide +kernel) (by decide +kernel) (by decide +kernel)
      refine ⟨_, rfl, a, _, _, rfl, g1, z1, a, n, ws, r, rfl, L1, rdDueName_at hu, fun H' s' L' => ?_⟩
      exact ⟨_, rfl, q _ (by unfold rdKnown; rw [hu]; dsimp only; rw [if_pos hc, if_neg hl]) H' ((SameX.of s1).trans s') L'⟩
  · refine iteT' (by rw [inV_str, decide_eq_false hc]; rfl) ?_
    (obtain ⟨_, _, g1, z1⟩ := LnX.no L1 (m := "refuse") (by decide +kernel) (by decide +kernel) (by decide +kernel) (by decide +kernel); exact ⟨_, rfl, a, _, _, rfl, g1, z1, a, n, ws, r, _, rfl, L1, by decide +kernel, ((qe _ (by unfold rdKnown; rw [hu]; dsimp only; rw [if_neg hc])).on (SameX.of s1)).same⟩)
end
end DP
namespace DP
open PySem PySem.Spec PyProof.Rows L2
def rdLight (ws : List Str) (h : Int) : Nat → Nat → Int → Rd Unit
  | 0, _, _ => .ok ()
  | k + 1, r, least => if r < ws.length then (match rdNum ws r least (h - 1) with
    | .error e => .error e
    | .ok f => match rdNum ws (r + 1) (f + 1) h with
      | .error e => .error e
      | .ok g => rdLight ws h k (r + 2) g) else .ok ()
theorem rdNum_at {ws : List Str} {r : Nat} {lo hi m : Int} (h : rdNum ws r lo hi = .ok m) : r < ws.length ∧ lo ≤ m ∧ m ≤ hi := by
  unfold rdNum at h
  split at h
  · cases h
  · rename_i u e
    split at h
    · split at h
      · cases h
      · rename_i c
        cases h
        exact ⟨(List.getElem?_eq_some_iff.mp (rdDue_ok e).1).1, by omega, by omega⟩
    · cases h
/-- a reader's steps -/
def seq2 {α β : Type} (x : Rd α) (f : α → Rd β) : Rd β := match x with
  | .error e => .error e
  | .ok a => f a
def rdSat (ws : List Str) (h : Int) (used : List Str) : Rd Str :=
  seq2 (rdNew ws 1 used) fun nm => seq2 (rdField ws 2 "store" 0 1000000) fun _ => seq2 (rdField ws 4 "battery" 0 1000000) fun b => seq2 (rdField ws 6 "level" 0 b) fun l => seq2 (rdField ws 8 "reserve" 0 l) fun _ => seq2 (rdField ws 10 "charge" 0 1000) fun _ =>
  seq2 (rdField ws 12 "settle" 0 60) fun _ => seq2 (rdChoice ws 14 ["light"]) fun _ => seq2 (rdLight ws h ws.length 15 0) fun _ => .ok nm
def rdSta (ws : List Str) (used : List Str) : Rd Str :=
  seq2 (rdNew ws 1 used) fun nm => seq2 (rdField ws 2 "antennas" 1 3) fun _ => seq2 (rdField ws 4 "turn" 0 60) fun _ => .ok nm
def rdRec (ws : List Str) (h : Int) (sats used : List Str) : Rd Str :=
  seq2 (rdNew ws 1 used) fun nm => seq2 (rdChoice ws 2 ["by"]) fun _ => seq2 (rdKnown ws 3 sats 0) fun _ => seq2 (rdField ws 4 "from" 0 (h - 1)) fun e => seq2 (rdField ws 6 "to" e (if h - 1 < e + 20 then h - 1 else e + 20)) fun l => seq2 (rdField ws 8 "length" 1 (h - l)) fun _ =>
  seq2 (rdField ws 10 "size" 0 1000000) fun _ => seq2 (rdField ws 12 "energy" 0 1000000) fun _ => seq2 (rdField ws 14 "worth" 1 1000) fun _ => seq2 (rdField ws 16 "rank" 1 3) fun _ => seq2 (rdField ws 18 "until" 0 h) fun _ => .ok nm
def rdPas (ws : List Str) (h : Int) (sats stas used : List Str) : Rd Str :=
  seq2 (rdNew ws 1 used) fun nm => seq2 (rdChoice ws 2 ["by"]) fun _ => seq2 (rdKnown ws 3 sats 0) fun _ => seq2 (rdChoice ws 4 ["over"]) fun _ => seq2 (rdKnown ws 5 stas 0) fun _ => seq2 (rdField ws 6 "from" 0 (h - 1)) fun f => seq2 (rdField ws 8 "to" (f + 1) h) fun _ =>
  seq2 (rdField ws 10 "room" 0 1000000) fun _ => seq2 (rdField ws 12 "energy" 0 1000000) fun _ => seq2 (rdField ws 14 "fee" 0 1000) fun _ => .ok nm
theorem seq2_err {α β : Type} {x : Rd α} {f : α → Rd β} {e : Er} (h : x = .error e) : seq2 x f = .error e := by rw [h]; rfl
theorem seq2_ok {α β : Type} {x : Rd α} {f : α → Rd β} {a : α} (h : x = .ok a) : seq2 x f = f a := by rw [h]; rfl
section
variable {P : Program} {w : World} {K : PySem.W.Frag} {mg : Str → Option Value} {base : Heap} {CL CS CT CR CP CW aS aR fS fT fR fP CF : Addr}
def spLightX (K : PySem.W.Frag) (CL CF : Addr) : Sp := fun vs H Q E => ∃ (a : Addr) (n : Int) (ws : List Str) (r : Nat) (h : Int), vs = [.ref a, .int h] ∧ LnX CL H a n ws r ∧ h ≤ 500 ∧ (∀ e, rdLight ws h ws.length r 0 = .error e → FltX CF E a H n ws e) ∧
  (rdLight ws h ws.length r 0 = .ok () → ∀ t H', SameX a H H' → LnX CL H' a n ws ws.length → Q (.ref t) H')
set_option maxHeartbeats 8000000 in
theorem d_read_lightX (T : TxtW K mg CL CS CT CR CP CW aS aR fS fT fR fP) (D_Line_has_more : MDef P w K mg base (L2.CX P w) 1 CL "has_more" ["self"] [] (spHasMoreX CL)) (D_Line_read_number : MDef P w K mg base (L2.CX P w) 5 CL "read_number" ["self", "least", "most"] [] (spNumberX CL CF))
    (A : At K mg "read_light" s_read_light ["line", "horizon"]) : DefOk P w K mg base (L2.CX P w) 6 "read_light" ["line", "horizon"] (spLightX K CL CF) := by
  have TW := T
  have T := T.L
  have B := T.B
  refine A.okX sc_read_light (fun vs H Q E h => ?_) (fun f cdv A outer s H vs Q E hr h => ?_)
  · obtain ⟨a, n, ws, r, h, rfl, _⟩ := h
    rfl
  obtain ⟨a, n, ws, r, h, rfl, hL, hh, qe, q⟩ := h
  refine ⟨_, pss_cons (ps_set (i := 2) sc_read_light.nd rfl (Or.inl rfl) (pe_lst pa_nil))
  (pss_cons (ps_set (i := 3) sc_read_light.nd rfl (Or.inl rfl) pe_int)
  (pss_cons (ps_while (passes_of rfl) (pt_val (pe_m0 D_Line_has_more T.c_Line.cl (hr.mono (by omega)) (passOut rfl rfl rfl rfl) (pv 0)))
      (pss_cons (ps_set (i := 4) sc_read_light.nd rfl (Or.inl rfl) (pe_m D_Line_read_number T.c_Line.cl (hr.mono (by omega)) (passOut rfl rfl rfl rfl) (pv 0) (pa_cons (pv 3) (pa_cons (pe_op op_sub (pv 1) pe_int) pa_nil))))
      (pss_cons (ps_set (i := 3) sc_read_light.nd rfl (Or.inl rfl) (pe_m D_Line_read_number T.c_Line.cl (hr.mono (by omega)) (passOut rfl rfl rfl rfl) (pv 0) (pa_cons (pe_op op_add (pv 4) pe_int) (pa_cons (pv 1) pa_nil))))
      (pss_one (ps_expr (pe_bm PySem.F.plainAttrs_list PySem.F.slot_list_append PySem.F.type_list_append mt_append (pv 2) (pa_cons (pe_tup (pa_cons (pv 4) (pa_cons (pv 3) pa_nil))) pa_nil)))))))
  (pss_one (ps_ret (pe_callTy (call_tuple_of) (by rfl) B.tuple (by decide +kernel) (pa_cons (pv 2) pa_nil))))))
    , ?_⟩
  refine ⟨Nat.zero_le _, fun L hLn => ?_⟩
  have eaL : a ≠ L := by
    obtain ⟨dx, wl, h1, h2⟩ := hL.ex
    exact ne_of_none h1 hLn
  refine ⟨fun k σ H' => ∃ (ls : List V) (r' : Nat) (le : Int) (y4 : Option V), r' ≤ ws.length ∧ ws.length ≤ r' + k ∧ 0 ≤ le ∧ rdLight ws h ws.length r 0 = rdLight ws h k r' le ∧ ls.length ≤ r' ∧
    σ = [some (.ref a), some (.int h), some (.ref L), some (.int le), y4] ∧ H' L = some (.lst ls) ∧ (∀ y ∈ ls, ∃ t, y = V.ref t) ∧ LnX CL H' a n ws r' ∧ SameX a H H', ⟨ws.length, [], r, 0, none, hL.le, by omega, Int.le_refl 0, rfl, Nat.zero_le _, rfl, upd_same, (fun y hy => absurd hy List.not_mem_nil), hL.same (same_new hLn _), SameX.of (same_new hLn _)⟩, fun k σ H' hI => ?_⟩
  obtain ⟨ls, r', le, y4, hr1, hk, hle, heq, hll, rfl, hLL, hrf, hLk, hsx⟩ := hI
  obtain ⟨_, _, g1, g2⟩ := LnX.no hLk (m := "has_more") (by decide +kernel) (by decide +kernel) (by decide +kernel) (by decide +kernel)
  refine ⟨_, rfl, a, _, _, rfl, g1, g2, a, n, ws, r', rfl, hLk, _, rfl, ?_⟩
  by_cases hc : r' < ws.length
  · obtain ⟨k', rfl⟩ : ∃ k', k = k' + 1 := ⟨k - 1, by omega⟩
    have step : rdLight ws h (k' + 1) r' le = (match rdNum ws r' le (h - 1) with | .error e => .error e | .ok f => match rdNum ws (r' + 1) (f + 1) h with | .error e => .error e | .ok g => rdLight ws h k' (r' + 2) g) := by
      show (if r' < ws.length then _ else _) = _
      rw [if_pos hc]
    refine iteT' (decide_eq_true hc) ?_
    refine ⟨fun σ' H'' => ∃ m, m < k' + 1 ∧ ∃ (ls : List V) (r' : Nat) (le : Int) (y4 : Option V), r' ≤ ws.length ∧ ws.length ≤ r' + m ∧ 0 ≤ le ∧ rdLight ws h ws.length r 0 = rdLight ws h m r' le ∧ ls.length ≤ r' ∧
      σ' = [some (.ref a), some (.int h), some (.ref L), some (.int le), y4] ∧ H'' L = some (.lst ls) ∧ (∀ y ∈ ls, ∃ t, y = V.ref t) ∧ LnX CL H'' a n ws r' ∧ SameX a H H'', fun σ' H'' z => z, ?_⟩
    obtain ⟨_, _, g3, g4⟩ := LnX.no hLk (m := "read_number") (by decide +kernel) (by decide +kernel) (by decide +kernel) (by decide +kernel)
    refine ⟨_, rfl, a, _, _, rfl, g3, g4, _, rfl, _, rfl, _, _, rfl, rfl, a, n, ws, r', le, h - 1, rfl, hLk, fun e he => (qe e (by rw [heq, step, he])).on hsx, fun f1 hf1 H1 s1 L1 => ?_⟩
    obtain ⟨b1, b2, b3⟩ := rdNum_at hf1
    obtain ⟨_, _, g5, g6⟩ := LnX.no L1 (m := "read_number") (by decide +kernel) (by decide +kernel) (by decide +kernel) (by decide +kernel)
    refine ⟨_, rfl, a, _, _, rfl, g5, g6, _, rfl, _, _, rfl, rfl, _, rfl, a, n, ws, r' + 1, f1 + 1, h, rfl, L1, fun e he => (qe e (by rw [heq, step, hf1]; dsimp only; rw [he])).on (hsx.trans s1), fun f2 hf2 H2 s2 L2 => ?_⟩
    obtain ⟨c1, c2, c3⟩ := rdNum_at hf2
    have hL2 : H2 L = some (.lst ls) := s2 _ _ eaL.symm (s1 _ _ eaL.symm hLL)
    refine ⟨_, rfl, .inl ⟨rfl, _, SqL.of hL2⟩, _, rfl, _, rfl, (by show 2 ≤ sizeLine; decide), fun t ht => ?_⟩
    have eLt : L ≠ t := ne_of_none hL2 ht
    have hLt : (upd H2 t (.tup [.int f1, .int f2])) L = some (.lst ls) := by rw [upd_ne eLt]; exact hL2
    have hsz := L2.sz
    refine ⟨L, ls, .ref t, rfl, rfl, hLt, by rw [sizeLine_eq]; omega, ?_⟩
    refine ⟨k', by omega, ls ++ [.ref t], r' + 2, f2, _, by omega, by omega, by omega, by rw [heq, step, hf1]; dsimp only; rw [hf2], by rw [List.length_append, List.length_singleton]; omega, rfl, upd_same, fun y hy => ?_, ?_, ?_⟩
    · rcases List.mem_append.mp hy with hy | hy
      · exact hrf y hy
      · exact ⟨t, List.mem_singleton.mp hy⟩
    · have L2t := L2.same (same_new ht (.tup [.int f1, .int f2]))
      obtain ⟨dx3, wl3, z1, z2⟩ := L2t.ex
      refine ⟨⟨dx3, wl3, by rw [upd_ne eaL]; exact z1, ?_⟩, L2t.n0, L2t.n1, L2t.le, L2t.wl, L2t.sz⟩
      rw [upd_ne]
      · exact z2
      · intro z
        rw [z, hLt] at z2
        have e : ls = ws.map V.str := HO.lst.inj (Option.some.inj z2)
        cases ws with
        | nil => exact absurd c1 (Nat.not_lt_zero _)
        | cons w wr =>
          obtain ⟨t', ht'⟩ := hrf (.str w) (by rw [e]; exact List.mem_cons_self)
          cases ht'
    · exact SameX.new hLn (((hsx.trans s1).trans s2).trans (SameX.of (same_new ht _)))
  · have fin : rdLight ws h k r' le = .ok () := by
      cases k with
      | zero => rfl
      | succ k =>
        show (if r' < ws.length then _ else _) = _
        rw [if_neg hc]
    refine iteF' (decide_eq_false hc) ?_
    refine ⟨_, rfl, L, _, rfl, .inl ⟨SqL.of hLL, fun t ht => ?_⟩⟩
    refine q (by rw [heq, fin]) t _ (SameX.trans hsx (SameX.of (same_new ht _))) ?_
    rw [show ws.length = r' by omega]
    exact hLk.same (same_new ht _)
end
end DP
namespace DP
open PySem PySem.Spec PyProof.Rows L2
section
variable {P : Program} {w : World} {K : PySem.W.Frag} {mg : Str → Option Value} {base : Heap} {CL CS CT CR CP CW aS aR fS fT fR fP CF : Addr}
def spRdSatX (K : PySem.W.Frag) (CL CF : Addr) : Sp := fun vs H Q E => ∃ (a : Addr) (n : Int) (ws : List Str) (h : Int) (th : Addr) (ns : List Str), vs = [.ref a, .int h, .ref th] ∧ LnX CL H a n ws 1 ∧ NamesAt K H th 0 ns ∧ h ≤ 500 ∧ (∀ e, rdSat ws h ns = .error e → FltX CF E a H n ws e) ∧
  ∀ nm, rdSat ws h ns = .ok nm → ∀ b H', H b = none → SameX a H H' → LnX CL H' a n ws ws.length → Named K H' (.ref b) nm → Q (.ref b) H'
theorem LnX.there {H : Hp} {a : Addr} {n : Int} {ws : List Str} {r : Nat} (h : LnX CL H a n ws r) : ∃ o, H a = some o := by
  obtain ⟨dx, wl, h1, h2⟩ := h.ex
  exact ⟨_, h1⟩
set_option maxHeartbeats 8000000 in
theorem d_read_satelliteX (T : TxtW K mg CL CS CT CR CP CW aS aR fS fT fR fP) (D_names_of : DefOk P w K mg base (L2.CX P w) 1 "names_of" ["things"] (spNames K)) (D_Line_read_new_name : MDef P w K mg base (L2.CX P w) 6 CL "read_new_name" ["self", "used"] [] (spNewNameX K CL CF))
    (D_Line_read_field : MDef P w K mg base (L2.CX P w) 6 CL "read_field" ["self", "word", "least", "most"] [] (spFieldX CL CF)) (D_Line_read_choice : MDef P w K mg base (L2.CX P w) 5 CL "read_choice" ["self", "choices"] [] (spChoiceX K CL CF))
    (D_read_light : DefOk P w K mg base (L2.CX P w) 6 "read_light" ["line", "horizon"] (spLightX K CL CF)) (DI_Satellite : MDef P w K mg base (L2.CX P w) 1 CS "__init__" ["self", "name", "store", "battery", "start_level", "reserve", "charge", "settle", "light"] [] (spI_Satellite CS))
    (A : At K mg "read_satellite" s_read_satellite ["line", "horizon", "things"]) : DefOk P w K mg base (L2.CX P w) 7 "read_satellite" ["line", "horizon", "things"] (spRdSatX K CL CF) := by
  have B := T.L.B
  refine A.okX sc_read_satellite (fun vs H Q E h => ?_) (fun f cdv A outer s H vs Q E hr h => ?_)
  · obtain ⟨a, n, ws, h, th, ns, rfl, _⟩ := h
    rfl
  obtain ⟨a, n, ws, h, th, ns, rfl, hL, hN, hh5, qe, q⟩ := h
  refine ⟨_, pss_cons (ps_set (i := 3) sc_read_satellite.nd rfl (Or.inl rfl) (pe_m D_Line_read_new_name T.c_Line.cl (hr.mono (by omega)) (passOut rfl rfl rfl rfl) (pv 0) (pa_cons (pe_f D_names_of (hr.mono (by omega)) (passOut rfl rfl rfl rfl) (pa_cons (pe_ix ix_tup (pv 2) (pe_gi T.g_SATELLITES) (fun _ _ => rfl)) pa_nil)) pa_nil)))
  (pss_cons (ps_set (i := 4) sc_read_satellite.nd rfl (Or.inl rfl) (pe_m D_Line_read_field T.c_Line.cl (hr.mono (by omega)) (passOut rfl rfl rfl rfl) (pv 0) (pa_cons pe_str (pa_cons pe_int (pa_cons (pe_gi T.g_MOST_UNITS) pa_nil)))))
  (pss_cons (ps_set (i := 5) sc_read_satellite.nd rfl (Or.inl rfl) (pe_m D_Line_read_field T.c_Line.cl (hr.mono (by omega)) (passOut rfl rfl rfl rfl) (pv 0) (pa_cons pe_str (pa_cons pe_int (pa_cons (pe_gi T.g_MOST_UNITS) pa_nil)))))
  (pss_cons (ps_set (i := 6) sc_read_satellite.nd rfl (Or.inl rfl) (pe_m D_Line_read_field T.c_Line.cl (hr.mono (by omega)) (passOut rfl rfl rfl rfl) (pv 0) (pa_cons pe_str (pa_cons pe_int (pa_cons (pv 5) pa_nil)))))
  (pss_cons (ps_set (i := 7) sc_read_satellite.nd rfl (Or.inl rfl) (pe_m D_Line_read_field T.c_Line.cl (hr.mono (by omega)) (passOut rfl rfl rfl rfl) (pv 0) (pa_cons pe_str (pa_cons pe_int (pa_cons (pv 6) pa_nil)))))
  (pss_cons (ps_set (i := 8) sc_read_satellite.nd rfl (Or.inl rfl) (pe_m D_Line_read_field T.c_Line.cl (hr.mono (by omega)) (passOut rfl rfl rfl rfl) (pv 0) (pa_cons pe_str (pa_cons pe_int (pa_cons (pe_gi T.g_MOST_CHARGE) pa_nil)))))
  (pss_cons (ps_set (i := 9) sc_read_satellite.nd rfl (Or.inl rfl) (pe_m D_Line_read_field T.c_Line.cl (hr.mono (by omega)) (passOut rfl rfl rfl rfl) (pv 0) (pa_cons pe_str (pa_cons pe_int (pa_cons (pe_gi T.g_MOST_DELAY) pa_nil)))))
  (pss_cons (ps_expr (pe_m D_Line_read_choice T.c_Line.cl (hr.mono (by omega)) (passOut rfl rfl rfl rfl) (pv 0) (pa_cons (pe_tup (pa_cons pe_str pa_nil)) pa_nil)))
  (pss_cons (ps_set (i := 10) sc_read_satellite.nd rfl (Or.inl rfl) (pe_f D_read_light (hr.mono (by omega)) (passOut rfl rfl rfl rfl) (pa_cons (pv 0) (pa_cons (pv 1) pa_nil))))
  (pss_one (ps_ret (pe_mk DI_Satellite T.c_Satellite (hr.mono (by omega)) (passOut rfl rfl rfl rfl) (pa_cons (pv 3) (pa_cons (pv 4) (pa_cons (pv 5) (pa_cons (pv 6) (pa_cons (pv 7) (pa_cons (pv 8) (pa_cons (pv 9) (pa_cons (pv 10) pa_nil)))))))))))))))))))
    , ?_⟩
  have E0 : rdSat ws h ns = seq2 (rdNew ws 1 ns) _ := rfl
  (obtain ⟨ls, l, xs, t1, t2, t3, t4, t5⟩ := hN; obtain ⟨_, _, g0, z0⟩ := LnX.no hL (m := "read_new_name") (by decide +kernel) (by decide +kernel) (by decide +kernel) (by decide +kernel); refine ⟨_, rfl, a, _, _, rfl, g0, z0, _, rfl, th, _, _, .ref l, rfl, rfl, t1, atI_nat (j := 0) (by rw [List.getElem?_map, t2]; rfl), l, xs, ns, rfl, t3, t4, t5, fun p H1 s1 np hp => ?_⟩; refine ⟨a, n, ws, 1, p, ns, rfl, hL.same s1, SqL.of hp, fun e he => (qe e (E0.trans (seq2_err he))).on (SameX.of s1), fun nm hnm H2 s2 L2 => ?_⟩; have E2 := E0.trans (seq2_ok hnm); have S2 := (SameX.of s1).trans s2)
  (obtain ⟨_, _, gg, zz⟩ := LnX.no L2 (m := "read_field") (by decide +kernel) (by decide +kernel) (by decide +kernel) (by decide +kernel); refine ⟨_, rfl, a, _, _, rfl, gg, zz, a, n, ws, 2, _, _, _, rfl, L2, fun e he => (qe e (E2.trans (seq2_err he))).on S2, fun m3 hm H3 ss L3 => ?_⟩; have E3 := E2.trans (seq2_ok hm); have S3 := SameX.trans S2 ss)
  (obtain ⟨_, _, gg, zz⟩ := LnX.no L3 (m := "read_field") (by decide +kernel) (by decide +kernel) (by decide +kernel) (by decide +kernel); refine ⟨_, rfl, a, _, _, rfl, gg, zz, a, n, ws, 4, _, _, _, rfl, L3, fun e he => (qe e (E3.trans (seq2_err he))).on S3, fun m4 hm H4 ss L4 => ?_⟩; have E4 := E3.trans (seq2_ok hm); have S4 := SameX.trans S3 ss)
  (obtain ⟨_, _, gg, zz⟩ := LnX.no L4 (m := "read_field") (by decide +kernel) (by decide +kernel) (by decide +kernel) (by decide +kernel); refine ⟨_, rfl, a, _, _, rfl, gg, zz, _, rfl, a, n, ws, 6, _, _, _, rfl, L4, fun e he => (qe e (E4.trans (seq2_err he))).on S4, fun m5 hm H5 ss L5 => ?_⟩; have E5 := E4.trans (seq2_ok hm); have S5 := SameX.trans S4 ss)
  (obtain ⟨_, _, gg, zz⟩ := LnX.no L5 (m := "read_field") (by decide +kernel) (by decide +kernel) (by decide +kernel) (by decide +kernel); refine ⟨_, rfl, a, _, _, rfl, gg, zz, _, rfl, a, n, ws, 8, _, _, _, rfl, L5, fun e he => (qe e (E5.trans (seq2_err he))).on S5, fun m6 hm H6 ss L6 => ?_⟩; have E6 := E5.trans (seq2_ok hm); have S6 := SameX.trans S5 ss)
  (obtain ⟨_, _, gg, zz⟩ := LnX.no L6 (m := "read_field") (by decide +kernel) (by decide +kernel) (by decide +kernel) (by decide +kernel); refine ⟨_, rfl, a, _, _, rfl, gg, zz, a, n, ws, 10, _, _, _, rfl, L6, fun e he => (qe e (E6.trans (seq2_err he))).on S6, fun m7 hm H7 ss L7 => ?_⟩; have E7 := E6.trans (seq2_ok hm); have S7 := SameX.trans S6 ss)
  (obtain ⟨_, _, gg, zz⟩ := LnX.no L7 (m := "read_field") (by decide +kernel) (by decide +kernel) (by decide +kernel) (by decide +kernel); refine ⟨_, rfl, a, _, _, rfl, gg, zz, a, n, ws, 12, _, _, _, rfl, L7, fun e he => (qe e (E7.trans (seq2_err he))).on S7, fun m8 hm H8 ss L8 => ?_⟩; have E8 := E7.trans (seq2_ok hm); have S8 := SameX.trans S7 ss)
  (obtain ⟨_, _, gg, zz⟩ := LnX.no L8 (m := "read_choice") (by decide +kernel) (by decide +kernel) (by decide +kernel) (by decide +kernel); refine ⟨_, rfl, a, _, _, rfl, gg, zz, (by show 1 ≤ sizeLine; decide), fun tt htt => ?_⟩; refine ⟨a, n, ws, 14, tt, [Str.ofString "light"], rfl, LnX.same L8 (same_new htt _), SqT.of upd_same, fun e he => (qe e (E8.trans (seq2_err he))).on (SameX.trans S8 (SameX.of (same_new htt _))), fun uu hm H9 ss L9 => ?_⟩; have E9 := E8.trans (seq2_ok hm); have S9 := (SameX.trans S8 (SameX.of (same_new htt _))).trans ss)
  refine ⟨_, rfl, _, rfl, a, n, ws, 15, h, rfl, L9, hh5, fun e he => (qe e (E9.trans (seq2_err he))).on S9, fun hli t H10 s10 L10 => ?_⟩
  have E10 := E9.trans (seq2_ok hli)
  have S10 := S9.trans s10
  refine ⟨_, rfl, _, rfl, _, rfl, _, rfl, _, rfl, _, rfl, _, rfl, _, rfl, fun x dx hx hdx ne => ?_⟩
  refine ⟨x, dx, _, _, _, _, _, _, _, _, rfl, upd_same, rfl, ?_⟩
  have sB : ∀ {fs : List (Str × V)}, Same H10 (upd (upd (upd H10 dx (.own x)) x (.ins CS dx [])) x (.ins CS dx fs)) := same_made hx hdx
  obtain ⟨o, ho⟩ := L10.there
  exact q nm E10 x _ (S10.free ho hx) (S10.trans (SameX.of sB)) (L10.same sB) ⟨x, CS, dx, _, rfl, upd_same, T.c_Satellite.cl, T.n_Satellite_name, lk_hit⟩
def spRdStaX (K : PySem.W.Frag) (CL CF : Addr) : Sp := fun vs H Q E => ∃ (a : Addr) (n : Int) (ws : List Str) (h : Int) (th : Addr) (ns : List Str), vs = [.ref a, .int h, .ref th] ∧ LnX CL H a n ws 1 ∧ NamesAt K H th 1 ns ∧ (∀ e, rdSta ws ns = .error e → FltX CF E a H n ws e) ∧
  ∀ nm, rdSta ws ns = .ok nm → ∀ b H', H b = none → SameX a H H' → LnX CL H' a n ws 6 → Named K H' (.ref b) nm → Q (.ref b) H'
theorem d_read_stationX (T : TxtW K mg CL CS CT CR CP CW aS aR fS fT fR fP) (D_names_of : DefOk P w K mg base (L2.CX P w) 1 "names_of" ["things"] (spNames K)) (D_Line_read_new_name : MDef P w K mg base (L2.CX P w) 6 CL "read_new_name" ["self", "used"] [] (spNewNameX K CL CF))
    (D_Line_read_field : MDef P w K mg base (L2.CX P w) 6 CL "read_field" ["self", "word", "least", "most"] [] (spFieldX CL CF)) (DI_Station : MDef P w K mg base (L2.CX P w) 1 CT "__init__" ["self", "name", "antennas", "turn"] [] (spI_Station CT))
    (A : At K mg "read_station" s_read_station ["line", "_", "things"]) : DefOk P w K mg base (L2.CX P w) 7 "read_station" ["line", "_", "things"] (spRdStaX K CL CF) := by
  have B := T.L.B
  refine A.okX sc_read_station (fun vs H Q E h => ?_) (fun f cdv A outer s H vs Q E hr h => ?_)
  · obtain ⟨a, n, ws, h, th, ns, rfl, _⟩ := h
    rfl
  obtain ⟨a, n, ws, h, th, ns, rfl, hL, hN, qe, q⟩ := h
  refine ⟨_, pss_cons (ps_set (i := 3) sc_read_station.nd rfl (Or.inl rfl) (pe_m D_Line_read_new_name T.c_Line.cl (hr.mono (by omega)) (passOut rfl rfl rfl rfl) (pv 0) (pa_cons (pe_f D_names_of (hr.mono (by omega)) (passOut rfl rfl rfl rfl) (pa_cons (pe_ix ix_tup (pv 2) (pe_gi T.g_STATIONS) (fun _ _ => rfl)) pa_nil)) pa_nil)))
  (pss_cons (ps_set (i := 4) sc_read_station.nd rfl (Or.inl rfl) (pe_m D_Line_read_field T.c_Line.cl (hr.mono (by omega)) (passOut rfl rfl rfl rfl) (pv 0) (pa_cons pe_str (pa_cons pe_int (pa_cons (pe_gi T.g_MOST_ANTENNAS) pa_nil)))))
  (pss_cons (ps_set (i := 5) sc_read_station.nd rfl (Or.inl rfl) (pe_m D_Line_read_field T.c_Line.cl (hr.mono (by omega)) (passOut rfl rfl rfl rfl) (pv 0) (pa_cons pe_str (pa_cons pe_int (pa_cons (pe_gi T.g_MOST_DELAY) pa_nil)))))
  (pss_one (ps_ret (pe_mk DI_Station T.c_Station (hr.mono (by omega)) (passOut rfl rfl rfl rfl) (pa_cons (pv 3) (pa_cons (pv 4) (pa_cons (pv 5) pa_nil))))))))
    , ?_⟩
  have E0 : rdSta ws ns = seq2 (rdNew ws 1 ns) _ := rfl
  (obtain ⟨ls, l, xs, t1, t2, t3, t4, t5⟩ := hN; obtain ⟨_, _, g0, z0⟩ := LnX.no hL (m := "read_new_name") (by decide +kernel) (by decide +kernel) (by decide +kernel) (by decide +kernel); refine ⟨_, rfl, a, _, _, rfl, g0, z0, _, rfl, th, _, _, .ref l, rfl, rfl, t1, atI_nat (j := 1) (by rw [List.getElem?_map, t2]; rfl), l, xs, ns, rfl, t3, t4, t5, fun p H1 s1 np hp => ?_⟩; refine ⟨a, n, ws, 1, p, ns, rfl, hL.same s1, SqL.of hp, fun e he => (qe e (E0.trans (seq2_err he))).on (SameX.of s1), fun nm hnm H2 s2 L2 => ?_⟩; have E2 := E0.trans (seq2_ok hnm); have S2 := (SameX.of s1).trans s2)
  (obtain ⟨_, _, gg, zz⟩ := LnX.no L2 (m := "read_field") (by decide +kernel) (by decide +kernel) (by decide +kernel) (by decide +kernel); refine ⟨_, rfl, a, _, _, rfl, gg, zz, a, n, ws, 2, _, _, _, rfl, L2, fun e he => (qe e (E2.trans (seq2_err he))).on S2, fun m3 hm H3 ss L3 => ?_⟩; have E3 := E2.trans (seq2_ok hm); have S3 := SameX.trans S2 ss)
  (obtain ⟨_, _, gg, zz⟩ := LnX.no L3 (m := "read_field") (by decide +kernel) (by decide +kernel) (by decide +kernel) (by decide +kernel); refine ⟨_, rfl, a, _, _, rfl, gg, zz, a, n, ws, 4, _, _, _, rfl, L3, fun e he => (qe e (E3.trans (seq2_err he))).on S3, fun m4 hm H10 ss L10 => ?_⟩; have E10 := E3.trans (seq2_ok hm); have S10 := SameX.trans S3 ss)
  refine ⟨_, rfl, _, rfl, _, rfl, fun x dx hx hdx ne => ?_⟩
  refine ⟨x, dx, _, _, _, rfl, upd_same, rfl, ?_⟩
  have sB : ∀ {fs : List (Str × V)}, Same H10 (upd (upd (upd H10 dx (.own x)) x (.ins CT dx [])) x (.ins CT dx fs)) := same_made hx hdx
  obtain ⟨o, ho⟩ := L10.there
  exact q nm E10 x _ (S10.free ho hx) (S10.trans (SameX.of sB)) (L10.same sB) ⟨x, CT, dx, _, rfl, upd_same, T.c_Station.cl, T.n_Station_name, lk_hit⟩
theorem NamesAt.sxX {H H' : Hp} {a : Addr} {n : Int} {ws : List Str} {r : Nat} {th : Addr} {i : Nat} {ns : List Str} (h : NamesAt K H th i ns) (hL : LnX CL H a n ws r) (s : SameX a H H') : NamesAt K H' th i ns := by
  obtain ⟨ls, l, xs, h1, h2, h3, h4, h5⟩ := h
  obtain ⟨dx, wl, g1, g2⟩ := hL.ex
  exact ⟨ls, l, xs, s.sqT g1 h1, h2, s.sqL g1 h3, Paired.mapP h4 fun _ _ z => z.elim fun b ⟨D, dy, gs, e1, e2, e3, e4, e5⟩ => ⟨b, D, dy, gs, e1, s _ _ (fun z => by
    rw [z, g1] at e2
    injection e2 with e2
    injection e2 with z1 z2 z3
    rw [← z3, lnF_no (by decide +kernel) (by decide +kernel) (by decide +kernel) (by decide +kernel)] at e5
    cases e5) e2, e3, e4, e5⟩, h5⟩
def spRdRecX (K : PySem.W.Frag) (CL CF : Addr) : Sp := fun vs H Q E => ∃ (a : Addr) (n : Int) (ws : List Str) (h : Int) (th : Addr) (sats ns : List Str), vs = [.ref a, .int h, .ref th] ∧ LnX CL H a n ws 1 ∧ NamesAt K H th 2 ns ∧ NamesAt K H th 0 sats ∧ (∀ e, rdRec ws h sats ns = .error e → FltX CF E a H n ws e) ∧
  ∀ nm, rdRec ws h sats ns = .ok nm → ∀ b H', H b = none → SameX a H H' → LnX CL H' a n ws 20 → Named K H' (.ref b) nm → Q (.ref b) H'
set_option maxHeartbeats 16000000 in
theorem d_read_recordingX (T : TxtW K mg CL CS CT CR CP CW aS aR fS fT fR fP) (D_names_of : DefOk P w K mg base (L2.CX P w) 1 "names_of" ["things"] (spNames K)) (D_Line_read_new_name : MDef P w K mg base (L2.CX P w) 6 CL "read_new_name" ["self", "used"] [] (spNewNameX K CL CF))
    (D_Line_read_field : MDef P w K mg base (L2.CX P w) 6 CL "read_field" ["self", "word", "least", "most"] [] (spFieldX CL CF)) (D_Line_read_choice : MDef P w K mg base (L2.CX P w) 5 CL "read_choice" ["self", "choices"] [] (spChoiceX K CL CF))
    (D_Line_read_known_name : MDef P w K mg base (L2.CX P w) 6 CL "read_known_name" ["self", "names", "least"] [.int 0] (spKnownNameX K CL CF))
    (DI_Recording : MDef P w K mg base (L2.CX P w) 1 CR "__init__" ["self", "name", "satellite", "earliest", "latest", "length", "size", "energy", "worth", "rank", "deadline"] [] (spI_Recording CR))
    (A : At K mg "read_recording" s_read_recording ["line", "horizon", "things"]) : DefOk P w K mg base (L2.CX P w) 7 "read_recording" ["line", "horizon", "things"] (spRdRecX K CL CF) := by
  have B := T.L.B
  refine A.okX sc_read_recording (fun vs H Q E h => ?_) (fun f cdv A outer s H vs Q E hr h => ?_)
  · obtain ⟨a, n, ws, h, th, sats, ns, rfl, _⟩ := h
    rfl
  obtain ⟨a, n, ws, h, th, sats, ns, rfl, hL, hN, hS, qe, q⟩ := h
  refine ⟨_, pss_cons (ps_set (i := 3) sc_read_recording.nd rfl (Or.inl rfl) (pe_m D_Line_read_new_name T.c_Line.cl (hr.mono (by omega)) (passOut rfl rfl rfl rfl) (pv 0) (pa_cons (pe_f D_names_of (hr.mono (by omega)) (passOut rfl rfl rfl rfl) (pa_cons (pe_ix ix_tup (pv 2) (pe_gi T.g_RECORDINGS) (fun _ _ => rfl)) pa_nil)) pa_nil)))
  (pss_cons (ps_expr (pe_m D_Line_read_choice T.c_Line.cl (hr.mono (by omega)) (passOut rfl rfl rfl rfl) (pv 0) (pa_cons (pe_tup (pa_cons pe_str pa_nil)) pa_nil)))
  (pss_cons (ps_set (i := 4) sc_read_recording.nd rfl (Or.inl rfl) (pe_m D_Line_read_known_name T.c_Line.cl (hr.mono (by omega)) (passOut rfl rfl rfl rfl) (pv 0) (pa_cons (pe_f D_names_of (hr.mono (by omega)) (passOut rfl rfl rfl rfl) (pa_cons (pe_ix ix_tup (pv 2) (pe_gi T.g_SATELLITES) (fun _ _ => rfl)) pa_nil)) pa_nil)))
  (pss_cons (ps_set (i := 5) sc_read_recording.nd rfl (Or.inl rfl) (pe_m D_Line_read_field T.c_Line.cl (hr.mono (by omega)) (passOut rfl rfl rfl rfl) (pv 0) (pa_cons pe_str (pa_cons pe_int (pa_cons (pe_op op_sub (pv 1) pe_int) pa_nil)))))
  (pss_cons (ps_set (i := 6) sc_read_recording.nd rfl (Or.inl rfl) (pe_m D_Line_read_field T.c_Line.cl (hr.mono (by omega)) (passOut rfl rfl rfl rfl) (pv 0) (pa_cons pe_str (pa_cons (pv 5) (pa_cons (pe_callB (call_min2 rfl) (by rfl) B.min (by decide +kernel) (pa_cons (pe_op op_add (pv 5) (ClX.pe_cval (pe_ga T.c_World.gC) rfl)) (pa_cons (pe_op op_sub (pv 1) pe_int) pa_nil))) pa_nil)))))
  (pss_cons (ps_set (i := 7) sc_read_recording.nd rfl (Or.inl rfl) (pe_m D_Line_read_field T.c_Line.cl (hr.mono (by omega)) (passOut rfl rfl rfl rfl) (pv 0) (pa_cons pe_str (pa_cons pe_int (pa_cons (pe_op op_sub (pv 1) (pv 6)) pa_nil)))))
  (pss_cons (ps_set (i := 8) sc_read_recording.nd rfl (Or.inl rfl) (pe_m D_Line_read_field T.c_Line.cl (hr.mono (by omega)) (passOut rfl rfl rfl rfl) (pv 0) (pa_cons pe_str (pa_cons pe_int (pa_cons (pe_gi T.g_MOST_UNITS) pa_nil)))))
  (pss_cons (ps_set (i := 9) sc_read_recording.nd rfl (Or.inl rfl) (pe_m D_Line_read_field T.c_Line.cl (hr.mono (by omega)) (passOut rfl rfl rfl rfl) (pv 0) (pa_cons pe_str (pa_cons pe_int (pa_cons (pe_gi T.g_MOST_UNITS) pa_nil)))))
  (pss_cons (ps_set (i := 10) sc_read_recording.nd rfl (Or.inl rfl) (pe_m D_Line_read_field T.c_Line.cl (hr.mono (by omega)) (passOut rfl rfl rfl rfl) (pv 0) (pa_cons pe_str (pa_cons pe_int (pa_cons (pe_gi T.g_MOST_WORTH) pa_nil)))))
  (pss_cons (ps_set (i := 11) sc_read_recording.nd rfl (Or.inl rfl) (pe_m D_Line_read_field T.c_Line.cl (hr.mono (by omega)) (passOut rfl rfl rfl rfl) (pv 0) (pa_cons pe_str (pa_cons pe_int (pa_cons (pe_gi T.g_MOST_RANK) pa_nil)))))
  (pss_cons (ps_set (i := 12) sc_read_recording.nd rfl (Or.inl rfl) (pe_m D_Line_read_field T.c_Line.cl (hr.mono (by omega)) (passOut rfl rfl rfl rfl) (pv 0) (pa_cons pe_str (pa_cons pe_int (pa_cons (pv 1) pa_nil)))))
  (pss_one (ps_ret (pe_mk DI_Recording T.c_Recording (hr.mono (by omega)) (passOut rfl rfl rfl rfl) (pa_cons (pv 3) (pa_cons (pv 4) (pa_cons (pv 5) (pa_cons (pv 6) (pa_cons (pv 7) (pa_cons (pv 8) (pa_cons (pv 9) (pa_cons (pv 10) (pa_cons (pv 11) (pa_cons (pv 12) pa_nil)))))))))))))))))))))))
    , ?_⟩
  have E0 : rdRec ws h sats ns = seq2 (rdNew ws 1 ns) _ := rfl
  (obtain ⟨ls, l, xs, t1, t2, t3, t4, t5⟩ := hN; obtain ⟨_, _, g0, z0⟩ := LnX.no hL (m := "read_new_name") (by decide +kernel) (by decide +kernel) (by decide +kernel) (by decide +kernel); refine ⟨_, rfl, a, _, _, rfl, g0, z0, _, rfl, th, _, _, .ref l, rfl, rfl, t1, atI_nat (j := 2) (by rw [List.getElem?_map, t2]; rfl), l, xs, ns, rfl, t3, t4, t5, fun p H1 s1 np hp => ?_⟩; refine ⟨a, n, ws, 1, p, ns, rfl, hL.same s1, SqL.of hp, fun e he => (qe e (E0.trans (seq2_err he))).on (SameX.of s1), fun nm hnm H2 s2 L2 => ?_⟩; have E2 := E0.trans (seq2_ok hnm); have S2 := (SameX.of s1).trans s2)
  (obtain ⟨_, _, gg, zz⟩ := LnX.no L2 (m := "read_choice") (by decide +kernel) (by decide +kernel) (by decide +kernel) (by decide +kernel); refine ⟨_, rfl, a, _, _, rfl, gg, zz, (by show 1 ≤ sizeLine; decide), fun tt htt => ?_⟩; refine ⟨a, n, ws, 2, tt, [Str.ofString "by"], rfl, LnX.same L2 (same_new htt _), SqT.of upd_same, fun e he => (qe e (E2.trans (seq2_err he))).on (SameX.trans S2 (SameX.of (same_new htt _))), fun uu hm H3 ss L3 => ?_⟩; have E3 := E2.trans (seq2_ok hm); have S3 := (SameX.trans S2 (SameX.of (same_new htt _))).trans ss)
  (obtain ⟨lsk, lk, xsk, u1, u2, u3, u4, u5⟩ := NamesAt.sxX hS hL S3; obtain ⟨_, _, gg, zz⟩ := LnX.no L3 (m := "read_known_name") (by decide +kernel) (by decide +kernel) (by decide +kernel) (by decide +kernel); refine ⟨_, rfl, a, _, _, rfl, gg, zz, _, rfl, th, _, _, .ref lk, rfl, rfl, u1, atI_nat (j := 0) (by rw [List.getElem?_map, u2]; rfl), lk, xsk, _, rfl, u3, u4, u5, fun pk Hk sk npk hpk => ?_⟩; refine ⟨a, n, ws, 3, pk, _, 0, rfl, LnX.same L3 sk, SqL.of hpk, fun e he => (qe e (E3.trans (seq2_err he))).on (SameX.trans S3 (SameX.of sk)), fun jk hm H4 ss L4 => ?_⟩; have E4 := E3.trans (seq2_ok hm); have S4 := (SameX.trans S3 (SameX.of sk)).trans ss)
  (obtain ⟨_, _, gg, zz⟩ := LnX.no L4 (m := "read_field") (by decide +kernel) (by decide +kernel) (by decide +kernel) (by decide +kernel); refine ⟨_, rfl, a, _, _, rfl, gg, zz, _, rfl, _, _, rfl, rfl, a, n, ws, 4, _, _, _, rfl, L4, fun e he => (qe e (E4.trans (seq2_err he))).on S4, fun m5 hm H5 ss L5 => ?_⟩; have E5 := E4.trans (seq2_ok hm); have S5 := SameX.trans S4 ss)
  obtain ⟨tk, hv⟩ := T.v_MOST_SHIFT
  (obtain ⟨_, _, gg, zz⟩ := LnX.no L5 (m := "read_field") (by decide +kernel) (by decide +kernel) (by decide +kernel) (by decide +kernel); refine ⟨_, rfl, a, _, _, rfl, gg, zz, _, rfl, _, rfl, CW, _, _, _, rfl, T.rdW, hv, _, _, rfl, rfl, _, rfl, _, _, rfl, rfl, _, _, rfl, a, n, ws, 6, _, _, _, rfl, L5, fun e he => (qe e (E5.trans (seq2_err he))).on S5, fun m6 hm H6 ss L6 => ?_⟩; have E6 := E5.trans (seq2_ok hm); have S6 := SameX.trans S5 ss)
  (obtain ⟨_, _, gg, zz⟩ := LnX.no L6 (m := "read_field") (by decide +kernel) (by decide +kernel) (by decide +kernel) (by decide +kernel); refine ⟨_, rfl, a, _, _, rfl, gg, zz, _, rfl, _, rfl, _, _, rfl, rfl, a, n, ws, 8, _, _, _, rfl, L6, fun e he => (qe e (E6.trans (seq2_err he))).on S6, fun m7 hm H7 ss L7 => ?_⟩; have E7 := E6.trans (seq2_ok hm); have S7 := SameX.trans S6 ss)
  (obtain ⟨_, _, gg, zz⟩ := LnX.no L7 (m := "read_field") (by decide +kernel) (by decide +kernel) (by decide +kernel) (by decide +kernel); refine ⟨_, rfl, a, _, _, rfl, gg, zz, a, n, ws, 10, _, _, _, rfl, L7, fun e he => (qe e (E7.trans (seq2_err he))).on S7, fun m8 hm H8 ss L8 => ?_⟩; have E8 := E7.trans (seq2_ok hm); have S8 := SameX.trans S7 ss)
  (obtain ⟨_, _, gg, zz⟩ := LnX.no L8 (m := "read_field") (by decide +kernel) (by decide +kernel) (by decide +kernel) (by decide +kernel); refine ⟨_, rfl, a, _, _, rfl, gg, zz, a, n, ws, 12, _, _, _, rfl, L8, fun e he => (qe e (E8.trans (seq2_err he))).on S8, fun m9 hm H9 ss L9 => ?_⟩; have E9 := E8.trans (seq2_ok hm); have S9 := SameX.trans S8 ss)
  (obtain ⟨_, _, gg, zz⟩ := LnX.no L9 (m := "read_field") (by decide +kernel) (by decide +kernel) (by decide +kernel) (by decide +kernel); refine ⟨_, rfl, a, _, _, rfl, gg, zz, a, n, ws, 14, _, _, _, rfl, L9, fun e he => (qe e (E9.trans (seq2_err he))).on S9, fun m10 hm H10 ss L10 => ?_⟩; have E10 := E9.trans (seq2_ok hm); have S10 := SameX.trans S9 ss)
  (obtain ⟨_, _, gg, zz⟩ := LnX.no L10 (m := "read_field") (by decide +kernel) (by decide +kernel) (by decide +kernel) (by decide +kernel); refine ⟨_, rfl, a, _, _, rfl, gg, zz, a, n, ws, 16, _, _, _, rfl, L10, fun e he => (qe e (E10.trans (seq2_err he))).on S10, fun m11 hm H11 ss L11 => ?_⟩; have E11 := E10.trans (seq2_ok hm); have S11 := SameX.trans S10 ss)
  (obtain ⟨_, _, gg, zz⟩ := LnX.no L11 (m := "read_field") (by decide +kernel) (by decide +kernel) (by decide +kernel) (by decide +kernel); refine ⟨_, rfl, a, _, _, rfl, gg, zz, _, rfl, a, n, ws, 18, _, _, _, rfl, L11, fun e he => (qe e (E11.trans (seq2_err he))).on S11, fun m12 hm H12 ss L12 => ?_⟩; have E12 := E11.trans (seq2_ok hm); have S12 := SameX.trans S11 ss)
  refine ⟨_, rfl, _, rfl, _, rfl, _, rfl, _, rfl, _, rfl, _, rfl, _, rfl, _, rfl, _, rfl, fun x dx hx hdx ne => ?_⟩
  refine ⟨x, dx, _, _, _, _, _, _, _, _, _, _, rfl, upd_same, rfl, ?_⟩
  have sB : ∀ {fs : List (Str × V)}, Same H12 (upd (upd (upd H12 dx (.own x)) x (.ins CR dx [])) x (.ins CR dx fs)) := same_made hx hdx
  obtain ⟨o, ho⟩ := L12.there
  exact q nm E12 x _ (S12.free ho hx) (S12.trans (SameX.of sB)) (L12.same sB) ⟨x, CR, dx, _, rfl, upd_same, T.c_Recording.cl, T.n_Recording_name, lk_hit⟩
def spRdPasX (K : PySem.W.Frag) (CL CF : Addr) : Sp := fun vs H Q E => ∃ (a : Addr) (n : Int) (ws : List Str) (h : Int) (th : Addr) (sats stas ns : List Str), vs = [.ref a, .int h, .ref th] ∧ LnX CL H a n ws 1 ∧ NamesAt K H th 3 ns ∧ NamesAt K H th 0 sats ∧ NamesAt K H th 1 stas ∧ (∀ e, rdPas ws h sats stas ns = .error e → FltX CF E a H n ws e) ∧
  ∀ nm, rdPas ws h sats stas ns = .ok nm → ∀ b H', H b = none → SameX a H H' → LnX CL H' a n ws 16 → Named K H' (.ref b) nm → Q (.ref b) H'
set_option maxHeartbeats 16000000 in
theorem d_read_passX (T : TxtW K mg CL CS CT CR CP CW aS aR fS fT fR fP) (D_names_of : DefOk P w K mg base (L2.CX P w) 1 "names_of" ["things"] (spNames K)) (D_Line_read_new_name : MDef P w K mg base (L2.CX P w) 6 CL "read_new_name" ["self", "used"] [] (spNewNameX K CL CF))
    (D_Line_read_field : MDef P w K mg base (L2.CX P w) 6 CL "read_field" ["self", "word", "least", "most"] [] (spFieldX CL CF)) (D_Line_read_choice : MDef P w K mg base (L2.CX P w) 5 CL "read_choice" ["self", "choices"] [] (spChoiceX K CL CF))
    (D_Line_read_known_name : MDef P w K mg base (L2.CX P w) 6 CL "read_known_name" ["self", "names", "least"] [.int 0] (spKnownNameX K CL CF))
    (DI_Pass : MDef P w K mg base (L2.CX P w) 1 CP "__init__" ["self", "name", "satellite", "station", "span", "room", "energy", "fee"] [] (spI_Pass CP))
    (A : At K mg "read_pass" s_read_pass ["line", "horizon", "things"]) : DefOk P w K mg base (L2.CX P w) 7 "read_pass" ["line", "horizon", "things"] (spRdPasX K CL CF) := by
  have B := T.L.B
  refine A.okX sc_read_pass (fun vs H Q E h => ?_) (fun f cdv A outer s H vs Q E hr h => ?_)
  · obtain ⟨a, n, ws, h, th, sats, stas, ns, rfl, _⟩ := h
    rfl
  obtain ⟨a, n, ws, h, th, sats, stas, ns, rfl, hL, hN, hS, hT, qe, q⟩ := h
  refine ⟨_, pss_cons (ps_set (i := 3) sc_read_pass.nd rfl (Or.inl rfl) (pe_m D_Line_read_new_name T.c_Line.cl (hr.mono (by omega)) (passOut rfl rfl rfl rfl) (pv 0) (pa_cons (pe_f D_names_of (hr.mono (by omega)) (passOut rfl rfl rfl rfl) (pa_cons (pe_ix ix_tup (pv 2) (pe_gi T.g_PASSES) (fun _ _ => rfl)) pa_nil)) pa_nil)))
  (pss_cons (ps_expr (pe_m D_Line_read_choice T.c_Line.cl (hr.mono (by omega)) (passOut rfl rfl rfl rfl) (pv 0) (pa_cons (pe_tup (pa_cons pe_str pa_nil)) pa_nil)))
  (pss_cons (ps_set (i := 4) sc_read_pass.nd rfl (Or.inl rfl) (pe_m D_Line_read_known_name T.c_Line.cl (hr.mono (by omega)) (passOut rfl rfl rfl rfl) (pv 0) (pa_cons (pe_f D_names_of (hr.mono (by omega)) (passOut rfl rfl rfl rfl) (pa_cons (pe_ix ix_tup (pv 2) (pe_gi T.g_SATELLITES) (fun _ _ => rfl)) pa_nil)) pa_nil)))
  (pss_cons (ps_expr (pe_m D_Line_read_choice T.c_Line.cl (hr.mono (by omega)) (passOut rfl rfl rfl rfl) (pv 0) (pa_cons (pe_tup (pa_cons pe_str pa_nil)) pa_nil)))
  (pss_cons (ps_set (i := 5) sc_read_pass.nd rfl (Or.inl rfl) (pe_m D_Line_read_known_name T.c_Line.cl (hr.mono (by omega)) (passOut rfl rfl rfl rfl) (pv 0) (pa_cons (pe_f D_names_of (hr.mono (by omega)) (passOut rfl rfl rfl rfl) (pa_cons (pe_ix ix_tup (pv 2) (pe_gi T.g_STATIONS) (fun _ _ => rfl)) pa_nil)) pa_nil)))
  (pss_cons (ps_set (i := 6) sc_read_pass.nd rfl (Or.inl rfl) (pe_m D_Line_read_field T.c_Line.cl (hr.mono (by omega)) (passOut rfl rfl rfl rfl) (pv 0) (pa_cons pe_str (pa_cons pe_int (pa_cons (pe_op op_sub (pv 1) pe_int) pa_nil)))))
  (pss_cons (ps_set (i := 7) sc_read_pass.nd rfl (Or.inl rfl) (pe_m D_Line_read_field T.c_Line.cl (hr.mono (by omega)) (passOut rfl rfl rfl rfl) (pv 0) (pa_cons pe_str (pa_cons (pe_op op_add (pv 6) pe_int) (pa_cons (pv 1) pa_nil)))))
  (pss_cons (ps_set (i := 8) sc_read_pass.nd rfl (Or.inl rfl) (pe_m D_Line_read_field T.c_Line.cl (hr.mono (by omega)) (passOut rfl rfl rfl rfl) (pv 0) (pa_cons pe_str (pa_cons pe_int (pa_cons (pe_gi T.g_MOST_UNITS) pa_nil)))))
  (pss_cons (ps_set (i := 9) sc_read_pass.nd rfl (Or.inl rfl) (pe_m D_Line_read_field T.c_Line.cl (hr.mono (by omega)) (passOut rfl rfl rfl rfl) (pv 0) (pa_cons pe_str (pa_cons pe_int (pa_cons (pe_gi T.g_MOST_UNITS) pa_nil)))))
  (pss_cons (ps_set (i := 10) sc_read_pass.nd rfl (Or.inl rfl) (pe_m D_Line_read_field T.c_Line.cl (hr.mono (by omega)) (passOut rfl rfl rfl rfl) (pv 0) (pa_cons pe_str (pa_cons pe_int (pa_cons (pe_gi T.g_MOST_FEE) pa_nil)))))
  (pss_one (ps_ret (pe_mk DI_Pass T.c_Pass (hr.mono (by omega)) (passOut rfl rfl rfl rfl) (pa_cons (pv 3) (pa_cons (pv 4) (pa_cons (pv 5) (pa_cons (pe_tup (pa_cons (pv 6) (pa_cons (pv 7) pa_nil))) (pa_cons (pv 8) (pa_cons (pv 9) (pa_cons (pv 10) pa_nil)))))))))))))))))))
    , ?_⟩
  have E0 : rdPas ws h sats stas ns = seq2 (rdNew ws 1 ns) _ := rfl
  (obtain ⟨ls, l, xs, t1, t2, t3, t4, t5⟩ := hN; obtain ⟨_, _, g0, z0⟩ := LnX.no hL (m := "read_new_name") (by decide +kernel) (by decide +kernel) (by decide +kernel) (by decide +kernel); refine ⟨_, rfl, a, _, _, rfl, g0, z0, _, rfl, th, _, _, .ref l, rfl, rfl, t1, atI_nat (j := 3) (by rw [List.getElem?_map, t2]; rfl), l, xs, ns, rfl, t3, t4, t5, fun p H1 s1 np hp => ?_⟩; refine ⟨a, n, ws, 1, p, ns, rfl, hL.same s1, SqL.of hp, fun e he => (qe e (E0.trans (seq2_err he))).on (SameX.of s1), fun nm hnm H2 s2 L2 => ?_⟩; have E2 := E0.trans (seq2_ok hnm); have S2 := (SameX.of s1).trans s2)
  (obtain ⟨_, _, gg, zz⟩ := LnX.no L2 (m := "read_choice") (by decide +kernel) (by decide +kernel) (by decide +kernel) (by decide +kernel); refine ⟨_, rfl, a, _, _, rfl, gg, zz, (by show 1 ≤ sizeLine; decide), fun tt htt => ?_⟩; refine ⟨a, n, ws, 2, tt, [Str.ofString "by"], rfl, LnX.same L2 (same_new htt _), SqT.of upd_same, fun e he => (qe e (E2.trans (seq2_err he))).on (SameX.trans S2 (SameX.of (same_new htt _))), fun uu hm H3 ss L3 => ?_⟩; have E3 := E2.trans (seq2_ok hm); have S3 := (SameX.trans S2 (SameX.of (same_new htt _))).trans ss)
  (obtain ⟨lsk, lk, xsk, u1, u2, u3, u4, u5⟩ := NamesAt.sxX hS hL S3; obtain ⟨_, _, gg, zz⟩ := LnX.no L3 (m := "read_known_name") (by decide +kernel) (by decide +kernel) (by decide +kernel) (by decide +kernel); refine ⟨_, rfl, a, _, _, rfl, gg, zz, _, rfl, th, _, _, .ref lk, rfl, rfl, u1, atI_nat (j := 0) (by rw [List.getElem?_map, u2]; rfl), lk, xsk, _, rfl, u3, u4, u5, fun pk Hk sk npk hpk => ?_⟩; refine ⟨a, n, ws, 3, pk, _, 0, rfl, LnX.same L3 sk, SqL.of hpk, fun e he => (qe e (E3.trans (seq2_err he))).on (SameX.trans S3 (SameX.of sk)), fun jk hm H4 ss L4 => ?_⟩; have E4 := E3.trans (seq2_ok hm); have S4 := (SameX.trans S3 (SameX.of sk)).trans ss)
  (obtain ⟨_, _, gg, zz⟩ := LnX.no L4 (m := "read_choice") (by decide +kernel) (by decide +kernel) (by decide +kernel) (by decide +kernel); refine ⟨_, rfl, a, _, _, rfl, gg, zz, (by show 1 ≤ sizeLine; decide), fun tt htt => ?_⟩; refine ⟨a, n, ws, 4, tt, [Str.ofString "over"], rfl, LnX.same L4 (same_new htt _), SqT.of upd_same, fun e he => (qe e (E4.trans (seq2_err he))).on (SameX.trans S4 (SameX.of (same_new htt _))), fun uu hm H5 ss L5 => ?_⟩; have E5 := E4.trans (seq2_ok hm); have S5 := (SameX.trans S4 (SameX.of (same_new htt _))).trans ss)
  (obtain ⟨lsk, lk, xsk, u1, u2, u3, u4, u5⟩ := NamesAt.sxX hT hL S5; obtain ⟨_, _, gg, zz⟩ := LnX.no L5 (m := "read_known_name") (by decide +kernel) (by decide +kernel) (by decide +kernel) (by decide +kernel); refine ⟨_, rfl, a, _, _, rfl, gg, zz, _, rfl, th, _, _, .ref lk, rfl, rfl, u1, atI_nat (j := 1) (by rw [List.getElem?_map, u2]; rfl), lk, xsk, _, rfl, u3, u4, u5, fun pk Hk sk npk hpk => ?_⟩; refine ⟨a, n, ws, 5, pk, _, 0, rfl, LnX.same L5 sk, SqL.of hpk, fun e he => (qe e (E5.trans (seq2_err he))).on (SameX.trans S5 (SameX.of sk)), fun jk hm H6 ss L6 => ?_⟩; have E6 := E5.trans (seq2_ok hm); have S6 := (SameX.trans S5 (SameX.of sk)).trans ss)
  (obtain ⟨_, _, gg, zz⟩ := LnX.no L6 (m := "read_field") (by decide +kernel) (by decide +kernel) (by decide +kernel) (by decide +kernel); refine ⟨_, rfl, a, _, _, rfl, gg, zz, _, rfl, _, _, rfl, rfl, a, n, ws, 6, _, _, _, rfl, L6, fun e he => (qe e (E6.trans (seq2_err he))).on S6, fun m7 hm H7 ss L7 => ?_⟩; have E7 := E6.trans (seq2_ok hm); have S7 := SameX.trans S6 ss)
  (obtain ⟨_, _, gg, zz⟩ := LnX.no L7 (m := "read_field") (by decide +kernel) (by decide +kernel) (by decide +kernel) (by decide +kernel); refine ⟨_, rfl, a, _, _, rfl, gg, zz, _, rfl, _, _, rfl, rfl, _, rfl, a, n, ws, 8, _, _, _, rfl, L7, fun e he => (qe e (E7.trans (seq2_err he))).on S7, fun m8 hm H8 ss L8 => ?_⟩; have E8 := E7.trans (seq2_ok hm); have S8 := SameX.trans S7 ss)
  (obtain ⟨_, _, gg, zz⟩ := LnX.no L8 (m := "read_field") (by decide +kernel) (by decide +kernel) (by decide +kernel) (by decide +kernel); refine ⟨_, rfl, a, _, _, rfl, gg, zz, a, n, ws, 10, _, _, _, rfl, L8, fun e he => (qe e (E8.trans (seq2_err he))).on S8, fun m9 hm H9 ss L9 => ?_⟩; have E9 := E8.trans (seq2_ok hm); have S9 := SameX.trans S8 ss)
  (obtain ⟨_, _, gg, zz⟩ := LnX.no L9 (m := "read_field") (by decide +kernel) (by decide +kernel) (by decide +kernel) (by decide +kernel); refine ⟨_, rfl, a, _, _, rfl, gg, zz, a, n, ws, 12, _, _, _, rfl, L9, fun e he => (qe e (E9.trans (seq2_err he))).on S9, fun m10 hm H10 ss L10 => ?_⟩; have E10 := E9.trans (seq2_ok hm); have S10 := SameX.trans S9 ss)
  (obtain ⟨_, _, gg, zz⟩ := LnX.no L10 (m := "read_field") (by decide +kernel) (by decide +kernel) (by decide +kernel) (by decide +kernel); refine ⟨_, rfl, a, _, _, rfl, gg, zz, a, n, ws, 14, _, _, _, rfl, L10, fun e he => (qe e (E10.trans (seq2_err he))).on S10, fun m11 hm H11 ss L11 => ?_⟩; have E11 := E10.trans (seq2_ok hm); have S11 := SameX.trans S10 ss)
  refine ⟨_, rfl, _, rfl, _, rfl, _, rfl, _, rfl, (by show 2 ≤ sizeLine; decide), fun sp hsp => ⟨_, rfl, _, rfl, _, rfl, fun x dx hx hdx ne => ?_⟩⟩
  refine ⟨x, dx, _, _, _, _, _, _, _, rfl, upd_same, rfl, ?_⟩
  have S12 := S11.trans (SameX.of (same_new hsp (.tup [.int m7, .int m8])))
  have sB : ∀ {fs : List (Str × V)}, Same (upd H11 sp (.tup [.int m7, .int m8])) (upd (upd (upd (upd H11 sp (.tup [.int m7, .int m8])) dx (.own x)) x (.ins CP dx [])) x (.ins CP dx fs)) := same_made hx hdx
  have L14 := L11.same (same_new hsp (.tup [.int m7, .int m8]))
  obtain ⟨o, ho⟩ := L14.there
  exact q nm E11 x _ (S12.free ho hx) (S12.trans (SameX.of sB)) (L14.same sB) ⟨x, CP, dx, _, rfl, upd_same, T.c_Pass.cl, T.n_Pass_name, lk_hit⟩
end
end DP
namespace DP
open PySem PySem.Spec PyProof.Rows L2
def mostN (i : Nat) : Int := mostK.getD i 0
def nmsAt (N : List (List Str)) (i : Nat) : List Str := N.getD i []
def rdSort (ws : List Str) (k : Nat) (N : List (List Str)) : Rd Nat := seq2 (rdDue ws 0) fun u => if u ∈ sortsL then (if idxS u sortsL < k then .error (0, "line out of order") else if ((nmsAt N (idxS u sortsL)).length : Int) = mostN (idxS u sortsL) then .error (0, "too many lines") else .ok (idxS u sortsL)) else .error (0, "unexpected word")
def rdKind (i : Nat) (ws : List Str) (h : Int) (N : List (List Str)) : Rd Str := if i = 0 then rdSat ws h (nmsAt N 0) else if i = 1 then rdSta ws (nmsAt N 1) else if i = 2 then rdRec ws h (nmsAt N 0) (nmsAt N 2) else rdPas ws h (nmsAt N 0) (nmsAt N 1) (nmsAt N 3)
def finK (i : Nat) (ws : List Str) : Nat := if i = 0 then ws.length else if i = 1 then 6 else if i = 2 then 20 else 16
def rdLine (h : Int) (k : Nat) (N : List (List Str)) (ws : List Str) : Rd (Nat × List (List Str)) :=
  seq2 (rdSort ws k N) fun i => seq2 (rdKind i ws h N) fun nm => seq2 (rdFinish ws (finK i ws)) fun _ => .ok (i, N.set i (nmsAt N i ++ [nm]))
abbrev Flt := Int × Int × Str
def rdAll (h : Int) : List (List Str) → Int → Nat → List (List Str) → Except Flt Unit
  | [], _, _, _ => .ok ()
  | ws :: rest, n, k, N => match rdLine h k N ws with
    | .error e => .error (n, colW ws e.1, e.2)
    | .ok s => rdAll h rest (n + 1) s.1 s.2
theorem rdSort_lt {ws : List Str} {k : Nat} {N : List (List Str)} {i : Nat} (h : rdSort ws k N = .ok i) : i < 4 := by
  unfold rdSort seq2 at h
  split at h
  · cases h
  · rename_i u e
    dsimp only at h
    split at h
    · rename_i hm
      have h3 : idxS u sortsL < sortsL.length := (List.getElem?_eq_some_iff.mp (idxS_at hm)).1
      split at h
      · cases h
      · split at h
        · cases h
        · cases h
          exact h3
    · cases h
section
variable {P : Program} {w : World} {K : PySem.W.Frag} {mg : Str → Option Value} {base : Heap} {CL CS CT CR CP CW aS aR fS fT fR fP CF : Addr}
/-- the four lists of the things so far -/
structure ThN (K : PySem.W.Frag) (H : Hp) (th : Addr) (ls : List Addr) (N : List (List Str)) : Prop where
  tup : H th = some (.tup (ls.map V.ref))
  nd : ls.Nodup
  len : ls.length = 4
  lenN : N.length = 4
  at_ : ∀ i l, ls[i]? = some l → ∃ xs, H l = some (.lst xs) ∧ Paired (Named K H) xs (nmsAt N i) ∧ (nmsAt N i).length ≤ 100 ∧ ∀ y ∈ xs, ∃ t, y = V.ref t
theorem ThN.same {H H' : Hp} {th : Addr} {ls : List Addr} {N : List (List Str)} (h : ThN K H th ls N) (s : Same H H') : ThN K H' th ls N :=
  ⟨s _ _ h.tup, h.nd, h.len, h.lenN, fun i l hl => by
    obtain ⟨xs, h1, h2, h3, h4⟩ := h.at_ i l hl
    exact ⟨xs, s _ _ h1, Paired.mapP h2 fun _ _ z => z.same s, h3, h4⟩⟩
theorem LnX.named {H H' : Hp} {a : Addr} {n : Int} {ws : List Str} {r : Nat} (hL : LnX CL H a n ws r) (s : SameX a H H') {x : V} {nm : Str} (h : Named K H x nm) : Named K H' x nm := by
  obtain ⟨dx, wl, g1, g2⟩ := hL.ex
  exact s.named g1 (lnF_no (by decide +kernel) (by decide +kernel) (by decide +kernel) (by decide +kernel)) h
theorem ThN.sx {H H' : Hp} {a : Addr} {n : Int} {ws : List Str} {r : Nat} {th : Addr} {ls : List Addr} {N : List (List Str)} (h : ThN K H th ls N) (hL : LnX CL H a n ws r) (s : SameX a H H') : ThN K H' th ls N := by
  obtain ⟨dx, wl, g1, g2⟩ := hL.ex
  refine ⟨s _ _ (ne_of h.tup g1 (fun z => nomatch z)) h.tup, h.nd, h.len, h.lenN, fun i l hl => ?_⟩
  obtain ⟨xs, h1, h2, h3, h4⟩ := h.at_ i l hl
  exact ⟨xs, s _ _ (ne_of h1 g1 (fun z => nomatch z)) h1, Paired.mapP h2 fun _ _ z => hL.named s z, h3, h4⟩
theorem ThN.names {H : Hp} {th : Addr} {ls : List Addr} {N : List (List Str)} (h : ThN K H th ls N) {i : Nat} (hi : i < 4) : NamesAt K H th i (nmsAt N i) := by
  have hil : i < ls.length := by rw [h.len]; exact hi
  have hl : ls[i]? = some ls[i] := List.getElem?_eq_getElem hil
  obtain ⟨xs, h1, h2, h3, h4⟩ := h.at_ i _ hl
  exact ⟨ls, _, xs, SqT.of h.tup, hl, SqL.of h1, h2, h3⟩
theorem Named.up {H : Hp} {L : Addr} {ys : List V} {o : HO} {x : V} {nm : Str} (h : Named K H x nm) (e : H L = some (.lst ys)) : Named K (L2.upd H L o) x nm := by
  obtain ⟨b, D, dy, gs, e1, e2, e3⟩ := h
  exact ⟨b, D, dy, gs, e1, by rw [upd_ne (ne_of e2 e (fun z => nomatch z))]; exact e2, e3⟩
theorem ThN.push {H : Hp} {th : Addr} {ls : List Addr} {N : List (List Str)} {i : Nat} {l b : Addr} {xs : List V} {nm : Str} (h : ThN K H th ls N) (hl : ls[i]? = some l) (e : H l = some (.lst xs)) (k : Named K H (.ref b) nm) (hz : (nmsAt N i).length < 100) :
    ThN K (L2.upd H l (.lst (xs ++ [.ref b]))) th ls (N.set i (nmsAt N i ++ [nm])) := by
  have hi : i < 4 := by rw [← h.len]; exact (List.getElem?_eq_some_iff.mp hl).1
  refine ⟨by rw [upd_ne (ne_of h.tup e (fun z => nomatch z))]; exact h.tup, h.nd, h.len, by rw [List.length_set]; exact h.lenN, fun j l' hj => ?_⟩
  obtain ⟨ys, h1, h2, h3, h4⟩ := h.at_ j l' hj
  by_cases c : j = i
  · subst c
    rw [hl] at hj
    cases hj
    rw [e] at h1
    cases h1
    have en : nmsAt (N.set j (nmsAt N j ++ [nm])) j = nmsAt N j ++ [nm] := by
      show (N.set j _).getD j [] = _
      rw [List.getD_eq_getElem?_getD, List.getElem?_set_self (by rw [h.lenN]; exact hi)]
      rfl
    rw [en]
    refine ⟨_, upd_same, paired_snoc (Paired.mapP h2 fun _ _ z => z.up e) (k.up e), by rw [List.length_append, List.length_singleton]; omega, fun y hy => ?_⟩
    rcases List.mem_append.mp hy with hy | hy
    · exact h4 y hy
    · exact ⟨b, List.mem_singleton.mp hy⟩
  · have en : nmsAt (N.set i (nmsAt N i ++ [nm])) j = nmsAt N j := by
      show (N.set i _).getD j [] = N.getD j []
      rw [List.getD_eq_getElem?_getD, List.getElem?_set_ne (fun z => c z.symm), List.getD_eq_getElem?_getD]
    have nl : l' ≠ l := fun z => by
      subst z
      obtain ⟨q1, e1⟩ := List.getElem?_eq_some_iff.mp hl
      obtain ⟨q2, e2⟩ := List.getElem?_eq_some_iff.mp hj
      exact c ((List.getElem_inj h.nd).mp (e2.trans e1.symm))
    rw [en]
    exact ⟨ys, by rw [upd_ne nl]; exact h1, Paired.mapP h2 fun _ _ z => z.up e, h3, h4⟩
/-- a line stays where a list of objects is changed -/
theorem LnX.up {H : Hp} {a L : Addr} {n : Int} {ws : List Str} {r : Nat} {ys : List V} {o : HO} (h : LnX CL H a n ws r) (hne : ws ≠ []) (e : H L = some (.lst ys)) (hr : ∀ y ∈ ys, ∃ t, y = V.ref t) : LnX CL (L2.upd H L o) a n ws r := by
  obtain ⟨dx, wl, h1, h2⟩ := h.ex
  refine ⟨⟨dx, wl, by rw [upd_ne (ne_of h1 e (fun z => nomatch z))]; exact h1, ?_⟩, h.n0, h.n1, h.le, h.wl, h.sz⟩
  rw [upd_ne]
  · exact h2
  · intro z
    rw [z, e] at h2
    have e2 : ys = ws.map V.str := HO.lst.inj (Option.some.inj h2)
    cases ws with
    | nil => exact hne rfl
    | cons w wr =>
      obtain ⟨t, ht⟩ := hr (.str w) (by rw [e2]; exact List.mem_cons_self)
      cases ht
theorem LnX.sx {H H' : Hp} {a b : Addr} {n m : Int} {ws vs : List Str} {r q : Nat} (h : LnX CL H a n ws r) (hL : LnX CL H b m vs q) (ne : a ≠ b) (z : SameX b H H') : LnX CL H' a n ws r := by
  obtain ⟨dx', wl', g1, g2⟩ := hL.ex
  obtain ⟨dx, wl, h1, h2⟩ := h.ex
  exact ⟨⟨dx, wl, z _ _ ne h1, z _ _ (ne_of h2 g1 (fun z => nomatch z)) h2⟩, h.n0, h.n1, h.le, h.wl, h.sz⟩
def spSortX (K : PySem.W.Frag) (CL CF : Addr) : Sp := fun vs H Q E => ∃ (a : Addr) (n : Int) (ws : List Str) (k : Nat) (th : Addr) (ls : List Addr) (N : List (List Str)), vs = [.ref a, .int (k : Int), .ref th] ∧ LnX CL H a n ws 0 ∧ ThN K H th ls N ∧ (∀ e, rdSort ws k N = .error e → FltX CF E a H n ws e) ∧
  ∀ i, rdSort ws k N = .ok i → ∀ H', SameX a H H' → LnX CL H' a n ws 1 → Q (.int (i : Int)) H'
theorem d_read_sortX (T : TxtW K mg CL CS CT CR CP CW aS aR fS fT fR fP) (D_Line_due : MDef P w K mg base (L2.CX P w) 4 CL "due" ["self"] [] (spDueX CL CF)) (D_Line_refuse : MDef P w K mg base (L2.CX P w) 3 CL "refuse" ["self", "reason"] [] (spRefuse CL CF)) (D_Line_step : MDef P w K mg base (L2.CX P w) 1 CL "step" ["self"] [] (spStepX CL)) (D_most_things : DefOk P w K mg base (L2.CX P w) 1 "most_things" ["sort"] spMost)
    (A : At K mg "read_sort" s_read_sort ["line", "ahead", "things"]) : DefOk P w K mg base (L2.CX P w) 5 "read_sort" ["line", "ahead", "things"] (spSortX K CL CF) := by
  have B := T.L.B
  refine A.okX sc_read_sort (fun vs H Q E h => ?_) (fun f cdv A outer s H vs Q E hr h => ?_)
  · obtain ⟨a, n, ws, k, th, ls, N, rfl, _⟩ := h
    rfl
  obtain ⟨a, n, ws, k, th, ls, N, rfl, hL, hT, qe, q⟩ := h
  refine ⟨_, pss_cons (ps_set (i := 3) sc_read_sort.nd rfl (Or.inl rfl) (pe_m0 D_Line_due T.c_Line.cl (hr.mono (by omega)) (passOut rfl rfl rfl rfl) (pv 0)))
  (pss_cons (ps_if (pt_cmpR op_notIn_seq (pv 3) (pe_ga T.g_SORTS) (by rfl))
      (pss_one (ps_expr (pe_m D_Line_refuse T.c_Line.cl (hr.mono (by omega)) (passOut rfl rfl rfl rfl) (pv 0) (pa_cons pe_str pa_nil))))
      (pss_nil))
  (pss_cons (ps_set (i := 4) sc_read_sort.nd rfl (Or.inl rfl) (pe_bm PySem.F.plainAttrs_tuple PySem.F.slot_tuple_index PySem.F.type_tuple_index mt_tup_index (pe_ga T.g_SORTS) (pa_cons (pv 3) pa_nil)))
  (pss_cons (ps_if (pt_cmpR op_lt (pv 4) (pv 1) (nomark _))
      (pss_one (ps_expr (pe_m D_Line_refuse T.c_Line.cl (hr.mono (by omega)) (passOut rfl rfl rfl rfl) (pv 0) (pa_cons pe_str pa_nil))))
      (pss_nil))
  (pss_cons (ps_if (pt_cmpR op_eq (pe_callB (call_len_seq) (by rfl) B.len (by decide +kernel) (pa_cons (pe_ix ix_tup (pv 2) (pv 4) (fun _ _ => rfl)) pa_nil)) (pe_f D_most_things (hr.mono (by omega)) (passOut rfl rfl rfl rfl) (pa_cons (pv 4) pa_nil)) (nomark _))
      (pss_one (ps_expr (pe_m D_Line_refuse T.c_Line.cl (hr.mono (by omega)) (passOut rfl rfl rfl rfl) (pv 0) (pa_cons pe_str pa_nil))))
      (pss_nil))
  (pss_cons (ps_expr (pe_m0 D_Line_step T.c_Line.cl (hr.mono (by omega)) (passOut rfl rfl rfl rfl) (pv 0)))
  (pss_one (ps_ret (pv 4))))))))
    , ?_⟩
  have E0 : rdSort ws k N = seq2 (rdDue ws 0) _ := rfl
  obtain ⟨_, _, g0, z0⟩ := LnX.no hL (m := "due") (by decide +kernel) (by decide +kernel) (by decide +kernel) (by decide +kernel)
  refine ⟨_, rfl, a, _, _, rfl, g0, z0, a, n, ws, 0, rfl, hL, fun e he => qe e (E0.trans (seq2_err he)), fun u hu => ?_⟩
  have E1 := E0.trans (seq2_ok hu)
  refine ⟨_, rfl, aS, _, rfl, .inr (T.t_SORTS H), rfl, flat_strs, _, rfl, ?_⟩
  by_cases hm : u ∈ sortsL
  · have E2 := E1.trans (if_pos hm)
    refine iteF' (by rw [show (([("satellite" : Str), "station", "recording", "pass"]).map V.str) = sortsL.map V.str from rfl, inV_str, decide_eq_true hm]; rfl) ?_
    obtain ⟨o, ho1, ho2, ho3⟩ := T.k_SORTS
    refine ⟨.inr (.inl ⟨rfl, o, ho1, ho2, ho3⟩), _, rfl, aS, sortsL, u, idxS u sortsL, rfl, rfl, T.t_SORTS H, idxS_at hm, fun m h1 h2 => idxS_first h1 h2 rfl, ?_⟩
    refine ⟨_, rfl, _, rfl, _, _, rfl, rfl, _, rfl, ?_⟩
    by_cases hk : idxS u sortsL < k
    · refine iteT' (decide_eq_true (by omega)) ?_
      (obtain ⟨_, _, g1, z1⟩ := LnX.no hL (m := "refuse") (by decide +kernel) (by decide +kernel) (by decide +kernel) (by decide +kernel); exact ⟨_, rfl, a, _, _, rfl, g1, z1, a, n, ws, 0, _, rfl, hL, by decide +kernel, (qe _ (E2.trans (if_pos hk))).same⟩)
    · have E3 := E2.trans (if_neg hk)
      refine iteF' (decide_eq_false (by omega)) ?_
      have h4 : idxS u sortsL < 4 := (List.getElem?_eq_some_iff.mp (idxS_at hm)).1
      have hil : idxS u sortsL < ls.length := by rw [hT.len]; exact h4
      have hl : ls[idxS u sortsL]? = some ls[idxS u sortsL] := List.getElem?_eq_getElem hil
      obtain ⟨xs, a1, a2, a3, a4⟩ := hT.at_ _ _ hl
      have hmk : mostK[idxS u sortsL]? = some (mostN (idxS u sortsL)) := by
        unfold mostN
        rw [List.getD_eq_getElem?_getD, List.getElem?_eq_getElem (show idxS u sortsL < mostK.length from h4)]
        rfl
      refine ⟨_, rfl, _, rfl, th, _, _, .ref _, rfl, rfl, SqT.of hT.tup, atI_nat (by rw [List.getElem?_map, hl]; rfl), _, xs, rfl, .inl (SqL.of a1), _, rfl, idxS u sortsL, _, rfl, hmk, fun H1 s1 => ?_⟩
      have lx := paired_len a2
      have L1 := hL.same s1
      refine ⟨rfl, _, rfl, ?_⟩
      by_cases hf : ((nmsAt N (idxS u sortsL)).length : Int) = mostN (idxS u sortsL)
      · refine iteT' (decide_eq_true (by rw [lx, hf])) ?_
        (obtain ⟨_, _, g1, z1⟩ := LnX.no L1 (m := "refuse") (by decide +kernel) (by decide +kernel) (by decide +kernel) (by decide +kernel); exact ⟨_, rfl, a, _, _, rfl, g1, z1, a, n, ws, 0, _, rfl, L1, by decide +kernel, ((qe _ (E3.trans (if_pos hf))).on (SameX.of s1)).same⟩)
      · refine iteF' (decide_eq_false fun z => hf (by have := V.int.inj z; rw [← lx]; exact this)) ?_
        obtain ⟨_, _, g1, z1⟩ := LnX.no L1 (m := "step") (by decide +kernel) (by decide +kernel) (by decide +kernel) (by decide +kernel)
        refine ⟨_, rfl, a, _, _, rfl, g1, z1, a, n, ws, 0, rfl, L1, hL.at hu, fun H2 s2 L2 => ?_⟩
        exact ⟨_, rfl, q _ (E3.trans (if_neg hf)) H2 ((SameX.of s1).trans s2) L2⟩
  · refine iteT' (by rw [show (([("satellite" : Str), "station", "recording", "pass"]).map V.str) = sortsL.map V.str from rfl, inV_str, decide_eq_false hm]; rfl) ?_
    (obtain ⟨_, _, g1, z1⟩ := LnX.no hL (m := "refuse") (by decide +kernel) (by decide +kernel) (by decide +kernel) (by decide +kernel); exact ⟨_, rfl, a, _, _, rfl, g1, z1, a, n, ws, 0, _, rfl, hL, by decide +kernel, (qe _ (E1.trans (if_neg hm))).same⟩)
end
end DP
namespace DP
open PySem PySem.Spec PyProof.Rows L2
structure HeldX (P : Program) (w : World) (K : PySem.W.Frag) (mg : Str → Option Value) (base : Heap) (k : Nat) (f : Addr) (sp : Sp) : Prop where
  ex : ∃ (fd : FuncData) (ps : List Str), FnOk P w K mg base (L2.CX P w) k f fd ps sp ∧ PySem.W.keepIn K (.ref f) = true ∧ Binds K fd ps []
def tCallAX (i : Nat) (S : Addr → Option Sp) (E : XK) (t : TA) : TE := fun σ H Q => ∃ f sp, σ[i]? = some (some (.ref f)) ∧ S f = some sp ∧ t σ H fun vs H1 => sp vs H1 Q E
theorem pe_callAX {X : Cx} {k i : Nat} {E : XK} {x : Str} {p pos : Pos} {e : Expr} {es : List Expr} {t : TA} {S : Addr → Option Sp} (A : ∀ f sp, S f = some sp → HeldX X.prog X.w X.K X.mg X.base k f sp) (hr : Room k X.A) (hx : Passes (L2.CX X.prog X.w) X E) (hN : X.N[i]? = some x) (hv : Vis X.env.scope x) (ha : PA X (e :: es) t)
    (hdb : (x == ("__debug__" : Str)) = false := by decide) (hcd : (x == ("__classdict__" : Str)) = false := by decide)
    (he : starEach (e :: es) X.env = (false, eval e X.env) :: starEach es X.env := by rfl) (hpl : (backTo pos (starEach es X.env)).any (·.1) = false := by rfl) : PE X (.Call (.Name x p) (e :: es) [] pos) (tCallAX i S E t) := by
  refine ⟨fun pins s σ H Q I h => ?_⟩
  obtain ⟨f, sp, hs, hS, ht⟩ := h
  obtain ⟨fd, ps, F, hk, hb⟩ := (A f sp hS).ex
  refine (pe_callL (i := i) (f := f) (sp := sp) (dvs := []) (E := E) F hr hN hv hk hb .nil hx ha hdb hcd he hpl).run pins s σ H Q I ⟨hs, ?_⟩
  have e0 : (fun (vs : List V) (H1 : Hp) => sp (vs ++ []) H1 Q E) = fun vs H1 => sp vs H1 Q E := by
    funext vs H1
    rw [List.append_nil]
  show t σ H (fun vs H1 => sp (vs ++ []) H1 Q E)
  rw [e0]
  exact ht
section
variable {P : Program} {w : World} {K : PySem.W.Frag} {mg : Str → Option Value} {base : Heap} {CL CS CT CR CP CW aS aR fS fT fR fP CF : Addr}
theorem heldX_of {x : Str} {ps : List Str} {sp : Sp} {k : Nat} {f : Addr} (D : DefOk P w K mg base (L2.CX P w) k x ps sp) (h : mg x = some (.ref f)) : HeldX P w K mg base k f sp := by
  obtain ⟨g, fd, G, m, kp, b, _⟩ := D.ex
  rw [h] at m
  cases m
  exact ⟨fd, ps, G, kp, b⟩
theorem DefOk.impX {CX : CXT} {x : Str} {ps : List Str} {k : Nat} {sp sp' : Sp} (D : DefOk P w K mg base CX k x ps sp) (h : ∀ vs H Q E, sp' vs H Q E → sp vs H Q E) : DefOk P w K mg base CX k x ps sp' := by
  obtain ⟨f, fd, G, m, kp, b, lk⟩ := D.ex
  exact ⟨f, fd, G.imp h, m, kp, b, lk⟩
/-- a reader of the i-th sort -/
def spRdX (K : PySem.W.Frag) (CL CF : Addr) (i : Nat) : Sp := fun vs H Q E => ∃ (a : Addr) (n : Int) (ws : List Str) (h : Int) (th : Addr) (ls : List Addr) (N : List (List Str)), vs = [.ref a, .int h, .ref th] ∧ LnX CL H a n ws 1 ∧ ThN K H th ls N ∧ h ≤ 500 ∧ (∀ e, rdKind i ws h N = .error e → FltX CF E a H n ws e) ∧
  ∀ nm, rdKind i ws h N = .ok nm → ∀ b H', H b = none → SameX a H H' → LnX CL H' a n ws (finK i ws) → Named K H' (.ref b) nm → Q (.ref b) H'
def rdSX (K : PySem.W.Frag) (CL CF fS fT fR fP : Addr) (f : Addr) : Option Sp := if f = fS then some (spRdX K CL CF 0) else if f = fT then some (spRdX K CL CF 1) else if f = fR then some (spRdX K CL CF 2) else if f = fP then some (spRdX K CL CF 3) else none
theorem SameA.free {as : List Addr} {H H' : Hp} {x : Addr} (s : SameA as H H') (h : H' x = none) (n : x ∉ as) : H x = none := by
  cases q : H x with
  | none => rfl
  | some u =>
    have e := s x u n q
    rw [h] at e
    cases e
def spThingsX (K : PySem.W.Frag) (CL CF : Addr) : Sp := fun vs H Q E => ∃ (p : Addr) (as : List Addr) (h n0 : Int) (lns : List (List Str)), vs = [.ref p, .int h] ∧ SqL K H p (as.map V.ref) ∧ as.Nodup ∧ h ≤ 500 ∧ as.length = lns.length ∧ lns.length ≤ 100 ∧ (∀ l ∈ lns, l ≠ []) ∧
  (∀ (j : Nat) a l, as[j]? = some a → lns[j]? = some l → LnX CL H a (n0 + j) l 0) ∧ (∀ f, rdAll h lns n0 0 [[], [], [], []] = .error f → FltE CF E (SameA as H) f.1 f.2.1 f.2.2) ∧
  (rdAll h lns n0 0 [[], [], [], []] = .ok () → ∀ th ls N H', SameA as H H' → ThN K H' th ls N → Q (.ref th) H')
set_option maxHeartbeats 16000000 in
theorem d_read_thingsX (T : TxtW K mg CL CS CT CR CP CW aS aR fS fT fR fP) (D_read_sort : DefOk P w K mg base (L2.CX P w) 5 "read_sort" ["line", "ahead", "things"] (spSortX K CL CF))
    (D1 : DefOk P w K mg base (L2.CX P w) 7 "read_satellite" ["line", "horizon", "things"] (spRdSatX K CL CF)) (D2 : DefOk P w K mg base (L2.CX P w) 7 "read_station" ["line", "_", "things"] (spRdStaX K CL CF))
    (D3 : DefOk P w K mg base (L2.CX P w) 7 "read_recording" ["line", "horizon", "things"] (spRdRecX K CL CF)) (D4 : DefOk P w K mg base (L2.CX P w) 7 "read_pass" ["line", "horizon", "things"] (spRdPasX K CL CF))
    (n1 : fT ≠ fS) (n2 : fR ≠ fS) (n3 : fR ≠ fT) (n4 : fP ≠ fS) (n5 : fP ≠ fT) (n6 : fP ≠ fR)
    (D_Line_finish : MDef P w K mg base (L2.CX P w) 5 CL "finish" ["self"] [] (spFinishX CL CF)) (A : At K mg "read_things" s_read_things ["lines", "horizon"]) : DefOk P w K mg base (L2.CX P w) 8 "read_things" ["lines", "horizon"] (spThingsX K CL CF) := by
  have B := T.L.B
  have D1' := D1.impX (sp' := spRdX K CL CF 0) fun vs H Q E ⟨a, n, ws, h, th, ls, N, e0, hL, hT, hh, qe, q⟩ => ⟨a, n, ws, h, th, _, e0, hL, hT.names (by decide), hh, qe, q⟩
  have D2' := D2.impX (sp' := spRdX K CL CF 1) fun vs H Q E ⟨a, n, ws, h, th, ls, N, e0, hL, hT, hh, qe, q⟩ => ⟨a, n, ws, h, th, _, e0, hL, hT.names (by decide), qe, q⟩
  have D3' := D3.impX (sp' := spRdX K CL CF 2) fun vs H Q E ⟨a, n, ws, h, th, ls, N, e0, hL, hT, hh, qe, q⟩ => ⟨a, n, ws, h, th, _, _, e0, hL, hT.names (by decide), hT.names (by decide), qe, q⟩
  have D4' := D4.impX (sp' := spRdX K CL CF 3) fun vs H Q E ⟨a, n, ws, h, th, ls, N, e0, hL, hT, hh, qe, q⟩ => ⟨a, n, ws, h, th, _, _, _, e0, hL, hT.names (by decide), hT.names (by decide), hT.names (by decide), qe, q⟩
  have HA : ∀ f sp, rdSX K CL CF fS fT fR fP f = some sp → HeldX P w K mg base 7 f sp := fun f sp h => by
    unfold rdSX at h
    by_cases c1 : f = fS
    · rw [if_pos c1] at h
      cases h
      rw [c1]
      exact heldX_of D1' T.r_satellite
    rw [if_neg c1] at h
    by_cases c2 : f = fT
    · rw [if_pos c2] at h
      cases h
      rw [c2]
      exact heldX_of D2' T.r_station
    rw [if_neg c2] at h
    by_cases c3 : f = fR
    · rw [if_pos c3] at h
      cases h
      rw [c3]
      exact heldX_of D3' T.r_recording
    rw [if_neg c3] at h
    by_cases c4 : f = fP
    · rw [if_pos c4] at h
      cases h
      rw [c4]
      exact heldX_of D4' T.r_pass
    rw [if_neg c4] at h
    cases h
  have S0 : rdSX K CL CF fS fT fR fP fS = some (spRdX K CL CF 0) := by unfold rdSX; rw [if_pos rfl]
  have S1 : rdSX K CL CF fS fT fR fP fT = some (spRdX K CL CF 1) := by unfold rdSX; rw [if_neg n1, if_pos rfl]
  have S2 : rdSX K CL CF fS fT fR fP fR = some (spRdX K CL CF 2) := by unfold rdSX; rw [if_neg n2, if_neg n3, if_pos rfl]
  have S3 : rdSX K CL CF fS fT fR fP fP = some (spRdX K CL CF 3) := by unfold rdSX; rw [if_neg n4, if_neg n5, if_neg n6, if_pos rfl]
  have SS : ∀ i, i < 4 → ∃ g, ([fS, fT, fR, fP])[i]? = some g ∧ rdSX K CL CF fS fT fR fP g = some (spRdX K CL CF i) := fun i hi => by
    match i, hi with
    | 0, _ => exact ⟨_, rfl, S0⟩
    | 1, _ => exact ⟨_, rfl, S1⟩
    | 2, _ => exact ⟨_, rfl, S2⟩
    | 3, _ => exact ⟨_, rfl, S3⟩
  refine A.okX sc_read_things (fun vs H Q E h => ?_) (fun f cdv A outer s H vs Q E hr h => ?_)
  · obtain ⟨p, as, h, n0, lns, rfl, _⟩ := h
    rfl
  obtain ⟨p, as, h, n0, lns, rfl, hp, hnd, hh, hlen, hl100, hne, hpr, qe, q⟩ := h
  refine ⟨_, pss_cons (ps_set (i := 2) sc_read_things.nd rfl (Or.inl rfl) (pe_tup (pa_cons (pe_lst pa_nil) (pa_cons (pe_lst pa_nil) (pa_cons (pe_lst pa_nil) (pa_cons (pe_lst pa_nil) pa_nil))))))
  (pss_cons (ps_set (i := 3) sc_read_things.nd rfl (Or.inl rfl) pe_int)
  (pss_cons (ps_for (passes_of rfl) rfl (pi_list (pv 0)) (pg_name (i := 4) sc_read_things.nd rfl (Or.inl rfl))
      (pss_cons (ps_set (i := 3) sc_read_things.nd rfl (Or.inl rfl) (pe_f D_read_sort (hr.mono (by omega)) (passOut rfl rfl rfl rfl) (pa_cons (pv 4) (pa_cons (pv 3) (pa_cons (pv 2) pa_nil)))))
      (pss_cons (ps_set (i := 5) sc_read_things.nd rfl (Or.inl rfl) (pe_ix ix_tup (pe_ga T.g_READERS) (pv 3) (fun _ _ => rfl)))
      (pss_cons (ps_expr (pe_bm PySem.F.plainAttrs_list PySem.F.slot_list_append PySem.F.type_list_append mt_append (pe_ix ix_tup (pv 2) (pv 3) (fun _ _ => rfl)) (pa_cons (pe_callAX (i := 5) (S := rdSX K CL CF fS fT fR fP) HA (hr.mono (by omega)) (passOut rfl rfl rfl rfl) rfl (Or.inl rfl) (pa_cons (pv 4) (pa_cons (pv 1) (pa_cons (pv 2) pa_nil)))) pa_nil)))
      (pss_one (ps_expr (pe_m0 D_Line_finish T.c_Line.cl (hr.mono (by omega)) (passOut rfl rfl rfl rfl) (pv 4))))))))
  (pss_one (ps_ret (pv 2)))))
    , ?_⟩
  refine ⟨Nat.zero_le _, fun l0 h0 => ⟨Nat.zero_le _, fun l1 h1 => ⟨Nat.zero_le _, fun l2 h2 => ⟨Nat.zero_le _, fun l3 h3 => ⟨(by show 4 ≤ sizeLine; decide), fun th hth => ?_⟩⟩⟩⟩⟩
  have d01 : l0 ≠ l1 := fun z => by rw [← z, upd_same] at h1; cases h1
  have h1' : H l1 = none := by rw [upd_ne d01.symm] at h1; exact h1
  have d12 : l1 ≠ l2 := fun z => by rw [← z, upd_same] at h2; cases h2
  have d02 : l0 ≠ l2 := fun z => by rw [← z, upd_ne d01, upd_same] at h2; cases h2
  have h2' : H l2 = none := by rw [upd_ne d12.symm, upd_ne d02.symm] at h2; exact h2
  have d23 : l2 ≠ l3 := fun z => by rw [← z, upd_same] at h3; cases h3
  have d13 : l1 ≠ l3 := fun z => by rw [← z, upd_ne d12, upd_same] at h3; cases h3
  have d03 : l0 ≠ l3 := fun z => by rw [← z, upd_ne d02, upd_ne d01, upd_same] at h3; cases h3
  have h3' : H l3 = none := by rw [upd_ne d23.symm, upd_ne d13.symm, upd_ne d03.symm] at h3; exact h3
  have t3 : l3 ≠ th := fun z => by rw [← z, upd_same] at hth; cases hth
  have t2 : l2 ≠ th := fun z => by rw [← z, upd_ne d23, upd_same] at hth; cases hth
  have t1 : l1 ≠ th := fun z => by rw [← z, upd_ne d13, upd_ne d12, upd_same] at hth; cases hth
  have t0 : l0 ≠ th := fun z => by rw [← z, upd_ne d03, upd_ne d02, upd_ne d01, upd_same] at hth; cases hth
  have hth' : H th = none := by rw [upd_ne t3.symm, upd_ne t2.symm, upd_ne t1.symm, upd_ne t0.symm] at hth; exact hth
  have sS : Same H (upd (upd (upd (upd (upd H l0 (.lst [])) l1 (.lst [])) l2 (.lst [])) l3 (.lst [])) th (.tup [.ref l0, .ref l1, .ref l2, .ref l3])) := same_at hth' (same_at h3' (same_at h2' (same_at h1' (same_new h0 _) _) _) _) _
  have fr : ∀ l ∈ [l0, l1, l2, l3], H l = none := fun l hl => by
    rcases List.mem_cons.mp hl with rfl | hl
    · exact h0
    rcases List.mem_cons.mp hl with rfl | hl
    · exact h1'
    rcases List.mem_cons.mp hl with rfl | hl
    · exact h2'
    · rw [List.mem_singleton.mp hl]; exact h3'
  have hasl : ∀ a ∈ as, ∃ o, H a = some o ∧ ∀ xs, o ≠ .lst xs := fun a ha => by
    obtain ⟨j, hj, ej⟩ := List.mem_iff_getElem.mp ha
    have hjl : j < lns.length := by rw [← hlen]; exact hj
    have hL := hpr j a _ (by rw [List.getElem?_eq_getElem hj, ej]) (List.getElem?_eq_getElem hjl)
    obtain ⟨dx, wl, g1, g2⟩ := hL.ex
    exact ⟨_, g1, fun xs z => nomatch z⟩
  refine ⟨_, rfl, p, rfl, ⟨_, sS.seq hp⟩, for_list (K := K) (a := p) (xs := as.map V.ref) (fun i σ H' => ∃ (k : Nat) (N : List (List Str)) (y4 y5 : Option V), σ = [some (.ref p), some (.int h), some (.ref th), some (.int (k : Int)), y4, y5] ∧ rdAll h lns n0 0 [[], [], [], []] = rdAll h (lns.drop i) (n0 + i) k N ∧
      ThN K H' th [l0, l1, l2, l3] N ∧ (∀ j, (nmsAt N j).length ≤ i) ∧ (∀ (j : Nat) a l, i ≤ j → as[j]? = some a → lns[j]? = some l → LnX CL H' a (n0 + j) l 0) ∧ SameA as H H') ⟨0, [[], [], [], []], none, none, rfl, by rw [List.drop_zero]; simp, ?_, ?_, ?_, SameA.of sS⟩ (fun i σ H' _ hI => ?_) (fun i x σ H1 hx hI => ?_) (fun σ H1 hI => ?_)⟩
  · have nm0 : ∀ i, nmsAt [[], [], [], []] i = [] := fun i => by
      show ([[], [], [], []] : List (List Str)).getD i [] = []
      match i with
      | 0 => rfl
      | 1 => rfl
      | 2 => rfl
      | 3 => rfl
      | i + 4 => rfl
    refine ⟨upd_same, ?_, rfl, rfl, fun i l hl => ?_⟩
    · simp only [List.nodup_cons, List.mem_cons, List.not_mem_nil, or_false, not_or, not_false_iff, List.nodup_nil, and_true]
      exact ⟨⟨d01, d02, d03⟩, ⟨d12, d13⟩, d23⟩
    · rw [nm0 i]
      refine ⟨[], ?_, .nil, Nat.zero_le _, fun y hy => absurd hy List.not_mem_nil⟩
      have hm := List.mem_of_getElem? hl
      rcases List.mem_cons.mp hm with rfl | hm
      · rw [upd_ne t0, upd_ne d03, upd_ne d02, upd_ne d01, upd_same]
      rcases List.mem_cons.mp hm with rfl | hm
      · rw [upd_ne t1, upd_ne d13, upd_ne d12, upd_same]
      rcases List.mem_cons.mp hm with rfl | hm
      · rw [upd_ne t2, upd_ne d23, upd_same]
      · rw [List.mem_singleton.mp hm, upd_ne t3, upd_same]
  · intro j
    match j with
    | 0 => exact Nat.le_refl 0
    | 1 => exact Nat.le_refl 0
    | 2 => exact Nat.le_refl 0
    | 3 => exact Nat.le_refl 0
    | j + 4 => exact Nat.le_refl 0
  · intro j a l _ ha hl
    exact (hpr j a l ha hl).same sS
  · obtain ⟨k, N, y4, y5, rfl, _, _, _, _, hs⟩ := hI
    rcases hp with (hp | ⟨o, hp⟩) | hp
    · exact .inl (.inl (hs _ _ (fun z => by
        obtain ⟨o, e1, e2⟩ := hasl _ z
        rw [hp] at e1
        exact e2 _ (Option.some.inj e1).symm) hp))
    · exact .inl (.inr ⟨o, hs _ _ (fun z => by
        obtain ⟨j, hj, ej⟩ := List.mem_iff_getElem.mp z
        have hjl : j < lns.length := by rw [← hlen]; exact hj
        have hL := hpr j _ _ (by rw [List.getElem?_eq_getElem hj, ej]) (List.getElem?_eq_getElem hjl)
        obtain ⟨dx, wl, g1, g2⟩ := hL.ex
        rw [hp] at g1
        cases g1) hp⟩)
    · exact .inr hp
  · obtain ⟨k, N, y4, y5, rfl, heq, hT, hN, hLs, hs⟩ := hI
    rw [List.getElem?_map] at hx
    cases ha : as[i]? with
    | none => rw [ha] at hx; cases hx
    | some a =>
    rw [ha] at hx
    have ex : V.ref a = x := Option.some.inj hx
    subst ex
    have hmem : a ∈ as := List.mem_of_getElem? ha
    have hi : i < lns.length := by
      rw [← hlen]
      exact (List.getElem?_eq_some_iff.mp ha).1
    have far : ∀ j b, i + 1 ≤ j → as[j]? = some b → b ≠ a := fun j b hj hb z => by
      subst z
      obtain ⟨q1, e1⟩ := List.getElem?_eq_some_iff.mp ha
      obtain ⟨q2, e2⟩ := List.getElem?_eq_some_iff.mp hb
      have := (List.getElem_inj hnd).mp (e1.trans e2.symm)
      omega
    have hws : lns[i]? = some lns[i] := List.getElem?_eq_getElem hi
    have hwne := hne _ (List.getElem_mem hi)
    generalize lns[i] = ws at hws hwne
    have hL := hLs i a ws (Nat.le_refl _) ha hws
    have step : rdAll h (lns.drop i) (n0 + i) k N = (match rdLine h k N ws with | .error e => .error (n0 + i, colW ws e.1, e.2) | .ok s => rdAll h (lns.drop (i + 1)) (n0 + i + 1) s.1 s.2) := by
      obtain ⟨hi2, ei⟩ := List.getElem?_eq_some_iff.mp hws
      rw [List.drop_eq_getElem_cons hi2, ei]
      rfl
    have fltE : ∀ e, rdLine h k N ws = .error e → FltX CF E a H1 (n0 + i) ws e := fun e he d H' s' hd => by
      have z := qe (n0 + i, colW ws e.1, e.2) (by rw [heq, step, he])
      exact z d H' (hs.trans (SameA.ofX s' hmem)) hd
    have E0 : rdLine h k N ws = seq2 (rdSort ws k N) _ := rfl
    refine ⟨_, rfl, _, rfl, _, rfl, a, n0 + i, ws, k, th, [l0, l1, l2, l3], N, rfl, hL, hT, fun e he => fltE e (E0.trans (seq2_err he)), fun i1 hi1 H2 s1 L1 => ?_⟩
    have E1 := E0.trans (seq2_ok hi1)
    have i4 := rdSort_lt hi1
    have hT1 := hT.sx hL s1
    obtain ⟨g, hg1, hg2⟩ := SS i1 i4
    refine ⟨_, rfl, aR, _, _, .ref g, rfl, rfl, T.t_READERS _, atI_nat (by rw [show ([V.ref fS, V.ref fT, V.ref fR, V.ref fP]) = [fS, fT, fR, fP].map V.ref from rfl, List.getElem?_map, hg1]; rfl), ?_⟩
    have hil : i1 < [l0, l1, l2, l3].length := i4
    have hl : [l0, l1, l2, l3][i1]? = some [l0, l1, l2, l3][i1] := List.getElem?_eq_getElem hil
    generalize [l0, l1, l2, l3][i1] = lk at hl
    obtain ⟨xs, ax1, bx, lx100, rf⟩ := hT1.at_ i1 lk hl
    refine ⟨_, rfl, _, rfl, th, _, _, .ref lk, rfl, rfl, SqT.of hT1.tup, atI_nat (by rw [List.getElem?_map, hl]; rfl), .inl ⟨rfl, _, SqL.of ax1⟩, g, _, rfl, hg2, _, rfl, _, rfl, _, rfl, ?_⟩
    refine ⟨a, n0 + i, ws, h, th, _, N, rfl, L1, hT1, hh, fun e he => (fltE e (E1.trans (seq2_err he))).on s1, fun nm hnm b H3 nb s2 L2 o2 => ?_⟩
    have E2 := E1.trans (seq2_ok hnm)
    have hT2 := hT1.sx L1 s2
    obtain ⟨xs2, ax2, bx2, lx2, rf2⟩ := hT2.at_ i1 lk hl
    have lxx := paired_len bx2
    have hNi := hN i1
    refine ⟨lk, xs2, .ref b, rfl, rfl, ax2, small1000 (by omega), ?_⟩
    have L3 := L2.up (o := .lst (xs2 ++ [.ref b])) hwne ax2 rf2
    have s12 := s1.trans s2
    have hlkas : lk ∉ as := fun z => by
      obtain ⟨o, e1, _⟩ := hasl _ z
      rw [fr lk (List.mem_of_getElem? hl)] at e1
      cases e1
    have sA3 : SameA as H (upd H3 lk (.lst (xs2 ++ [.ref b]))) := SameA.new (fr lk (List.mem_of_getElem? hl)) (hs.trans (SameA.ofX s12 hmem))
    obtain ⟨_, _, g5, z5⟩ := LnX.no L3 (m := "finish") (by decide +kernel) (by decide +kernel) (by decide +kernel) (by decide +kernel)
    refine ⟨_, rfl, a, _, _, rfl, g5, z5, a, n0 + i, ws, finK i1 ws, rfl, L3, fun e he d H' s' hd => ?_, fun hfin => ?_⟩
    · have z := qe (n0 + i, colW ws e.1, e.2) (by rw [heq, step, E2.trans (seq2_err he)])
      exact z d H' (sA3.trans (SameA.ofX s' hmem)) hd
    · have E3 := E2.trans (seq2_ok hfin)
      refine ⟨i1, N.set i1 (nmsAt N i1 ++ [nm]), some (.ref a), some (.ref g), rfl, ?_, hT2.push hl ax2 o2 (by omega), fun j => ?_, fun j d l hj hd hl2 => ?_, sA3⟩
      · rw [heq, step, E3]
        have : (n0 + (i : Int) + 1) = n0 + ((i + 1 : Nat) : Int) := by omega
        rw [← this]
      · by_cases c : j = i1
        · subst c
          show ((N.set j _).getD j []).length ≤ _
          rw [List.getD_eq_getElem?_getD, List.getElem?_set_self (by rw [hT.lenN]; exact i4)]
          show (nmsAt N j ++ [nm]).length ≤ _
          rw [List.length_append, List.length_singleton]
          omega
        · have := hN j
          show ((N.set i1 _).getD j []).length ≤ _
          rw [List.getD_eq_getElem?_getD, List.getElem?_set_ne (fun z => c z.symm), ← List.getD_eq_getElem?_getD]
          show (nmsAt N j).length ≤ _
          omega
      · have nd := far j d hj hd
        exact (((hLs j d l (by omega) hd hl2).sx hL nd s1).sx L1 nd s2).up (hne l (List.mem_of_getElem? hl2)) ax2 rf2
  · obtain ⟨k, N, y4, y5, rfl, heq, hT, hN, hLs, hs⟩ := hI
    rw [List.length_map, hlen, List.drop_length] at heq
    exact ⟨_, rfl, q (by rw [heq]; rfl) th _ N H1 hs hT⟩
end
end DP
namespace DP
open PySem PySem.Spec PyProof.Rows L2
/-- a line's words stand as they are -/
structure LnOk (l : List Str) : Prop where
  ne : l ≠ []
  sp : Txt.split (row l) sp = l
  len : (row l).length ≤ 100000
  wl : ∀ w ∈ l, w.length ≤ 40
  sz : l.length ≤ 2000
def rdWorld : List (List Str) → Except Flt Int
  | [] => .error (1, 1, "missing line")
  | l :: rest => match seq2 (rdField l 0 "horizon" 1 500) fun h => seq2 (rdFinish l 2) fun _ => .ok h with
    | .error e => .error (1, colW l e.1, e.2)
    | .ok h => match rdAll h rest 2 0 [[], [], [], []] with
      | .error f => .error f
      | .ok _ => .ok h
def rdText (lns : List (List Str)) (last : Str) : Except Flt Int := if last = Str.empty then rdWorld lns else .error ((lns.length : Int) + 1, (last.length : Int) + 1, "newline expected")
theorem rdField_hi {ws : List Str} {r : Nat} {x : Str} {lo hi m : Int} (h : rdField ws r x lo hi = .ok m) : lo ≤ m ∧ m ≤ hi := by
  unfold rdField at h
  split at h
  · cases h
  · exact (rdNum_at h).2
section
variable {P : Program} {w : World} {K : PySem.W.Frag} {mg : Str → Option Value} {base : Heap} {CL CS CT CR CP CW aS aR fS fT fR fP C CF : Addr}
def spLnInitX (C : Addr) : Sp := fun vs H Q _ => ∃ (x dx : Addr) (n : Int) (ws : List Str), vs = [.ref x, .int n, .str (row ws)] ∧ H x = some (.ins C dx []) ∧ LnOk ws ∧ 0 ≤ n ∧ n < 1000000 ∧
  ∀ H', SameX x H H' → LnX C H' x n ws 0 → Q .non H'
theorem d_Line_initX (T : TxtL K mg C) (A : MAt K C "__init__" "Line.__init__" s_Line___init__ ["self", "number", "row"]) : MDef P w K mg base CX0 1 C "__init__" ["self", "number", "row"] [] (spLnInitX C) := by
  refine A.ok sc_Line___init__ (fun vs H Q E h => ?_) (fun f cdv A outer s H vs Q E hr h => ?_)
  · obtain ⟨x, dx, n, ws, rfl, _⟩ := h
    rfl
  obtain ⟨x, dx, n, ws, rfl, hx, ok, n0, n1, q⟩ := h
  refine ⟨_, pss_cons (ps_fld (pv 0) (pv 1) rfl)
  (pss_cons (ps_fld (pv 0) (pe_split (pv 2) pe_str) rfl)
  (pss_cons (ps_fld (pv 0) pe_int rfl)
  (pss_one (ps_fld (pv 0) pe_int rfl))))
    , ?_⟩
  refine ⟨_, rfl, _, rfl, x, C, dx, _, rfl, hx, T.c_Line.cl, T.n_number, (by show 0 < 1000; decide), ?_⟩
  refine ⟨_, rfl, ⟨_, rfl⟩, _, sp, rfl, rfl, by decide +kernel, Nat.le_trans (Nat.add_le_add_right ok.len 2) (by decide), fun wl hwl => ?_⟩
  have exw : x ≠ wl := fun z => by
    rw [← z, upd_same] at hwl
    cases hwl
  refine ⟨_, rfl, x, C, dx, _, rfl, (upd_ne exw).trans upd_same, T.c_Line.cl, T.n_words, (by repeat (first | refine put_lt0 ?_ | refine put_lt ?_ | (show _ < _; decide))), ?_⟩
  refine ⟨_, rfl, x, C, dx, _, rfl, upd_same, T.c_Line.cl, T.n_read, (by repeat (first | refine put_lt0 ?_ | refine put_lt ?_ | (show _ < _; decide))), ?_⟩
  refine ⟨_, rfl, x, C, dx, _, rfl, upd_same, T.c_Line.cl, T.n_column, (by repeat (first | refine put_lt0 ?_ | refine put_lt ?_ | (show _ < _; decide))), ?_⟩
  have hwl0 : H wl = none := by
    rw [upd_ne exw.symm] at hwl
    exact hwl
  refine q _ (fun b o nb hb => ?_) ⟨⟨dx, wl, ?_, ?_⟩, n0, n1, Nat.zero_le _, ok.wl, ok.sz⟩
  · rw [upd_ne nb, upd_ne nb, upd_ne nb, upd_ne (ne_of_none hb hwl0), upd_ne nb]
    exact hb
  · rw [upd_same]
    unfold lnF
    repeat (first | rw [put_nil] | rw [put_miss (by decide +kernel)])
    rfl
  · rw [upd_ne exw.symm, upd_ne exw.symm, upd_ne exw.symm, upd_same, ok.sp]
def spLinesX (C CF : Addr) : Sp := fun vs H Q E => ∃ (text : Str) (lns : List (List Str)) (last : Str), vs = [.str text] ∧ Txt.split text nl = lns.map row ++ [last] ∧ (∀ l ∈ lns, LnOk l) ∧ lns.length ≤ 100 ∧ text.length ≤ 1000000 ∧ last.length ≤ 100000 ∧
  (last ≠ Str.empty → FltE CF E (Same H) ((lns.length : Int) + 1) ((last.length : Int) + 1) "newline expected") ∧
  (last = Str.empty → ∀ (p : Addr) (as : List Addr) (H' : Hp), Same H H' → H p = none → (∀ a ∈ as, H a = none) → as.Nodup → H' p = some (.lst (as.map V.ref)) → as.length = lns.length → (∀ (j : Nat) a l, as[j]? = some a → lns[j]? = some l → LnX C H' a (1 + j) l 0) → Q (.ref p) H')
set_option maxHeartbeats 8000000 in
theorem d_lines_ofX (T : TxtL K mg C) (TF : TfAt K mg CF) (SP : SupP P) (DI_Line : MDef P w K mg base CX0 1 C "__init__" ["self", "number", "row"] [] (spLnInitX C)) (A : At K mg "lines_of" s_lines_of ["text"]) : DefOk P w K mg base (L2.CX P w) 4 "lines_of" ["text"] (spLinesX C CF) := by
  have B := T.B
  refine A.okX sc_lines_of (fun vs H Q E h => ?_) (fun f cdv A outer s H vs Q E hr h => ?_)
  · obtain ⟨text, lns, last, rfl, _⟩ := h
    rfl
  obtain ⟨text, lns, last, rfl, hsplit, hok, hn, hz, hlast, qe, q⟩ := h
  obtain ⟨fI, fd, i1, i2, ox, bd, F1⟩ := d_TF (w := w) (base := base) (CX := CX0) TF SP
  refine ⟨_, pss_cons (ps_set (i := 1) sc_lines_of.nd rfl (Or.inl rfl) (pe_split (pv 0) pe_str))
  (pss_cons (ps_set (i := 2) sc_lines_of.nd rfl (Or.inl rfl) (pe_bm0 PySem.F.plainAttrs_list PySem.F.slot_list_pop PySem.F.type_list_pop mt_pop (pv 1)))
  (pss_cons (ps_if (pt_cmpR op_ne (pv 2) pe_str (nomark _))
      (pss_one (ps_raise rfl (takes_of rfl rfl rfl rfl) (pmk_oex ox i1 i2 F1 (hr.mono (by omega)) bd .nil pass0 rfl TF.g (pa_cons (pe_op op_add (pe_callB (call_len_seq) (by rfl) B.len (by decide +kernel) (pa_cons (pv 1) pa_nil)) pe_int) (pa_cons (pe_op op_add (pe_callB (call_len_str) (by rfl) B.len (by decide +kernel) (pa_cons (pv 2) pa_nil)) pe_int) (pa_cons pe_str pa_nil))))))
      (pss_nil))
  (pss_one (ps_ret (pe_lc (own := [("number", 3), ("row", 4)])  rfl sc_lines_of.nd (pi_enumS (by rfl) B.enumerate (pa_cons (pv 1) pa_nil) (pk_cons pe_int pk_nil)) (blkOk_by (own := [("number", 3), ("row", 4)]) (N := ["text", "rows", "last", "number", "row"]) (sc := defScope s_lines_of) (by decide +kernel)) (fun _ _ _ _ _ => pg_tupK (K := K) (n := 2) rfl (by rfl) (pgs_cons (pg_name (i := 3) sc_lines_of.nd rfl (Or.inl rfl)) (pgs_cons (pg_name (i := 4) sc_lines_of.nd rfl (Or.inl rfl)) (pgs_nil)))) (fun _ _ _ _ _ => pts_nil) (fun _ _ _ _ _ => (pe_mk DI_Line T.c_Line (hr.mono (by omega)) pass0 (pa_cons (pv 3) (pa_cons (pv 4) pa_nil)))))))))
    , ?_⟩
  refine ⟨_, rfl, ⟨_, rfl⟩, _, nl, rfl, rfl, by decide +kernel, Nat.le_trans (Nat.add_le_add_right hz 2) (by decide), fun rl hrl => ?_⟩
  have e0 : upd H rl (.lst ((Txt.split text nl).map V.str)) = upd H rl (.lst ((lns.map row).map V.str ++ [.str last])) := by
    rw [hsplit, List.map_append]
    rfl
  rw [e0]
  refine ⟨_, rfl, .inl ⟨rfl, _, SqL.of upd_same⟩, rl, _, .str last, rfl, rfl, upd_same, by rw [List.length_append, List.length_singleton, Nat.add_sub_cancel, List.getElem?_append_right (Nat.le_refl _), Nat.sub_self]; rfl, ?_⟩
  rw [upd_upd, List.dropLast_concat]
  refine ⟨_, rfl, rfl, _, rfl, ?_⟩
  have sS : Same H (upd H rl (.lst ((lns.map row).map V.str))) := same_new hrl _
  by_cases hl : last = Str.empty
  · refine iteF' (by rw [decide_eq_true (show V.str last = V.str (Str.ofString "") by rw [hl]; exact congrArg V.str (by decide +kernel))]; rfl) ?_
    refine ⟨_, rfl, _, _, 1, rfl, rfl, SqL.of upd_same, by decide, by decide, fun D hD => ?_⟩
    have hrlD : rl ≠ D := fun z => by
      rw [← z, upd_same] at hD
      cases hD
    have hD0 : H D = none := by
      rw [upd_ne hrlD.symm] at hD
      exact hD
    refine lc_it (walk_enumS (xs := (lns.map row).map V.str)) (fun i H' => ∃ as : List Addr, as.length = i ∧ H' D = some (.lst (as.map V.ref)) ∧ Same (upd H rl (.lst ((lns.map row).map V.str))) H' ∧ (∀ a ∈ as, H a = none) ∧ as.Nodup ∧ ∀ (j : Nat) a l, as[j]? = some a → lns[j]? = some l → LnX C H' a (1 + j) l 0)
      ⟨[], rfl, upd_same, same_new hD _, fun _ z => absurd z List.not_mem_nil, List.nodup_nil, fun j a l z => by simp at z⟩ (fun i H1 _ ⟨as, _, _, z, _⟩ => z.seq (SqL.of upd_same)) (fun i x H1 H2 hi hI hy => ?_) (fun H1 hI => ?_)
    · obtain ⟨T', x2, rfl, hT', rfl, hx2⟩ := hy
      obtain ⟨as, ha, hDD, hs, hfr, hnd, hpr⟩ := hI
      have hi' : i < lns.length := by
        rw [List.length_map, List.length_map] at hi
        exact hi
      have ex2 : x2 = .str (row lns[i]) := by
        rw [List.getElem?_map, List.getElem?_map, List.getElem?_eq_getElem hi'] at hx2
        exact (Option.some.inj hx2).symm
      subst ex2
      have hok' := hok _ (List.getElem_mem hi')
      have s12 := same_new hT' (.tup [.int (1 + (i : Int)), .str (row lns[i])])
      refine ⟨T', _, rfl, SqT.of upd_same, rfl, _, _, rfl, _, _, rfl, rfl, rfl, _, rfl, _, rfl, fun x dx hx hdx ne => ?_⟩
      refine ⟨x, dx, _, lns[i], rfl, upd_same, hok', by omega, by omega, fun H3 s3 L3 => ⟨rfl, ?_⟩⟩
      have s13 : Same H1 H3 := s12.trans (same_mk hx hdx s3)
      have hxH : H x = none := (sS.trans (hs.trans s12)).free hx
      refine ⟨_, s13 _ _ hDD, by rw [List.length_map, ha]; exact small1000 (by omega), as ++ [x], by rw [List.length_append, ha, List.length_singleton], by rw [upd_same, List.map_append]; rfl, same_at hD (hs.trans s13) _, ?_, ?_, ?_⟩
      · intro a hma
        rcases List.mem_append.mp hma with hma | hma
        · exact hfr a hma
        · rw [List.mem_singleton.mp hma]; exact hxH
      · refine List.nodup_append.mpr ⟨hnd, List.pairwise_singleton _ _, fun a hma b hmb z => ?_⟩
        rw [List.mem_singleton.mp hmb] at z
        subst z
        obtain ⟨j, hj, ej⟩ := List.mem_iff_getElem.mp hma
        have hjl : j < lns.length := by omega
        have hla := hpr j a _ (by rw [List.getElem?_eq_getElem hj, ej]) (List.getElem?_eq_getElem hjl)
        obtain ⟨d1, d2, g1, _⟩ := hla.ex
        rw [(s12 _ _ g1)] at hx
        cases hx
      · have upL : ∀ {a : Addr} {m : Int} {l : List Str}, l ≠ [] → LnX C H3 a m l 0 → LnX C (upd H3 D (.lst (as.map V.ref ++ [.ref x]))) a m l 0 := fun {a m l} hne h => by
          obtain ⟨d1, d3, g1, g2⟩ := h.ex
          have gD := s13 _ _ hDD
          refine ⟨⟨d1, d3, by rw [upd_ne (ne_of g1 gD (fun z => nomatch z))]; exact g1, ?_⟩, h.n0, h.n1, h.le, h.wl, h.sz⟩
          have n2 : d3 ≠ D := fun z => by
            rw [z, gD] at g2
            injection g2 with g2
            injection g2 with g2
            cases l with
            | nil => exact hne rfl
            | cons b bs => cases as with
              | nil => cases g2
              | cons c cs => cases g2
          rw [upd_ne n2]
          exact g2
        intro j a l hj hlj
        have hlne := (hok l (List.mem_of_getElem? hlj)).ne
        by_cases c : j < as.length
        · rw [List.getElem?_append_left c] at hj
          exact upL hlne ((hpr j a l hj hlj).same s13)
        · have cj : j = i := by
            have := (List.getElem?_eq_some_iff.mp hj).1
            rw [List.length_append, List.length_singleton] at this
            omega
          subst cj
          rw [List.getElem?_append_right (by omega), ha, Nat.sub_self] at hj
          have ex : x = a := Option.some.inj hj
          subst ex
          rw [List.getElem?_eq_getElem hi'] at hlj
          cases hlj
          exact upL hlne L3
    · obtain ⟨as, ha, hDD, hs, hfr, hnd, hpr⟩ := hI
      rw [List.length_map, List.length_map] at ha
      exact q hl D as H1 (sS.trans hs) hD0 hfr hnd hDD ha hpr
  · refine iteT' (by rw [decide_eq_false (show ¬ V.str last = V.str (Str.ofString "") from fun z => hl ((V.str.inj z).trans (by decide +kernel)))]; rfl) ?_
    refine ⟨_, rfl, rl, _, rfl, .inl (SqL.of upd_same), _, _, rfl, rfl, _, rfl, _, rfl, Nat.le_trans hlast (by decide), _, _, rfl, rfl, (by show 3 ≤ 1000; decide), fun x hx => ?_⟩
    rw [List.length_map, List.length_map]
    refine ⟨x, _, _, _, rfl, upd_same, by omega, by omega, by omega, by omega, by decide +kernel, fun d hd dne => ?_⟩
    have hdH : upd H rl (.lst ((lns.map row).map V.str)) d = none := by rw [upd_ne dne] at hd; exact hd
    refine ⟨rfl, d, _, (upd_ne (Ne.symm dne)).trans ((upd_ne (Ne.symm dne)).trans upd_same), upd_same, hdH, qe hl d _ (fun b o hb => ?_) upd_same⟩
    have hb1 := sS _ _ hb
    have b1 : b ≠ x := ne_of_none hb1 hx
    have b2 : b ≠ d := ne_of_none hb1 hdH
    rw [upd_ne b2, del_ne b1, upd_ne b2, upd_ne b2, upd_ne b1, upd_ne b2, upd_ne b1]
    exact hb1
end
end DP
namespace DP
open PySem PySem.Spec PyProof.Rows L2
section
variable {P : Program} {w : World} {K : PySem.W.Frag} {mg : Str → Option Value} {base : Heap} {CL CS CT CR CP CW aS aR fS fT fR fP C CF : Addr}
def spWInitX (K : PySem.W.Frag) (CW : Addr) : Sp := fun vs H Q _ => ∃ (x dx : Addr) (text : Str) (h : Int) (th : Addr) (ls : List Addr) (N : List (List Str)), vs = [.ref x, .str text, .int h, .ref th] ∧ H x = some (.ins CW dx []) ∧ ThN K H th ls N ∧
  ∀ H' t0 t1 t2 t3, SameX x H H' → H' x = some (.ins CW dx (worF text h t0 t1 t2 t3)) → Q .non H'
theorem dI_WorldX (T : TxtW K mg CL CS CT CR CP CW aS aR fS fT fR fP) (A : MAt K CW "__init__" "World.__init__" s_World___init__ ["self", "text", "horizon", "things"]) : MDef P w K mg base CX0 1 CW "__init__" ["self", "text", "horizon", "things"] [] (spWInitX K CW) := by
  have B := T.L.B
  refine A.ok sc_World___init__ (fun vs H Q E h => ?_) (fun f cdv A outer s H vs Q E hr h => ?_)
  · obtain ⟨x, dx, text, h, th, ls, N, rfl, _⟩ := h
    rfl
  obtain ⟨x, dx, text, h, th, ls, N, rfl, hx, hT, q⟩ := h
  obtain ⟨l0, l1, l2, l3, rfl⟩ : ∃ l0 l1 l2 l3, ls = [l0, l1, l2, l3] := by
    have hl := hT.len
    match ls, hl with
    | [a, b, c, d], _ => exact ⟨a, b, c, d, rfl⟩
  refine ⟨_, pss_cons (ps_asg (pv 3) (pg_tup (by rfl) (pgs_cons (pg_name (i := 4) sc_World___init__.nd rfl (Or.inl rfl)) (pgs_cons (pg_name (i := 5) sc_World___init__.nd rfl (Or.inl rfl)) (pgs_cons (pg_name (i := 6) sc_World___init__.nd rfl (Or.inl rfl)) (pgs_cons (pg_name (i := 7) sc_World___init__.nd rfl (Or.inl rfl)) (pgs_nil)))))))
  (pss_cons (ps_fld (pv 0) (pv 1) rfl)
  (pss_cons (ps_fld (pv 0) (pv 2) rfl)
  (pss_cons (ps_fld (pv 0) (pe_callTy (call_tuple_of) (by rfl) B.tuple (by decide +kernel) (pa_cons (pv 4) pa_nil)) rfl)
  (pss_cons (ps_fld (pv 0) (pe_callTy (call_tuple_of) (by rfl) B.tuple (by decide +kernel) (pa_cons (pv 5) pa_nil)) rfl)
  (pss_cons (ps_fld (pv 0) (pe_callTy (call_tuple_of) (by rfl) B.tuple (by decide +kernel) (pa_cons (pv 6) pa_nil)) rfl)
  (pss_one (ps_fld (pv 0) (pe_callTy (call_tuple_of) (by rfl) B.tuple (by decide +kernel) (pa_cons (pv 7) pa_nil)) rfl)))))))
    , ?_⟩
  have cl := T.c_World.cl
  have lst : ∀ i l, ([l0, l1, l2, l3])[i]? = some l → ∃ xs, H l = some (.lst xs) ∧ l ≠ x := fun i l hl => by
    obtain ⟨xs, a1, _⟩ := hT.at_ i l hl
    exact ⟨xs, a1, ne_of a1 hx (fun z => nomatch z)⟩
  obtain ⟨x0, a0, n0⟩ := lst 0 l0 rfl
  obtain ⟨x1, a1, n1⟩ := lst 1 l1 rfl
  obtain ⟨x2, a2, n2⟩ := lst 2 l2 rfl
  obtain ⟨x3, a3, n3⟩ := lst 3 l3 rfl
  refine ⟨_, rfl, th, _, rfl, SqT.of hT.tup, rfl, _, _, rfl, _, _, rfl, _, _, rfl, _, _, rfl, rfl, ?_⟩
  refine ⟨_, rfl, _, rfl, x, CW, dx, _, rfl, hx, cl, T.n_World_text, (by show 0 < 1000; decide), ?_⟩
  rw [put_nil]
  refine ⟨_, rfl, _, rfl, x, CW, dx, _, rfl, upd_same, cl, T.n_World_horizon, (by show 1 < 1000; decide), ?_⟩
  rw [upd_upd, put_miss (by decide +kernel), put_nil]
  have z1 : SameX x H (upd H x (.ins CW dx [("text", .str text), ("horizon", .int h)])) := SameX.upd
  refine ⟨_, rfl, l0, x0, rfl, .inl ⟨SqL.of (z1 _ _ n0 a0), fun t0 ht0 => ?_⟩⟩
  have e0 : x ≠ t0 := fun z => by rw [← z, upd_same] at ht0; cases ht0
  refine ⟨_, rfl, x, CW, dx, _, rfl, (upd_ne e0).trans upd_same, cl, T.n_World_satellites, (by show 2 < 1000; decide), ?_⟩
  rw [put_miss (by decide +kernel), put_miss (by decide +kernel), put_nil]
  have z2 : SameX x H (upd (upd (upd H x (.ins CW dx [("text", .str text), ("horizon", .int h)])) t0 (.tup x0)) x (.ins CW dx [("text", .str text), ("horizon", .int h), ("satellites", .ref t0)])) := (z1.trans (SameX.of (same_new ht0 _))).trans SameX.upd
  generalize hH2 : (upd (upd (upd H x (.ins CW dx [("text", .str text), ("horizon", .int h)])) t0 (.tup x0)) x (.ins CW dx [("text", .str text), ("horizon", .int h), ("satellites", .ref t0)])) = H2 at z2
  have g2 : H2 x = some (.ins CW dx [("text", .str text), ("horizon", .int h), ("satellites", .ref t0)]) := by rw [← hH2, upd_same]
  refine ⟨_, rfl, l1, x1, rfl, .inl ⟨SqL.of (z2 _ _ n1 a1), fun t1 ht1 => ?_⟩⟩
  have e1 : x ≠ t1 := ne_of_none g2 ht1
  refine ⟨_, rfl, x, CW, dx, _, rfl, (upd_ne e1).trans g2, cl, T.n_World_stations, (by show 3 < 1000; decide), ?_⟩
  rw [put_miss (by decide +kernel), put_miss (by decide +kernel), put_miss (by decide +kernel), put_nil]
  have z3 : SameX x H (upd (upd H2 t1 (.tup x1)) x (.ins CW dx [("text", .str text), ("horizon", .int h), ("satellites", .ref t0), ("stations", .ref t1)])) := z2.trans ((SameX.of (same_new ht1 _)).trans SameX.upd)
  generalize hH3 : (upd (upd H2 t1 (.tup x1)) x (.ins CW dx [("text", .str text), ("horizon", .int h), ("satellites", .ref t0), ("stations", .ref t1)])) = H3 at z3
  have g3 : H3 x = some (.ins CW dx [("text", .str text), ("horizon", .int h), ("satellites", .ref t0), ("stations", .ref t1)]) := by rw [← hH3, upd_same]
  refine ⟨_, rfl, l2, x2, rfl, .inl ⟨SqL.of (z3 _ _ n2 a2), fun t2 ht2 => ?_⟩⟩
  have e2 : x ≠ t2 := ne_of_none g3 ht2
  refine ⟨_, rfl, x, CW, dx, _, rfl, (upd_ne e2).trans g3, cl, T.n_World_recordings, (by show 4 < 1000; decide), ?_⟩
  rw [put_miss (by decide +kernel), put_miss (by decide +kernel), put_miss (by decide +kernel), put_miss (by decide +kernel), put_nil]
  have z4 : SameX x H (upd (upd H3 t2 (.tup x2)) x (.ins CW dx [("text", .str text), ("horizon", .int h), ("satellites", .ref t0), ("stations", .ref t1), ("recordings", .ref t2)])) := z3.trans ((SameX.of (same_new ht2 _)).trans SameX.upd)
  generalize hH4 : (upd (upd H3 t2 (.tup x2)) x (.ins CW dx [("text", .str text), ("horizon", .int h), ("satellites", .ref t0), ("stations", .ref t1), ("recordings", .ref t2)])) = H4 at z4
  have g4 : H4 x = some (.ins CW dx [("text", .str text), ("horizon", .int h), ("satellites", .ref t0), ("stations", .ref t1), ("recordings", .ref t2)]) := by rw [← hH4, upd_same]
  refine ⟨_, rfl, l3, x3, rfl, .inl ⟨SqL.of (z4 _ _ n3 a3), fun t3 ht3 => ?_⟩⟩
  have e3 : x ≠ t3 := ne_of_none g4 ht3
  refine ⟨_, rfl, x, CW, dx, _, rfl, (upd_ne e3).trans g4, cl, T.n_World_passes, (by show 5 < 1000; decide), ?_⟩
  rw [put_miss (by decide +kernel), put_miss (by decide +kernel), put_miss (by decide +kernel), put_miss (by decide +kernel), put_miss (by decide +kernel), put_nil]
  exact q _ t0 t1 t2 t3 (z4.trans ((SameX.of (same_new ht3 _)).trans SameX.upd)) upd_same
theorem SAt.okX {m qual : Str} {st : Stmt} {ps N : List Str} {k : Nat} {sp : Sp} (F : SAt K C m qual st ps) (S : FnScope N ps (defScope st)) (len : ∀ vs H Q E, sp vs H Q E → vs.length = ps.length)
    (hbody : ∀ (f : Addr) (cdv : Value) (A : Around) (outer : List Env) (s : Shared) (H : Hp) (vs : List V) (Q : VK) (E : XK), Room k (A.deeper (envOfC qual (defScope st) s.heap.objs.size f cdv)) → sp vs H Q E →
      ∃ t, PSs (cxOf (L2.CX P w) P w K mg base N qual (defScope st) f cdv A outer s H E) (defBody st) t ∧ t { nx := fun _ H' => Q .non H', rt := Q } (start N vs) H) : SDef P w K mg base (L2.CX P w) (k + 1) C m ps sp := by
  obtain ⟨f, fd, G, M, b⟩ := F.ex
  exact ⟨f, fd, G.okX S len (fun cdv A outer s H vs Q E hr h => hbody f cdv A outer s H vs Q E hr h), M, G.kp, b⟩
def spParseX (K : PySem.W.Frag) (CW CF : Addr) : Sp := fun vs H Q E => ∃ (text : Str) (lns : List (List Str)) (last : Str), vs = [.str text] ∧ Txt.split text nl = lns.map row ++ [last] ∧ (∀ l ∈ lns, LnOk l) ∧ lns.length ≤ 100 ∧ text.length ≤ 1000000 ∧ last.length ≤ 100000 ∧
  (∀ f, rdText lns last = .error f → FltE CF E (Same H) f.1 f.2.1 f.2.2) ∧ (∀ h, rdText lns last = .ok h → ∀ a dx t0 t1 t2 t3 H', H a = none → Same H H' → H' a = some (.ins CW dx (worF text h t0 t1 t2 t3)) → Q (.ref a) H')
theorem d_parseX (T : TxtW K mg CL CS CT CR CP CW aS aR fS fT fR fP) (TF : TfAt K mg CF) (SP : SupP P) (D_lines_of : DefOk P w K mg base (L2.CX P w) 4 "lines_of" ["text"] (spLinesX CL CF)) (D_Line_read_field : MDef P w K mg base (L2.CX P w) 6 CL "read_field" ["self", "word", "least", "most"] [] (spFieldX CL CF))
    (D_Line_finish : MDef P w K mg base (L2.CX P w) 5 CL "finish" ["self"] [] (spFinishX CL CF)) (D_read_things : DefOk P w K mg base (L2.CX P w) 8 "read_things" ["lines", "horizon"] (spThingsX K CL CF))
    (DI_World : MDef P w K mg base (L2.CX P w) 1 CW "__init__" ["self", "text", "horizon", "things"] [] (spWInitX K CW)) (A : SAt K CW "parse" "World.parse" s_World_parse ["text"]) : SDef P w K mg base (L2.CX P w) 9 CW "parse" ["text"] (spParseX K CW CF) := by
  have B := T.L.B
  refine A.okX sc_World_parse (fun vs H Q E h => ?_) (fun f cdv A outer s H vs Q E hr h => ?_)
  · obtain ⟨text, lns, last, rfl, _⟩ := h
    rfl
  obtain ⟨text, lns, last, rfl, hsp, hok, hn, hz, hla, qe, q⟩ := h
  obtain ⟨fI, fd, i1, i2, ox, bd, F1⟩ := d_TF (w := w) (base := base) (CX := CX0) TF SP
  refine ⟨_, pss_cons (ps_set (i := 1) sc_World_parse.nd rfl (Or.inl rfl) (pe_f D_lines_of (hr.mono (by omega)) (passOut rfl rfl rfl rfl) (pa_cons (pv 0) pa_nil)))
  (pss_cons (ps_if (pt_cmpR op_eq (pe_callB (call_len_seq) (by rfl) B.len (by decide +kernel) (pa_cons (pv 1) pa_nil)) pe_int (nomark _))
      (pss_one (ps_raise rfl (takes_of rfl rfl rfl rfl) (pmk_oex ox i1 i2 F1 (hr.mono (by omega)) bd .nil pass0 rfl TF.g (pa_cons pe_int (pa_cons pe_int (pa_cons pe_str pa_nil))))))
      (pss_nil))
  (pss_cons (ps_set (i := 2) sc_World_parse.nd rfl (Or.inl rfl) (pe_m D_Line_read_field T.c_Line.cl (hr.mono (by omega)) (passOut rfl rfl rfl rfl) (pe_ix ix_list (pv 1) pe_int (fun _ _ => rfl)) (pa_cons pe_str (pa_cons pe_int (pa_cons (ClX.pe_cval (pe_ga T.c_World.gC) rfl) pa_nil)))))
  (pss_cons (ps_expr (pe_m0 D_Line_finish T.c_Line.cl (hr.mono (by omega)) (passOut rfl rfl rfl rfl) (pe_ix ix_list (pv 1) pe_int (fun _ _ => rfl))))
  (pss_one (ps_ret (pe_mk DI_World T.c_World (hr.mono (by omega)) (passOut rfl rfl rfl rfl) (pa_cons (pv 0) (pa_cons (pv 2) (pa_cons (pe_f D_read_things (hr.mono (by omega)) (passOut rfl rfl rfl rfl) (pa_cons (pe_slice sl_list (pv 1) (po_some pe_int) po_none) (pa_cons (pv 2) pa_nil))) pa_nil)))))))))
    , ?_⟩
  refine ⟨_, rfl, text, lns, last, rfl, hsp, hok, hn, hz, hla, fun hne => qe ((lns.length : Int) + 1, (last.length : Int) + 1, "newline expected") (by unfold rdText; rw [if_neg hne]), fun hl p as H1 s1 hp hfr hnd hpp hlen hpr => ?_⟩
  have hT0 : rdText lns last = rdWorld lns := by unfold rdText; rw [if_pos hl]
  rw [hT0] at qe q
  cases lns with
  | nil =>
    have has : as = [] := List.eq_nil_of_length_eq_zero hlen
    subst has
    refine ⟨_, rfl, p, _, rfl, .inl (SqL.of hpp), rfl, _, rfl, iteT' (by decide) ?_⟩
    refine ⟨(by show 3 ≤ 1000; decide), fun x hx => ?_⟩
    refine ⟨x, 1, 1, _, rfl, upd_same, by decide, by decide, by decide, by decide, by decide +kernel, fun d hd dne => ?_⟩
    have hdH : H1 d = none := by rw [upd_ne dne] at hd; exact hd
    refine ⟨rfl, d, _, (upd_ne (Ne.symm dne)).trans ((upd_ne (Ne.symm dne)).trans upd_same), upd_same, hdH, qe (_, _, _) rfl d _ (fun b o hb => ?_) upd_same⟩
    have hb1 := s1 _ _ hb
    have b1 : b ≠ x := ne_of_none hb1 hx
    have b2 : b ≠ d := ne_of_none hb1 hdH
    rw [upd_ne b2, del_ne b1, upd_ne b2, upd_ne b2, upd_ne b1, upd_ne b2, upd_ne b1]
    exact hb1
  | cons l rest =>
  obtain ⟨a0, ar, rfl⟩ : ∃ a0 ar, as = a0 :: ar := by
    cases as with
    | nil => simp at hlen
    | cons a0 ar => exact ⟨_, _, rfl⟩
  have L0 := hpr 0 a0 l rfl rfl
  rw [show (1 + ((0 : Nat) : Int)) = 1 by omega] at L0
  have hl0 : a0 ≠ p := by
    obtain ⟨dx, wl, g1, g2⟩ := L0.ex
    exact ne_of g1 hpp (fun z => nomatch z)
  have hW : rdWorld (l :: rest) = (match seq2 (rdField l 0 "horizon" 1 500) fun h => seq2 (rdFinish l 2) fun _ => .ok h with
    | .error e => .error (1, colW l e.1, e.2)
    | .ok h => match rdAll h rest 2 0 [[], [], [], []] with
      | .error f => .error f
      | .ok _ => .ok h) := rfl
  refine ⟨_, rfl, p, _, rfl, .inl (SqL.of hpp), rfl, _, rfl, iteF' (decide_eq_false fun z => by
    have z2 := V.int.inj z
    rw [List.length_map, List.length_cons] at z2
    omega) ?_⟩
  obtain ⟨tk, hv⟩ := T.v_MOST_HORIZON
  have flt : ∀ {H2 : Hp}, SameX a0 H1 H2 → ∀ e, (seq2 (rdField l 0 "horizon" 1 500) fun h => seq2 (rdFinish l 2) fun _ => .ok h) = .error e → FltX CF E a0 H2 1 l e := fun {H2} s2 e he d H3 s3 hd => by
    refine qe (1, colW l e.1, e.2) (by rw [hW, he]) d H3 (fun b o hb => ?_) hd
    have n0 : b ≠ a0 := ne_of_none hb (hfr a0 List.mem_cons_self)
    exact s3 b o n0 (s2 b o n0 (s1 b o hb))
  obtain ⟨_, _, g0, z0⟩ := LnX.no L0 (m := "read_field") (by decide +kernel) (by decide +kernel) (by decide +kernel) (by decide +kernel)
  refine ⟨_, rfl, p, _, _, .ref a0, rfl, rfl, SqL.of hpp, atI_nat (j := 0) rfl, a0, _, _, rfl, g0, z0, CW, _, _, _, rfl, T.rdW, hv, a0, 1, l, 0, _, 1, 500, rfl, L0, fun e he => flt (SameX.of (Same.refl _)) e (seq2_err he), fun h hh H2 s2 L2 => ?_⟩
  have hpp2 := s2 _ _ hl0.symm hpp
  obtain ⟨hlo, hhi⟩ := rdField_hi hh
  obtain ⟨_, _, g1, z1⟩ := LnX.no L2 (m := "finish") (by decide +kernel) (by decide +kernel) (by decide +kernel) (by decide +kernel)
  refine ⟨_, rfl, p, _, _, .ref a0, rfl, rfl, SqL.of hpp2, atI_nat (j := 0) rfl, a0, _, _, rfl, g1, z1, a0, 1, l, 2, rfl, L2, fun e he => flt s2 e ((seq2_ok hh).trans (seq2_err he)), fun hfin => ?_⟩
  have hW2 : rdWorld (l :: rest) = (match rdAll h rest 2 0 [[], [], [], []] with | .error f => .error f | .ok _ => .ok h) := by rw [hW, seq2_ok hh, seq2_ok hfin]
  have sl : cutV ((a0 :: ar).map V.ref) (some 1) none = ar.map V.ref := by
    unfold cutV
    rw [show HT.sIx ((a0 :: ar).map V.ref).length 0 (some 1) = min 1 ((a0 :: ar).map V.ref).length from HT.sIx_nat _ 0 1, HT.sIx_none]
    rw [List.map_cons, List.length_cons, show min 1 ((ar.map V.ref).length + 1) = 1 by omega]
    show List.take ((ar.map V.ref).length + 1 - 1) (ar.map V.ref) = ar.map V.ref
    rw [Nat.add_sub_cancel, List.take_length]
  refine ⟨_, rfl, _, rfl, _, rfl, 1, rfl, p, _, rfl, SqL.of hpp2, fun p2 hp2 => ?_⟩
  rw [sl]
  have nd2 := List.nodup_cons.mp hnd
  rw [List.length_cons, List.length_cons] at hlen
  rw [List.length_cons] at hn
  have all : ∀ {H3 : Hp}, SameA ar (upd H2 p2 (.lst (ar.map V.ref))) H3 → Same H H3 := fun {H3} s3 b o e => by
    have n0 : b ≠ a0 := ne_of_none e (hfr a0 List.mem_cons_self)
    refine s3 b o (fun z => ?_) (same_new hp2 _ b o (s2 b o n0 (s1 b o e)))
    exact ne_of_none e (hfr b (List.mem_cons_of_mem _ z)) rfl
  refine ⟨_, rfl, p2, ar, h, 2, rest, rfl, SqL.of upd_same, nd2.2, hhi, by omega, by omega, fun l' hl' => (hok l' (List.mem_cons_of_mem _ hl')).ne, fun j a l' ha hl' => ?_, fun f hf d H3 s3 hd => ?_, fun hall th ls N H3 s3 hT => ?_⟩
  · have hj := hpr (j + 1) a l' ha hl'
    rw [show (1 + ((j + 1 : Nat) : Int)) = 2 + (j : Int) by omega] at hj
    exact (hj.sx L0 (fun z => nd2.1 (z ▸ List.mem_of_getElem? ha)) s2).same (same_new hp2 _)
  · exact qe f (by rw [hW2, hf]) d H3 (all s3) hd
  refine fun x dx hx hdx ne => ?_
  have sm : Same H3 (upd (upd H3 dx (.own x)) x (.ins CW dx [])) := fun b o e => by
    rw [upd_ne (ne_of_none e hx), upd_ne (ne_of_none e hdx)]
    exact e
  refine ⟨x, dx, text, h, th, ls, N, rfl, upd_same, hT.same sm, fun H4 t0 t1 t2 t3 s4 hx4 => ⟨rfl, ?_⟩⟩
  have a3 := all s3
  refine q h (by rw [hW2, hall]) x dx t0 t1 t2 t3 H4 (a3.free hx) (fun b o e => ?_) hx4
  have e3 := a3 b o e
  exact s4 b o (ne_of_none e3 hx) (sm b o e3)
end
end DP
namespace DP
open PySem PySem.Spec PyProof.Rows L2
structure PF (K : PySem.W.Frag) (mg : Str → Option Value) (CL CS CT CR CP CW : Addr) : Prop where
  p_names_of : At K mg "names_of" s_names_of ["things"]
  p_read_light : At K mg "read_light" s_read_light ["line", "horizon"]
  p_read_satellite : At K mg "read_satellite" s_read_satellite ["line", "horizon", "things"]
  p_read_station : At K mg "read_station" s_read_station ["line", "_", "things"]
  p_read_recording : At K mg "read_recording" s_read_recording ["line", "horizon", "things"]
  p_read_pass : At K mg "read_pass" s_read_pass ["line", "horizon", "things"]
  p_most_things : At K mg "most_things" s_most_things ["sort"]
  p_read_sort : At K mg "read_sort" s_read_sort ["line", "ahead", "things"]
  p_read_things : At K mg "read_things" s_read_things ["lines", "horizon"]
  p_lines_of : At K mg "lines_of" s_lines_of ["text"]
  p_is_name : At K mg "is_name" s_is_name ["word"]
  p_is_number : At K mg "is_number" s_is_number ["word"]
  p_Line___init__ : MAt K CL "__init__" "Line.__init__" s_Line___init__ ["self", "number", "row"]
  p_Line_has_more : MAt K CL "has_more" "Line.has_more" s_Line_has_more ["self"]
  p_Line_due : MAt K CL "due" "Line.due" s_Line_due ["self"]
  p_Line_step : MAt K CL "step" "Line.step" s_Line_step ["self"]
  p_Line_read_choice : MAt K CL "read_choice" "Line.read_choice" s_Line_read_choice ["self", "choices"]
  p_Line_read_number : MAt K CL "read_number" "Line.read_number" s_Line_read_number ["self", "least", "most"]
  p_Line_read_field : MAt K CL "read_field" "Line.read_field" s_Line_read_field ["self", "word", "least", "most"]
  p_Line_due_name : MAt K CL "due_name" "Line.due_name" s_Line_due_name ["self"]
  p_Line_read_new_name : MAt K CL "read_new_name" "Line.read_new_name" s_Line_read_new_name ["self", "used"]
  p_Line_read_known_name : MAtD K CL "read_known_name" "Line.read_known_name" s_Line_read_known_name ["self", "names", "least"] [.int 0]
  p_Line_finish : MAt K CL "finish" "Line.finish" s_Line_finish ["self"]
  p_Satellite___init__ : MAt K CS "__init__" "Satellite.__init__" s_Satellite___init__ ["self", "name", "store", "battery", "start_level", "reserve", "charge", "settle", "light"]
  p_Station___init__ : MAt K CT "__init__" "Station.__init__" s_Station___init__ ["self", "name", "antennas", "turn"]
  p_Recording___init__ : MAt K CR "__init__" "Recording.__init__" s_Recording___init__ ["self", "name", "satellite", "earliest", "latest", "length", "size", "energy", "worth", "rank", "deadline"]
  p_Pass___init__ : MAt K CP "__init__" "Pass.__init__" s_Pass___init__ ["self", "name", "satellite", "station", "span", "room", "energy", "fee"]
  p_World___init__ : MAt K CW "__init__" "World.__init__" s_World___init__ ["self", "text", "horizon", "things"]
  p_World_parse : SAt K CW "parse" "World.parse" s_World_parse ["text"]
theorem hb_names_of : ∀ (kV doc pm : Value) (an : Option Addr) (cdv ct : Value) (us : List Value), us.length = (["things"] : List Str).length → bindArgs (PySem.W.fnOf "names_of" "names_of" (defArgs s_names_of) (defBody s_names_of) (defScope s_names_of) .none kV doc pm an cdv ct) ⟨us, []⟩ = pure ((["things"] : List Str).zip us) :=
  fun _ _ _ _ _ _ us hl => match us, hl with | [_], _ => rfl
theorem hb_read_light : ∀ (kV doc pm : Value) (an : Option Addr) (cdv ct : Value) (us : List Value), us.length = (["line", "horizon"] : List Str).length → bindArgs (PySem.W.fnOf "read_light" "read_light" (defArgs s_read_light) (defBody s_read_light) (defScope s_read_light) .none kV doc pm an cdv ct) ⟨us, []⟩ = pure ((["line", "horizon"] : List Str).zip us) :=
  fun _ _ _ _ _ _ us hl => match us, hl with | [_, _], _ => rfl
theorem hb_read_satellite : ∀ (kV doc pm : Value) (an : Option Addr) (cdv ct : Value) (us : List Value), us.length = (["line", "horizon", "things"] : List Str).length → bindArgs (PySem.W.fnOf "read_satellite" "read_satellite" (defArgs s_read_satellite) (defBody s_read_satellite) (defScope s_read_satellite) .none kV doc pm an cdv ct) ⟨us, []⟩ = pure ((["line", "horizon", "things"] : List Str).zip us) :=
  fun _ _ _ _ _ _ us hl => match us, hl with | [_, _, _], _ => rfl
theorem hb_read_station : ∀ (kV doc pm : Value) (an : Option Addr) (cdv ct : Value) (us : List Value), us.length = (["line", "_", "things"] : List Str).length → bindArgs (PySem.W.fnOf "read_station" "read_station" (defArgs s_read_station) (defBody s_read_station) (defScope s_read_station) .none kV doc pm an cdv ct) ⟨us, []⟩ = pure ((["line", "_", "things"] : List Str).zip us) :=
  fun _ _ _ _ _ _ us hl => match us, hl with | [_, _, _], _ => rfl
theorem hb_read_recording : ∀ (kV doc pm : Value) (an : Option Addr) (cdv ct : Value) (us : List Value), us.length = (["line", "horizon", "things"] : List Str).length → bindArgs (PySem.W.fnOf "read_recording" "read_recording" (defArgs s_read_recording) (defBody s_read_recording) (defScope s_read_recording) .none kV doc pm an cdv ct) ⟨us, []⟩ = pure ((["line", "horizon", "things"] : List Str).zip us) :=
  fun _ _ _ _ _ _ us hl => match us, hl with | [_, _, _], _ => rfl
theorem hb_read_pass : ∀ (kV doc pm : Value) (an : Option Addr) (cdv ct : Value) (us : List Value), us.length = (["line", "horizon", "things"] : List Str).length → bindArgs (PySem.W.fnOf "read_pass" "read_pass" (defArgs s_read_pass) (defBody s_read_pass) (defScope s_read_pass) .none kV doc pm an cdv ct) ⟨us, []⟩ = pure ((["line", "horizon", "things"] : List Str).zip us) :=
  fun _ _ _ _ _ _ us hl => match us, hl with | [_, _, _], _ => rfl
theorem hb_most_things : ∀ (kV doc pm : Value) (an : Option Addr) (cdv ct : Value) (us : List Value), us.length = (["sort"] : List Str).length → bindArgs (PySem.W.fnOf "most_things" "most_things" (defArgs s_most_things) (defBody s_most_things) (defScope s_most_things) .none kV doc pm an cdv ct) ⟨us, []⟩ = pure ((["sort"] : List Str).zip us) :=
  fun _ _ _ _ _ _ us hl => match us, hl with | [_], _ => rfl
theorem hb_read_sort : ∀ (kV doc pm : Value) (an : Option Addr) (cdv ct : Value) (us : List Value), us.length = (["line", "ahead", "things"] : List Str).length → bindArgs (PySem.W.fnOf "read_sort" "read_sort" (defArgs s_read_sort) (defBody s_read_sort) (defScope s_read_sort) .none kV doc pm an cdv ct) ⟨us, []⟩ = pure ((["line", "ahead", "things"] : List Str).zip us) :=
  fun _ _ _ _ _ _ us hl => match us, hl with | [_, _, _], _ => rfl
theorem hb_read_things : ∀ (kV doc pm : Value) (an : Option Addr) (cdv ct : Value) (us : List Value), us.length = (["lines", "horizon"] : List Str).length → bindArgs (PySem.W.fnOf "read_things" "read_things" (defArgs s_read_things) (defBody s_read_things) (defScope s_read_things) .none kV doc pm an cdv ct) ⟨us, []⟩ = pure ((["lines", "horizon"] : List Str).zip us) :=
  fun _ _ _ _ _ _ us hl => match us, hl with | [_, _], _ => rfl
theorem hb_lines_of : ∀ (kV doc pm : Value) (an : Option Addr) (cdv ct : Value) (us : List Value), us.length = (["text"] : List Str).length → bindArgs (PySem.W.fnOf "lines_of" "lines_of" (defArgs s_lines_of) (defBody s_lines_of) (defScope s_lines_of) .none kV doc pm an cdv ct) ⟨us, []⟩ = pure ((["text"] : List Str).zip us) :=
  fun _ _ _ _ _ _ us hl => match us, hl with | [_], _ => rfl
theorem hb_is_name : ∀ (kV doc pm : Value) (an : Option Addr) (cdv ct : Value) (us : List Value), us.length = (["word"] : List Str).length → bindArgs (PySem.W.fnOf "is_name" "is_name" (defArgs s_is_name) (defBody s_is_name) (defScope s_is_name) .none kV doc pm an cdv ct) ⟨us, []⟩ = pure ((["word"] : List Str).zip us) :=
  fun _ _ _ _ _ _ us hl => match us, hl with | [_], _ => rfl
theorem hb_is_number : ∀ (kV doc pm : Value) (an : Option Addr) (cdv ct : Value) (us : List Value), us.length = (["word"] : List Str).length → bindArgs (PySem.W.fnOf "is_number" "is_number" (defArgs s_is_number) (defBody s_is_number) (defScope s_is_number) .none kV doc pm an cdv ct) ⟨us, []⟩ = pure ((["word"] : List Str).zip us) :=
  fun _ _ _ _ _ _ us hl => match us, hl with | [_], _ => rfl
theorem hb_Line___init__ : ∀ (kV doc pm : Value) (an : Option Addr) (cdv ct : Value) (us : List Value), us.length = (["self", "number", "row"] : List Str).length → bindArgs (PySem.W.fnOf "__init__" "Line.__init__" (defArgs s_Line___init__) (defBody s_Line___init__) (defScope s_Line___init__) .none kV doc pm an cdv ct) ⟨us, []⟩ = pure ((["self", "number", "row"] : List Str).zip us) :=
  fun _ _ _ _ _ _ us hl => match us, hl with | [_, _, _], _ => rfl
theorem hb_Line_has_more : ∀ (kV doc pm : Value) (an : Option Addr) (cdv ct : Value) (us : List Value), us.length = (["self"] : List Str).length → bindArgs (PySem.W.fnOf "has_more" "Line.has_more" (defArgs s_Line_has_more) (defBody s_Line_has_more) (defScope s_Line_has_more) .none kV doc pm an cdv ct) ⟨us, []⟩ = pure ((["self"] : List Str).zip us) :=
  fun _ _ _ _ _ _ us hl => match us, hl with | [_], _ => rfl
theorem hb_Line_due : ∀ (kV doc pm : Value) (an : Option Addr) (cdv ct : Value) (us : List Value), us.length = (["self"] : List Str).length → bindArgs (PySem.W.fnOf "due" "Line.due" (defArgs s_Line_due) (defBody s_Line_due) (defScope s_Line_due) .none kV doc pm an cdv ct) ⟨us, []⟩ = pure ((["self"] : List Str).zip us) :=
  fun _ _ _ _ _ _ us hl => match us, hl with | [_], _ => rfl
theorem hb_Line_step : ∀ (kV doc pm : Value) (an : Option Addr) (cdv ct : Value) (us : List Value), us.length = (["self"] : List Str).length → bindArgs (PySem.W.fnOf "step" "Line.step" (defArgs s_Line_step) (defBody s_Line_step) (defScope s_Line_step) .none kV doc pm an cdv ct) ⟨us, []⟩ = pure ((["self"] : List Str).zip us) :=
  fun _ _ _ _ _ _ us hl => match us, hl with | [_], _ => rfl
theorem hb_Line_read_choice : ∀ (kV doc pm : Value) (an : Option Addr) (cdv ct : Value) (us : List Value), us.length = (["self", "choices"] : List Str).length → bindArgs (PySem.W.fnOf "read_choice" "Line.read_choice" (defArgs s_Line_read_choice) (defBody s_Line_read_choice) (defScope s_Line_read_choice) .none kV doc pm an cdv ct) ⟨us, []⟩ = pure ((["self", "choices"] : List Str).zip us) :=
  fun _ _ _ _ _ _ us hl => match us, hl with | [_, _], _ => rfl
theorem hb_Line_read_number : ∀ (kV doc pm : Value) (an : Option Addr) (cdv ct : Value) (us : List Value), us.length = (["self", "least", "most"] : List Str).length → bindArgs (PySem.W.fnOf "read_number" "Line.read_number" (defArgs s_Line_read_number) (defBody s_Line_read_number) (defScope s_Line_read_number) .none kV doc pm an cdv ct) ⟨us, []⟩ = pure ((["self", "least", "most"] : List Str).zip us) :=
  fun _ _ _ _ _ _ us hl => match us, hl with | [_, _, _], _ => rfl
theorem hb_Line_read_field : ∀ (kV doc pm : Value) (an : Option Addr) (cdv ct : Value) (us : List Value), us.length = (["self", "word", "least", "most"] : List Str).length → bindArgs (PySem.W.fnOf "read_field" "Line.read_field" (defArgs s_Line_read_field) (defBody s_Line_read_field) (defScope s_Line_read_field) .none kV doc pm an cdv ct) ⟨us, []⟩ = pure ((["self", "word", "least", "most"] : List Str).zip us) :=
  fun _ _ _ _ _ _ us hl => match us, hl with | [_, _, _, _], _ => rfl
theorem hb_Line_due_name : ∀ (kV doc pm : Value) (an : Option Addr) (cdv ct : Value) (us : List Value), us.length = (["self"] : List Str).length → bindArgs (PySem.W.fnOf "due_name" "Line.due_name" (defArgs s_Line_due_name) (defBody s_Line_due_name) (defScope s_Line_due_name) .none kV doc pm an cdv ct) ⟨us, []⟩ = pure ((["self"] : List Str).zip us) :=
  fun _ _ _ _ _ _ us hl => match us, hl with | [_], _ => rfl
theorem hb_Line_read_new_name : ∀ (kV doc pm : Value) (an : Option Addr) (cdv ct : Value) (us : List Value), us.length = (["self", "used"] : List Str).length → bindArgs (PySem.W.fnOf "read_new_name" "Line.read_new_name" (defArgs s_Line_read_new_name) (defBody s_Line_read_new_name) (defScope s_Line_read_new_name) .none kV doc pm an cdv ct) ⟨us, []⟩ = pure ((["self", "used"] : List Str).zip us) :=
  fun _ _ _ _ _ _ us hl => match us, hl with | [_, _], _ => rfl
theorem hb_Line_read_known_name : ∀ (T : Addr) (kV doc pm : Value) (an : Option Addr) (cdv ct : Value) (us its : List Value), us.length = 2 → its.length = 1 →
    ∃ k, bindArgs (PySem.W.fnOf "read_known_name" "Line.read_known_name" (defArgs s_Line_read_known_name) (defBody s_Line_read_known_name) (defScope s_Line_read_known_name) (.ref T) kV doc pm an cdv ct) ⟨us, []⟩ = seqItems? (.ref T) >>= k ∧ k (some its.toArray) = pure ((["self", "names", "least"] : List Str).zip (us ++ its.drop 0)) :=
  fun _ _ _ _ _ _ _ us its h1 h2 => match us, its, h1, h2 with | [_, _], [_], _, _ => ⟨_, rfl, rfl⟩
theorem hb_Line_finish : ∀ (kV doc pm : Value) (an : Option Addr) (cdv ct : Value) (us : List Value), us.length = (["self"] : List Str).length → bindArgs (PySem.W.fnOf "finish" "Line.finish" (defArgs s_Line_finish) (defBody s_Line_finish) (defScope s_Line_finish) .none kV doc pm an cdv ct) ⟨us, []⟩ = pure ((["self"] : List Str).zip us) :=
  fun _ _ _ _ _ _ us hl => match us, hl with | [_], _ => rfl
theorem hb_Satellite___init__ : ∀ (kV doc pm : Value) (an : Option Addr) (cdv ct : Value) (us : List Value), us.length = (["self", "name", "store", "battery", "start_level", "reserve", "charge", "settle", "light"] : List Str).length → bindArgs (PySem.W.fnOf "__init__" "Satellite.__init__" (defArgs s_Satellite___init__) (defBody s_Satellite___init__) (defScope s_Satellite___init__) .none kV doc pm an cdv ct) ⟨us, []⟩ = pure ((["self", "name", "store", "battery", "start_level", "reserve", "charge", "settle", "light"] : List Str).zip us) :=
  fun _ _ _ _ _ _ us hl => match us, hl with | [_, _, _, _, _, _, _, _, _], _ => rfl
theorem hb_Station___init__ : ∀ (kV doc pm : Value) (an : Option Addr) (cdv ct : Value) (us : List Value), us.length = (["self", "name", "antennas", "turn"] : List Str).length → bindArgs (PySem.W.fnOf "__init__" "Station.__init__" (defArgs s_Station___init__) (defBody s_Station___init__) (defScope s_Station___init__) .none kV doc pm an cdv ct) ⟨us, []⟩ = pure ((["self", "name", "antennas", "turn"] : List Str).zip us) :=
  fun _ _ _ _ _ _ us hl => match us, hl with | [_, _, _, _], _ => rfl
theorem hb_Recording___init__ : ∀ (kV doc pm : Value) (an : Option Addr) (cdv ct : Value) (us : List Value), us.length = (["self", "name", "satellite", "earliest", "latest", "length", "size", "energy", "worth", "rank", "deadline"] : List Str).length → bindArgs (PySem.W.fnOf "__init__" "Recording.__init__" (defArgs s_Recording___init__) (defBody s_Recording___init__) (defScope s_Recording___init__) .none kV doc pm an cdv ct) ⟨us, []⟩ = pure ((["self", "name", "satellite", "earliest", "latest", "length", "size", "energy", "worth", "rank", "deadline"] : List Str).zip us) :=
  fun _ _ _ _ _ _ us hl => match us, hl with | [_, _, _, _, _, _, _, _, _, _, _], _ => rfl
theorem hb_Pass___init__ : ∀ (kV doc pm : Value) (an : Option Addr) (cdv ct : Value) (us : List Value), us.length = (["self", "name", "satellite", "station", "span", "room", "energy", "fee"] : List Str).length → bindArgs (PySem.W.fnOf "__init__" "Pass.__init__" (defArgs s_Pass___init__) (defBody s_Pass___init__) (defScope s_Pass___init__) .none kV doc pm an cdv ct) ⟨us, []⟩ = pure ((["self", "name", "satellite", "station", "span", "room", "energy", "fee"] : List Str).zip us) :=
  fun _ _ _ _ _ _ us hl => match us, hl with | [_, _, _, _, _, _, _, _], _ => rfl
theorem hb_World___init__ : ∀ (kV doc pm : Value) (an : Option Addr) (cdv ct : Value) (us : List Value), us.length = (["self", "text", "horizon", "things"] : List Str).length → bindArgs (PySem.W.fnOf "__init__" "World.__init__" (defArgs s_World___init__) (defBody s_World___init__) (defScope s_World___init__) .none kV doc pm an cdv ct) ⟨us, []⟩ = pure ((["self", "text", "horizon", "things"] : List Str).zip us) :=
  fun _ _ _ _ _ _ us hl => match us, hl with | [_, _, _, _], _ => rfl
theorem hb_World_parse : ∀ (kV doc pm : Value) (an : Option Addr) (cdv ct : Value) (us : List Value), us.length = (["text"] : List Str).length → bindArgs (PySem.W.fnOf "parse" "World.parse" (defArgs s_World_parse) (defBody s_World_parse) (defScope s_World_parse) .none kV doc pm an cdv ct) ⟨us, []⟩ = pure ((["text"] : List Str).zip us) :=
  fun _ _ _ _ _ _ us hl => match us, hl with | [_], _ => rfl
end DP
namespace DP
open PySem PySem.Spec PyProof.Rows L2
section
variable {P : Program} {w : World} {K : PySem.W.Frag} {mg : Str → Option Value} {base : Heap} {CL CS CT CR CP CW aS aR fS fT fR fP CF : Addr}
theorem prog_parseX (T : TxtW K mg CL CS CT CR CP CW aS aR fS fT fR fP) (F : PF K mg CL CS CT CR CP CW) (TF : TfAt K mg CF) (SP : SupP P) (RF : MAt K CL "refuse" "Line.refuse" s_Line_refuse ["self", "reason"]) : SDef P w K mg base (L2.CX P w) 9 CW "parse" ["text"] (spParseX K CW CF) := by
  have L := T.L
  have B := L.B
  have D_init : MDef P w K mg base CX0 1 CL "__init__" _ [] _ := d_Line_initX L F.p_Line___init__
  have D_more : MDef P w K mg base (L2.CX P w) 1 CL "has_more" _ [] _ := (d_has_moreX L F.p_Line_has_more).up
  have D_step : MDef P w K mg base (L2.CX P w) 1 CL "step" _ [] _ := (d_stepX L F.p_Line_step).up
  have D_ref : MDef P w K mg base (L2.CX P w) 3 CL "refuse" _ [] _ := d_refuse L TF SP RF
  have D_due := d_dueX L D_more D_ref F.p_Line_due
  have D_choice := d_read_choiceX L D_due D_ref D_step F.p_Line_read_choice
  have D_isnum : DefOk P w K mg base (L2.CX P w) 1 "is_number" _ _ := (d_is_numberX L F.p_is_number).up
  have D_number := d_read_numberX L D_isnum D_due D_ref D_step F.p_Line_read_number
  have D_field := d_read_fieldX L D_choice D_number F.p_Line_read_field
  have D_isname : DefOk P w K mg base (L2.CX P w) 1 "is_name" _ _ := (d_is_nameX L F.p_is_name).up
  have D_due_name := d_due_nameX L D_isname D_due D_ref F.p_Line_due_name
  have D_new := d_read_new_nameX L D_due_name D_ref D_step F.p_Line_read_new_name
  have D_known := d_read_known_nameX L D_due_name D_ref D_step F.p_Line_read_known_name
  have D_finish := d_finishX L D_more D_due D_ref F.p_Line_finish
  have D_lines : DefOk P w K mg base (L2.CX P w) 4 "lines_of" _ _ := d_lines_ofX L TF SP D_init F.p_lines_of
  have D_names : DefOk P w K mg base (L2.CX P w) 1 "names_of" _ _ := (d_names_of B F.p_names_of).up
  have D_light := d_read_lightX T D_more D_number F.p_read_light
  have D1 := d_read_satelliteX T D_names D_new D_field D_choice D_light (dI_Satellite T F.p_Satellite___init__).up F.p_read_satellite
  have D2 := d_read_stationX T D_names D_new D_field (dI_Station T F.p_Station___init__).up F.p_read_station
  have D3 := d_read_recordingX T D_names D_new D_field D_choice D_known (dI_Recording T F.p_Recording___init__).up F.p_read_recording
  have D4 := d_read_passX T D_names D_new D_field D_choice D_known (dI_Pass T F.p_Pass___init__).up F.p_read_pass
  have D_most : DefOk P w K mg base (L2.CX P w) 1 "most_things" _ _ := (d_most_things T F.p_most_things).up
  have D_sort := d_read_sortX T D_due D_ref D_step D_most F.p_read_sort
  have D_things := d_read_thingsX T D_sort D1 D2 D3 D4
    (at_ne F.p_read_station F.p_read_satellite T.r_station T.r_satellite (by decide)) (at_ne F.p_read_recording F.p_read_satellite T.r_recording T.r_satellite (by decide)) (at_ne F.p_read_recording F.p_read_station T.r_recording T.r_station (by decide))
    (at_ne F.p_read_pass F.p_read_satellite T.r_pass T.r_satellite (by decide)) (at_ne F.p_read_pass F.p_read_station T.r_pass T.r_station (by decide)) (at_ne F.p_read_pass F.p_read_recording T.r_pass T.r_recording (by decide)) D_finish F.p_read_things
  exact d_parseX T TF SP D_lines D_field D_finish D_things (dI_WorldX T F.p_World___init__).up F.p_World_parse
end
end DP
namespace DP
open PySem PySem.Spec PyProof.Rows L2
abbrev s__law_cell : Stmt := topS 41
theorem sc__law_cell : FnScope ["script", "k"] ["script", "k"] (defScope s__law_cell) := ⟨rfl, rfl, rfl, by decide +kernel, rfl, by decide +kernel, by decide +kernel⟩
abbrev s__law_draws : Stmt := topS 42
theorem sc__law_draws : FnScope ["cell", "count", "number", "great", "found", "k", "mixed"] ["cell", "count"] (defScope s__law_draws) := ⟨rfl, rfl, rfl, by decide +kernel, rfl, by decide +kernel, by decide +kernel⟩
abbrev s__law_stream : Stmt := topS 43
theorem sc__law_stream : FnScope ["script", "first", "count", "found", "k"] ["script", "first", "count"] (defScope s__law_stream) := ⟨rfl, rfl, rfl, by decide +kernel, rfl, by decide +kernel, by decide +kernel⟩
abbrev s__law_next : Stmt := topS 44
theorem sc__law_next : FnScope ["stream", "many", "digits", "place", "value"] ["stream", "many"] (defScope s__law_next) := ⟨rfl, rfl, rfl, by decide +kernel, rfl, by decide +kernel, by decide +kernel⟩
section
variable {P : Program} {w : World} {K : PySem.W.Frag} {mg : Str → Option Value} {base : Heap}
/-- some int -/
def spCell (K : PySem.W.Frag) : Sp := fun vs H Q _ => ∃ (a : Addr) (ns : List Int) (k : Int), vs = [.ref a, .int k] ∧ SqL K H a (ns.map V.int) ∧ 0 ≤ k ∧ ∀ v : Int, Q (.int v) H
theorem d_cell (B : Bt mg) (A : At K mg "_law_cell" s__law_cell ["script", "k"]) : DefOk P w K mg base CX0 1 "_law_cell" ["script", "k"] (DP.spCell K) := by
  refine A.ok sc__law_cell (fun vs H Q E h => ?_) (fun f cdv A outer s H vs Q E hr h => ?_)
  · obtain ⟨a, ns, k, rfl, _⟩ := h
    rfl
  obtain ⟨a, ns, k, rfl, hS, h0, q⟩ := h
  refine ⟨_, pss_cons (ps_if (pt_cmpR op_lt (pv 1) (pe_callB (call_len_seq) (by rfl) B.len (by decide +kernel) (pa_cons (pv 0) pa_nil)) (nomark _))
      (pss_one (ps_ret (pe_callTy (call_int1) (by rfl) B.int (by decide +kernel) (pa_cons (pe_ix ix_list (pv 0) (pv 1) (fun _ _ => rfl)) pa_nil))))
      (pss_nil))
  (pss_one (ps_ret pe_int))
    , ?_⟩
  refine ⟨_, rfl, _, rfl, a, _, rfl, .inl hS, _, _, rfl, rfl, _, rfl, ?_⟩
  refine ite2 (fun c => ?_) (fun c => ?_)
  · have c' : k < (((ns.map V.int).length : Nat) : Int) := of_decide_eq_true c
    rw [List.length_map] at c'
    have hk : k.toNat < ns.length := by omega
    have ek : k = ((k.toNat : Nat) : Int) := by omega
    have g : (ns.map V.int)[k.toNat]? = some (.int ns[k.toNat]) := by rw [List.getElem?_map, List.getElem?_eq_getElem hk] <;> rfl
    have g2 : atI (ns.map V.int) k = some (.int ns[k.toNat]) := by
      have := atI_nat g
      rw [← ek] at this
      exact this
    exact ⟨_, rfl, _, rfl, a, _, _, _, rfl, rfl, hS, g2, .inl ⟨_, rfl, q _⟩⟩
  · exact q 0
/-- a new list of twelve ints -/
def spDraws : Sp := fun vs H Q _ => ∃ c : Int, vs = [.int c, .int 12] ∧ ∀ (p : Addr) (ds : List Int) (H' : Hp), Same H H' → H p = none → ds.length = 12 → H' p = some (.lst (ds.map V.int)) → Q (.ref p) H'
theorem d_draws (B : Bt mg) (A : At K mg "_law_draws" s__law_draws ["cell", "count"]) : DefOk P w K mg base CX0 1 "_law_draws" ["cell", "count"] spDraws := by
  refine A.ok sc__law_draws (fun vs H Q E h => ?_) (fun f cdv A outer s H vs Q E hr h => ?_)
  · obtain ⟨c, rfl, _⟩ := h
    rfl
  obtain ⟨c, rfl, q⟩ := h
  refine ⟨_, pss_cons (ps_set (i := 2) sc__law_draws.nd rfl (Or.inl rfl) (pe_callB (call_abs) (by rfl) B.abs (by decide +kernel) (pa_cons (pe_callTy (call_int1) (by rfl) B.int (by decide +kernel) (pa_cons (pv 0) pa_nil)) pa_nil)))
  (pss_cons (ps_set (i := 3) sc__law_draws.nd rfl (Or.inl rfl) (pe_cmpR op_ge (pv 2) (pe_op op_pow pe_int pe_int) (nomark _)))
  (pss_cons (ps_set (i := 4) sc__law_draws.nd rfl (Or.inl rfl) (pe_lst pa_nil))
  (pss_cons (ps_for PassesOwn.never rfl (pi_range1 (by rfl) B.range (pa_cons pe_int pa_nil)) (pg_name (i := 5) sc__law_draws.nd rfl (Or.inl rfl))
      (pss_one (ps_if (PW.pt (pw_and (pt_cmpR op_lt (pv 5) (pv 1) (nomark _)) (pw_and1 (pt_val (pv 3)))))
          (pss_cons (ps_expr (pe_bm PySem.F.plainAttrs_list PySem.F.slot_list_append PySem.F.type_list_append mt_append (pv 4) (pa_cons (pe_op op_mod (pv 2) pe_int) pa_nil)))
          (pss_one (ps_set (i := 2) sc__law_draws.nd rfl (Or.inl rfl) (pe_op op_fdiv (pv 2) pe_int))))
          (pss_one (ps_if (pt_cmpR op_lt (pv 5) (pv 1) (nomark _))
              (pss_cons (ps_set (i := 6) sc__law_draws.nd rfl (Or.inl rfl) (pe_op op_mod (pe_op op_add (pe_op op_add (pe_op op_mul (pe_callTy (call_int1) (by rfl) B.int (by decide +kernel) (pa_cons (pv 2) pa_nil)) pe_int) (pe_op op_mul (pv 5) pe_int)) pe_int) pe_int))
              (pss_cons (ps_set (i := 6) sc__law_draws.nd rfl (Or.inl rfl) (pe_op op_mod (pe_op op_add (pe_op op_add (pe_op op_mul (pe_callTy (call_int1) (by rfl) B.int (by decide +kernel) (pa_cons (pv 6) pa_nil)) (pe_callTy (call_int1) (by rfl) B.int (by decide +kernel) (pa_cons (pv 6) pa_nil))) (pe_op op_mul (pv 5) pe_int)) pe_int) pe_int))
              (pss_one (ps_expr (pe_bm PySem.F.plainAttrs_list PySem.F.slot_list_append PySem.F.type_list_append mt_append (pv 4) (pa_cons (pe_op op_mod (pe_callTy (call_int1) (by rfl) B.int (by decide +kernel) (pa_cons (pv 6) pa_nil)) pe_int) pa_nil))))))
              (pss_nil))))))
  (pss_one (ps_ret (pv 4))))))
    , ?_⟩
  refine ⟨_, rfl, .inl ⟨_, rfl, c, rfl, ?_⟩⟩
  generalize hn0 : (if c < 0 then -c else c) = n0
  have p0 : 0 ≤ n0 := by
    rw [← hn0]
    split <;> omega
  refine ⟨_, rfl, _, _, rfl, rfl, ⟨by decide, by decide, by decide⟩, _, _, rfl, rfl, Nat.zero_le _, fun p hp => ?_⟩
  obtain ⟨g, hg⟩ : ∃ g, decide ((10 : Int) ^ (18 : Int).toNat ≤ n0) = g := ⟨_, rfl⟩
  have hsmall : g = false → n0 < 10 ^ 18 := fun e => by
    rw [e] at hg
    have := of_decide_eq_false hg
    have e2 : (10 : Int) ^ (18 : Int).toNat = 10 ^ 18 := rfl
    rw [e2] at this
    omega
  refine ⟨60, rfl, by decide, by decide, for_range (n := 60) (fun i σ H' => ∃ (num : Int) (ds : List Int) (y5 y6 : Option V), σ = [some (.int c), some (.int 12), some (.int num), some (.bl g), some (.ref p), y5, y6] ∧ 0 ≤ num ∧ (g = false → num < 10 ^ 18) ∧
    ds.length = min i 12 ∧ H' p = some (.lst (ds.map V.int)) ∧ Same H H') ⟨n0, [], none, none, by rw [← hg]; rfl, p0, hsmall, rfl, upd_same, same_new hp _⟩ (fun i σ H1 hi hI => ?_) (fun σ H1 hI => ?_)⟩
  · obtain ⟨num, ds, y5, y6, rfl, pn, sn, hl, hpp, hs⟩ := hI
    have room : (ds.map V.int).length < sizeLine := by
      rw [List.length_map, hl]
      exact small1000 (by omega)
    have grow : ∀ v : Int, i < 12 → (ds ++ [v]).length = min (i + 1) 12 := fun v h => by
      rw [List.length_append, hl, List.length_singleton]
      omega
    have put : ∀ v : Int, (upd H1 p (.lst (ds.map V.int ++ [.int v]))) p = some (.lst ((ds ++ [v]).map V.int)) := fun v => by
      rw [upd_same, List.map_append] <;> rfl
    refine ⟨_, rfl, _, rfl, _, _, rfl, rfl, _, rfl, ?_⟩
    refine ite2 (fun c1 => ?_) (fun c1 => ?_)
    · have c1' : (0 : Int) + (i : Nat) < 12 := of_decide_eq_true c1
      refine ⟨_, rfl, g, rfl, ?_⟩
      cases g with
      | true =>
        refine iteT ?_
        refine ⟨_, rfl, .inl ⟨rfl, _, SqL.of hpp⟩, _, rfl, _, _, rfl, rfl, (by show (0 : Int) < 60; decide), _, _, _, rfl, rfl, hpp, room, ?_⟩
        refine ⟨_, rfl, _, _, rfl, rfl, ⟨by decide, by decide⟩, ?_⟩
        exact ⟨num / 60, ds ++ [num % 60], _, _, rfl, Int.ediv_nonneg pn (by decide), fun z => Bool.noConfusion z, grow _ (by omega), put _, same_at hp hs _⟩
      | false =>
        have sn' := sn rfl
        refine iteF ?_
        refine ⟨_, rfl, _, rfl, _, _, rfl, rfl, _, rfl, iteT' (decide_eq_true c1') ?_⟩
        refine ⟨_, rfl, .inl ⟨_, rfl, _, _, rfl, rfl, .inr ⟨by decide, by decide⟩, _, rfl, _, _, rfl, rfl, .inr ⟨by decide, by decide⟩, _, _, rfl, rfl, _, _, rfl, rfl, _, _, rfl, rfl, (by show (0 : Int) < 2147483647; decide), ?_⟩⟩
        generalize hm : ((num * 48271 + (0 + (i : Nat)) * 69621 + 11) % 2147483647 : Int) = m1
        have b1 : 0 ≤ m1 := by rw [← hm]; exact Int.emod_nonneg _ (by decide)
        have b2 : m1 < 2147483647 := by rw [← hm]; exact Int.emod_lt_of_pos _ (by decide)
        refine ⟨_, rfl, .inl ⟨_, rfl, _, rfl, .inl ⟨_, rfl, _, _, rfl, rfl, .inl ⟨by omega, by omega⟩, _, rfl, _, _, rfl, rfl, .inr ⟨by decide, by decide⟩, _, _, rfl, rfl, _, _, rfl, rfl, _, _, rfl, rfl, (by show (0 : Int) < 998244353; decide), ?_⟩⟩⟩
        refine ⟨_, rfl, .inl ⟨rfl, _, SqL.of hpp⟩, _, rfl, .inl ⟨_, rfl, _, _, rfl, rfl, (by show (0 : Int) < 60; decide), _, _, _, rfl, rfl, hpp, room, ?_⟩⟩
        exact ⟨num, _, _, _, rfl, pn, sn, grow _ (by omega), put _, same_at hp hs _⟩
    · have c1' : ¬ (0 : Int) + (i : Nat) < 12 := fun z => c1 (decide_eq_true z)
      refine ⟨_, rfl, _, rfl, _, _, rfl, rfl, _, rfl, iteF' (decide_eq_false c1') ?_⟩
      exact ⟨num, ds, _, _, rfl, pn, sn, by rw [hl]; omega, hpp, hs⟩
  · obtain ⟨num, ds, y5, y6, rfl, pn, sn, hl, hpp, hs⟩ := hI
    exact ⟨_, rfl, q p ds H1 hs hp hl hpp⟩
theorem mod_place' {i : Int} {n : Nat} (h : 0 < n) : (i % (n : Int)).toNat < n ∧ (((i % (n : Int)).toNat : Nat) : Int) = i % (n : Int) := by
  have h1 : 0 ≤ i % (n : Int) := Int.emod_nonneg i (by omega)
  have h2 : i % (n : Int) < (n : Int) := Int.emod_lt_of_pos i (by omega)
  have h3 : (((i % (n : Int)).toNat : Nat) : Int) = i % (n : Int) := Int.toNat_of_nonneg h1
  refine ⟨?_, h3⟩
  omega
/-- a stream: its digits, its place -/
def Strm (H : Hp) (st : Addr) : Prop := ∃ (d p : Addr) (ds : List Int), H st = some (.lst [.ref d, .ref p]) ∧ H d = some (.lst (ds.map V.int)) ∧ 0 < ds.length ∧ H p = some (plO p)
theorem Strm.same {H H' : Hp} {st : Addr} (h : Strm H st) (s : Same H H') : Strm H' st := by
  obtain ⟨d, p, ds, h1, h2, h3, h4⟩ := h
  exact ⟨d, p, ds, s _ _ h1, s _ _ h2, h3, s _ _ h4⟩
def spStream0 (K : PySem.W.Frag) : Sp := fun vs H Q _ => ∃ (a : Addr) (ns : List Int) (first count : Int), vs = [.ref a, .int first, .int count] ∧ SqL K H a (ns.map V.int) ∧ 0 ≤ first ∧ 0 < count ∧ count ≤ 60 ∧
  ∀ (st d p : Addr) (ds : List Int) (H' : Hp), Same H H' → H st = none → H d = none → H p = none → st ≠ p → d ≠ p → H' st = some (.lst [.ref d, .ref p]) → H' d = some (.lst (ds.map V.int)) → 0 < ds.length → H' p = some (.lst [.int 0]) → Q (.ref st) H'
theorem d_stream0 (B : Bt mg) (D_law_cell : DefOk P w K mg base CX0 1 "_law_cell" ["script", "k"] (DP.spCell K)) (D_law_draws : DefOk P w K mg base CX0 1 "_law_draws" ["cell", "count"] spDraws)
    (A : At K mg "_law_stream" s__law_stream ["script", "first", "count"]) : DefOk P w K mg base CX0 2 "_law_stream" ["script", "first", "count"] (spStream0 K) := by
  refine A.ok sc__law_stream (fun vs H Q E h => ?_) (fun f cdv A outer s H vs Q E hr h => ?_)
  · obtain ⟨a, ns, first, count, rfl, _⟩ := h
    rfl
  obtain ⟨a, ns, first, count, rfl, hS, h0, h1, h2, q⟩ := h
  refine ⟨_, pss_cons (ps_set (i := 3) sc__law_stream.nd rfl (Or.inl rfl) (pe_lst pa_nil))
  (pss_cons (ps_for PassesOwn.never rfl (pi_range1 (by rfl) B.range (pa_cons (pv 2) pa_nil)) (pg_name (i := 4) sc__law_stream.nd rfl (Or.inl rfl))
      (pss_one (ps_expr (pe_bm PySem.F.plainAttrs_list PySem.F.slot_list_extend PySem.F.type_list_extend mt_extend (pv 3) (pa_cons (pe_f D_law_draws (hr.mono (by omega)) pass0 (pa_cons (pe_f D_law_cell (hr.mono (by omega)) pass0 (pa_cons (pv 0) (pa_cons (pe_op op_add (pv 1) (pv 4)) pa_nil))) (pa_cons pe_int pa_nil))) pa_nil)))))
  (pss_one (ps_ret (pe_lst (pa_cons (pv 3) (pa_cons (pe_lst (pa_cons pe_int pa_nil)) pa_nil))))))
    , ?_⟩
  refine ⟨Nat.zero_le _, fun p hp => ?_⟩
  refine ⟨_, rfl, count, rfl, by omega, by omega, for_range (n := count.toNat) (fun i σ H' => ∃ (ds : List Int) (y4 : Option V), σ = [some (.ref a), some (.int first), some (.int count), some (.ref p), y4] ∧ ds.length = 12 * i ∧ H' p = some (.lst (ds.map V.int)) ∧ Same H H')
    ⟨[], none, rfl, rfl, upd_same, same_new hp _⟩ (fun i σ H1 hi hI => ?_) (fun σ H1 hI => ?_)⟩
  · obtain ⟨ds, y4, rfl, hl, hpp, hs⟩ := hI
    refine ⟨_, rfl, .inl ⟨rfl, _, SqL.of hpp⟩, _, rfl, _, rfl, _, rfl, _, _, rfl, rfl, a, ns, first + (0 + (i : Int)), rfl, hs.seq hS, by omega, fun v => ?_⟩
    refine ⟨v, rfl, fun b es H2 s2 nb hl2 hb => ?_⟩
    refine ⟨p, b, _, _, rfl, rfl, s2 _ _ hpp, hb, ?_, ?_⟩
    · rw [List.length_map, List.length_map, hl, hl2]
      exact small (by omega)
    · refine ⟨ds ++ es, _, rfl, by rw [List.length_append, hl, hl2]; omega, by rw [upd_same, List.map_append], same_at hp (hs.trans s2) _⟩
  · obtain ⟨ds, y4, rfl, hl, hpp, hs⟩ := hI
    refine ⟨_, rfl, Nat.le_trans (by decide : 1 ≤ 1000) (Nat.le_of_lt (small1000 (Nat.le_refl _))), fun pl npl => ?_⟩
    have e1 : p ≠ pl := ne_of_none hpp npl
    refine ⟨Nat.le_trans (by decide : 2 ≤ 1000) (Nat.le_of_lt (small1000 (Nat.le_refl _))), fun st nst => ?_⟩
    have nst0 := nst
    have e2 : pl ≠ st := fun z => by
      rw [← z, upd_same] at nst
      cases nst
    rw [upd_ne e2.symm] at nst
    have e3 : p ≠ st := ne_of_none hpp nst
    refine q st p pl ds _ (same_at (hs.free nst) (same_at (hs.free npl) hs _) _) (hs.free nst) hp (hs.free npl) e2.symm e1 upd_same ?_ (by rw [hl]; omega) ?_
    · rw [upd_ne e3, upd_ne e1]
      exact hpp
    · rw [upd_ne e2, upd_same]
def spStream (K : PySem.W.Frag) : Sp := fun vs H Q _ => ∃ (a : Addr) (ns : List Int) (first count : Int), vs = [.ref a, .int first, .int count] ∧ SqL K H a (ns.map V.int) ∧ 0 ≤ first ∧ 0 < count ∧ count ≤ 60 ∧
  ∀ (st : Addr) (H' : Hp), Same H H' → H st = none → Strm H' st → Q (.ref st) H'
theorem d_stream (D : DefOk P w K mg base CX0 2 "_law_stream" ["script", "first", "count"] (spStream0 K)) : DefOk P w K mg base CX0 2 "_law_stream" ["script", "first", "count"] (spStream K) := by
  refine D.hide_out (fun vs H Q E h => ?_) (fun vs H Q E h => ?_)
  · obtain ⟨a, ns, first, count, rfl, _⟩ := h
    rfl
  obtain ⟨a, ns, first, count, rfl, hS, h0, h1, h2, q⟩ := h
  refine ⟨a, ns, first, count, rfl, hS, h0, h1, h2, fun st d p ds H' s nst nd np e1 e2 g1 g2 g3 g4 => ⟨p, 0, np, g4, q st _ (same_at np s _) nst ⟨d, p, ds, ?_, ?_, g3, upd_same⟩⟩⟩
  · rw [upd_ne e1]; exact g1
  · rw [upd_ne e2]; exact g2
def spNext0 : Sp := fun vs H Q _ => ∃ (st d p : Addr) (ds : List Int) (n many : Int), vs = [.ref st, .int many] ∧ 0 < many ∧ H st = some (.lst [.ref d, .ref p]) ∧ H d = some (.lst (ds.map V.int)) ∧ 0 < ds.length ∧ H p = some (.lst [.int n]) ∧
  ∀ v m : Int, 0 ≤ v → v < many → Q (.int v) (upd H p (.lst [.int m]))
theorem d_next0 (B : Bt mg) (A : At K mg "_law_next" s__law_next ["stream", "many"]) : DefOk P w K mg base CX0 1 "_law_next" ["stream", "many"] spNext0 := by
  refine A.ok sc__law_next (fun vs H Q E h => ?_) (fun f cdv A outer s H vs Q E hr h => ?_)
  · obtain ⟨a, d, p, ds, n, many, rfl, _⟩ := h
    rfl
  obtain ⟨st, d, p, ds, n, many, rfl, hm, h1, h2, h3, h4, q⟩ := h
  refine ⟨_, pss_cons (ps_set (i := 2) sc__law_next.nd rfl (Or.inl rfl) (pe_ix ix_list (pv 0) pe_int (fun _ _ => rfl)))
  (pss_cons (ps_set (i := 3) sc__law_next.nd rfl (Or.inl rfl) (pe_ix ix_list (pv 0) pe_int (fun _ _ => rfl)))
  (pss_cons (ps_set (i := 4) sc__law_next.nd rfl (Or.inl rfl) (pe_op op_mod (pe_callTy (call_int1) (by rfl) B.int (by decide +kernel) (pa_cons (pe_ix ix_list (pv 2) (pe_op op_mod (pe_callTy (call_int1) (by rfl) B.int (by decide +kernel) (pa_cons (pe_ix ix_list (pv 3) pe_int (fun _ _ => rfl)) pa_nil)) (pe_callB (call_len_seq) (by rfl) B.len (by decide +kernel) (pa_cons (pv 2) pa_nil))) (fun _ _ => rfl)) pa_nil)) (pv 1)))
  (pss_cons (ps_asg (pe_op op_add (pe_ix ix_list (pv 3) pe_int (fun _ _ => rfl)) pe_int) (pg_sub (pv 3) pe_int set_list))
  (pss_one (ps_ret (pv 4))))))
    , ?_⟩
  refine ⟨_, rfl, st, _, 0, .ref d, rfl, rfl, SqL.of h1, rfl, ?_⟩
  refine ⟨_, rfl, st, _, 1, .ref p, rfl, rfl, SqL.of h1, rfl, ?_⟩
  have hp := (mod_place' (i := n) h3)
  have g2 : atI (ds.map V.int) (n % (((ds.map V.int).length : Nat) : Int)) = some (.int ds[(n % (ds.length : Int)).toNat]) := by
    have g : (ds.map V.int)[(n % (ds.length : Int)).toNat]? = some (.int ds[(n % (ds.length : Int)).toNat]) := by rw [List.getElem?_map, List.getElem?_eq_getElem hp.1] <;> rfl
    have g3 := atI_nat g
    rw [hp.2] at g3
    rw [List.length_map]
    exact g3
  refine ⟨_, rfl, _, rfl, p, _, 0, .int n, rfl, rfl, SqL.of h4, rfl, .inl ⟨_, rfl, _, rfl, d, _, rfl, .inl (SqL.of h2), _, _, rfl, rfl, (by rw [List.length_map]; omega), ?_⟩⟩
  refine ⟨d, _, _, _, rfl, rfl, SqL.of h2, g2, .inl ⟨_, rfl, _, rfl, _, _, rfl, rfl, hm, ?_⟩⟩
  refine ⟨_, rfl, p, _, 0, .int n, rfl, rfl, SqL.of h4, rfl, _, _, rfl, rfl, _, rfl, p, _, 0, 0, rfl, rfl, h4, rfl, ?_⟩
  exact ⟨_, rfl, q _ _ (Int.emod_nonneg _ (by omega)) (Int.emod_lt_of_pos _ hm)⟩
/-- some int below many; nothing is seen to change -/
def spNext : Sp := fun vs H Q _ => ∃ (st : Addr) (many : Int), vs = [.ref st, .int many] ∧ 0 < many ∧ Strm H st ∧ ∀ v : Int, 0 ≤ v → v < many → Q (.int v) H
theorem d_next (D : DefOk P w K mg base CX0 1 "_law_next" ["stream", "many"] spNext0) : DefOk P w K mg base CX0 1 "_law_next" ["stream", "many"] spNext := by
  refine D.hide_in (fun vs H Q E h => ?_) (fun vs H Q E h => ?_)
  · obtain ⟨st, many, rfl, _⟩ := h
    rfl
  obtain ⟨st, many, rfl, hm, ⟨d, p, ds, h1, h2, h3, h4⟩, q⟩ := h
  have e1 : st ≠ p := ne_of h1 h4 (fun z => nomatch z)
  have e2 : d ≠ p := ne_of h2 h4 (fun z => nomatch z)
  exact ⟨p, h4, fun n => ⟨st, d, p, ds, n, many, rfl, hm, by rw [upd_ne e1]; exact h1, by rw [upd_ne e2]; exact h2, h3, upd_same, fun v m v0 v1 => ⟨⟨m, upd_upd⟩, q v v0 v1⟩⟩⟩
end
end DP
namespace DP
open PySem PySem.Spec PyProof.Rows L2
abbrev s__law_word : Stmt := topS 45
theorem sc__law_word : FnScope ["stream", "index", "letters", "size", "text", "place", "word", "k"] ["stream", "index"] (defScope s__law_word) := ⟨rfl, rfl, rfl, by decide +kernel, rfl, by decide +kernel, by decide +kernel⟩
def lo36 : Str := "abcdefghijklmnopqrstuvwxyz0123456789"
def isLo (c : Nat) : Bool := (decide (97 ≤ c) && decide (c ≤ 122)) || isD c
def isUp (c : Nat) : Bool := decide (65 ≤ c) && decide (c ≤ 90)
theorem isLo_notUp {c : Nat} (h : isLo c = true) : isUp c = false := by
  unfold isLo isD at h
  unfold isUp
  simp only [Bool.or_eq_true, Bool.and_eq_true, decide_eq_true_eq] at h
  simp only [Bool.and_eq_false_iff, decide_eq_false_iff_not]
  omega
theorem isLo_sign {c : Nat} (h : isLo c = true) : (isL c || isD c) = true := by
  unfold isLo at h
  unfold isL
  simp only [Bool.or_eq_true, Bool.and_eq_true, decide_eq_true_eq] at h ⊢
  rcases h with h | h
  · exact .inl (.inr h)
  · exact .inr h
/-- the word of the i-th thing: its one capital tells i -/
structure WordAt (i : Nat) (u : Str) : Prop where
  ok : NameOk u
  cap : (tl u).filter isUp = [65 + i]
theorem WordAt.inj {i j : Nat} {u : Str} (h : WordAt i u) (k : WordAt j u) : i = j := by
  have e := h.cap.symm.trans k.cap
  have := (List.cons.inj e).1
  omega
theorem cutS_mem {z : Str} {a b : Option Int} {c : Nat} (h : c ∈ tl (cutS z a b)) : c ∈ tl z := List.mem_of_mem_drop (List.mem_of_mem_take h)
theorem filter_none {l : List Nat} (h : ∀ c ∈ l, isLo c = true) : l.filter isUp = [] := List.filter_eq_nil_iff.mpr fun c hc => by rw [isLo_notUp (h c hc)]; exact Bool.false_ne_true
theorem lo36_at {v : Int} (h0 : 0 ≤ v) (h1 : v < 36) : ∃ c, atI lo36.cps.toList v = some c ∧ isLo c = true := by
  have all : ∀ j, j < 36 → ∃ c, lo36.cps.toList[j]? = some c ∧ isLo c = true := by
    intro j hj
    have hl : lo36.cps.toList.length = 36 := by decide +kernel
    refine ⟨lo36.cps.toList[j]'(by omega), List.getElem?_eq_getElem _, ?_⟩
    have al : ∀ c ∈ lo36.cps.toList, isLo c = true := by decide +kernel
    exact al _ (List.getElem_mem _)
  obtain ⟨c, h2, h3⟩ := all v.toNat (by omega)
  refine ⟨c, ?_, h3⟩
  have := atI_nat h2
  rw [show ((v.toNat : Nat) : Int) = v by omega] at this
  exact this
theorem cap_at {i : Nat} (h : i < 10) : atI ("ABCDEFGHIJ" : Str).cps.toList (i : Int) = some (65 + i) := by
  have all : ∀ j, j < 10 → ("ABCDEFGHIJ" : Str).cps.toList[j]? = some (65 + j) := by decide +kernel
  exact atI_nat (all i h)
theorem tl_str1 {c : Nat} : tl (⟨#[c]⟩ : Str) = [c] := rfl
theorem tl_app (x y : Str) : tl (x ++ y) = tl x ++ tl y := TL.tl_append x y
theorem join_ones : ∀ cs : List Nat, tl (Txt.join (Str.ofString "") (cs.map fun c => (⟨#[c]⟩ : Str))) = cs := fun cs => by
  rw [TL.join_eq]
  show TL.tl (Str.join (Str.ofString "") (cs.map fun c => (⟨#[c]⟩ : Str))) = cs
  rw [TL.tl_join, List.map_map]
  have e : TL.tl (Str.ofString "") = [] := by decide +kernel
  rw [e]
  induction cs with
  | nil => rfl
  | cons a r ih =>
    cases r with
    | nil => rfl
    | cons b t =>
      show [a] ++ ([] ++ TL.joinL [] ((b :: t).map _)) = a :: b :: t
      rw [List.nil_append, ih]
      rfl
/-- the word's parts put together -/
theorem word_ok {i : Nat} {pre suf : Str} {z : Str} (hi : i < 10) (hp : ∀ c ∈ tl pre, isLo c = true) (hs : ∀ c ∈ tl suf, isLo c = true) (lp : (tl pre).length ≤ 4) (ls : (tl suf).length ≤ 4) (hz : tl z = tl pre ++ (65 + i) :: tl suf) :
    (∃ c r, tl z = c :: r ∧ (isD c = true ∨ isL c = true)) ∧ (∀ c r, tl z = c :: r → isD c = true → WordAt i ((Str.ofString "v" : Str) ++ z)) ∧ (∀ c r, tl z = c :: r → isD c = false → WordAt i z) := by
  have sg : ∀ c ∈ tl z, (isL c || isD c) = true := fun c hc => by
    rw [hz] at hc
    rcases List.mem_append.mp hc with hc | hc
    · exact isLo_sign (hp c hc)
    · rcases List.mem_cons.mp hc with rfl | hc
      · unfold isL
        simp only [Bool.or_eq_true, Bool.and_eq_true, decide_eq_true_eq]
        omega
      · exact isLo_sign (hs c hc)
  have cp : (tl z).filter isUp = [65 + i] := by
    rw [hz, List.filter_append, filter_none hp, List.nil_append, List.filter_cons, filter_none hs, if_pos]
    unfold isUp
    simp only [Bool.and_eq_true, decide_eq_true_eq]
    omega
  have ln : (tl z).length ≤ 9 := by
    rw [hz, List.length_append, List.length_cons]
    omega
  have ev : tl (Str.ofString "v") = [118] := by decide +kernel
  refine ⟨?_, fun c r e hd => ⟨⟨118, c :: r, by rw [tl_app, ev, e]; rfl, by decide, fun x hx => sg x (by rw [e]; exact hx), by rw [← e]; omega⟩, ?_⟩, fun c r e hd => ⟨⟨c, r, e, ?_, fun x hx => sg x (by rw [e]; exact List.mem_cons_of_mem _ hx), ?_⟩, cp⟩⟩
  · cases q : tl z with
    | nil =>
      rw [hz] at q
      exact absurd q (by simp)
    | cons c r =>
      refine ⟨c, r, rfl, ?_⟩
      have := sg c (by rw [q]; exact List.mem_cons_self)
      rcases Bool.or_eq_true _ _ ▸ this with h | h
      · exact .inr h
      · exact .inl h
  · rw [tl_app, ev, List.filter_append, cp]
    rfl
  · have := sg c (by rw [e]; exact List.mem_cons_self)
    rw [hd, Bool.or_false] at this
    exact this
  · have := congrArg List.length e
    rw [List.length_cons] at this
    omega
end DP
namespace DP
open PySem PySem.Spec PyProof.Rows L2
abbrev s__law_is_integer : Stmt := topS 46
theorem sc__law_is_integer : FnScope ["actual"] ["actual"] (defScope s__law_is_integer) := ⟨rfl, rfl, rfl, by decide +kernel, rfl, by decide +kernel, by decide +kernel⟩
abbrev s__law_same : Stmt := topS 47
theorem sc__law_same : FnScope ["actual", "expected", "k"] ["actual", "expected"] (defScope s__law_same) := ⟨rfl, rfl, rfl, by decide +kernel, rfl, by decide +kernel, by decide +kernel⟩
/-- data of at most n layers, each of at most a thousand items -/
def Fit : Nat → PyData → Prop
  | 0, _ => False
  | _ + 1, .none => True
  | _ + 1, .bool _ => True
  | _ + 1, .int _ => True
  | _ + 1, .str _ => True
  | n + 1, .list ds => ds.length ≤ 1000 ∧ ∀ d ∈ ds, Fit n d
  | n + 1, .tuple ds => ds.length ≤ 1000 ∧ ∀ d ∈ ds, Fit n d
  | _ + 1, .dict _ => False
theorem dpAll_len {K : PySem.W.Frag} {H : Hp} : ∀ {xs : List V} {ds : List PyData}, DpAll K H xs ds → xs.length = ds.length
  | _, _, .nil => rfl
  | _, _, .cons _ t => by rw [List.length_cons, List.length_cons, dpAll_len t]
theorem dpAll_at {K : PySem.W.Frag} {H : Hp} : ∀ {xs : List V} {ds : List PyData} (i : Nat), DpAll K H xs ds → i < ds.length → ∃ x d, xs[i]? = some x ∧ ds[i]? = some d ∧ Dp K H x d
  | _, _, _, .nil, h => absurd h (Nat.not_lt_zero _)
  | _, _, 0, .cons (v := v) (d := d) a _, _ => ⟨v, d, rfl, rfl, a⟩
  | _, _, i + 1, .cons _ t, h => by
    obtain ⟨x, d, h1, h2, h3⟩ := dpAll_at i t (by rw [List.length_cons] at h; omega)
    exact ⟨x, d, by rw [List.getElem?_cons_succ]; exact h1, by rw [List.getElem?_cons_succ]; exact h2, h3⟩
theorem tyx_list {K : PySem.W.Frag} {H : Hp} {a : Addr} {xs : List V} (h : SqL K H a xs) : TyX K H (.ref a) (.type "list") := by
  rcases h with (h | ⟨o, h⟩) | ⟨o, _, _, h, c, _⟩
  · exact .base (.lst h)
  · exact .base (.frz h)
  · exact .kList h c
theorem tyx_tup {K : PySem.W.Frag} {H : Hp} {a : Addr} {xs : List V} (h : SqT K H a xs) : TyX K H (.ref a) (.type "tuple") := by
  rcases h with (h | ⟨o, h⟩) | ⟨o, _, _, h, c, _⟩
  · exact .base (.tup h)
  · exact .fTuple h
  · exact .kTuple h c
/-- the built-in class of data -/
def tyD : PyData → String
  | .none => "NoneType"
  | .bool _ => "bool"
  | .int _ => "int"
  | .str _ => "str"
  | .list _ => "list"
  | .tuple _ => "tuple"
  | .dict _ => "dict"
theorem tyx_d {K : PySem.W.Frag} {H : Hp} {x : V} {d : PyData} (h : Dp K H x d) : TyX K H x (.type (tyD d)) := by
  cases h with
  | non => exact .base .non
  | bl b => exact .base (.bl b)
  | int i => exact .base (.int i)
  | str x => exact .base (.str x)
  | lst h _ => exact tyx_list h
  | tup h _ => exact tyx_tup h
section
variable {P : Program} {w : World} {K : PySem.W.Frag} {mg : Str → Option Value} {base : Heap}
def spIsInt : Sp := fun vs H Q _ => ∃ i : Int, vs = [.int i] ∧ Q (.bl true) H
theorem d_is_integer (B : Bt mg) (A : At K mg "_law_is_integer" s__law_is_integer ["actual"]) : DefOk P w K mg base CX0 1 "_law_is_integer" ["actual"] spIsInt := by
  refine A.ok sc__law_is_integer (fun vs H Q E h => ?_) (fun f cdv A outer s H vs Q E hr h => ?_)
  · obtain ⟨i, rfl, _⟩ := h
    rfl
  obtain ⟨i, rfl, q⟩ := h
  refine ⟨_, pss_one (ps_ret (pe_and (pe_callB (call_isi) (by rfl) B.isinstance (by decide +kernel) (pa_cons (pv 0) (pa_cons (pe_bltn (v := .ty "int") (u := .type "int") (by rfl) B.int (by decide +kernel) rfl) pa_nil))) (pe_one (pe_not (pe_callB (call_isi) (by rfl) B.isinstance (by decide +kernel) (pa_cons (pv 0) (pa_cons (pe_bltn (v := .ty "bool") (u := .type "bool") (by rfl) B.bool (by decide +kernel) rfl) pa_nil)))))))
    , ?_⟩
  refine ⟨_, rfl, _, .ty "int", _, _, true, rfl, .ty "int", .base (.int i), kit_ty (by decide +kernel), true, rfl, iteT ?_⟩
  exact ⟨_, rfl, _, .ty "bool", _, _, false, rfl, .ty "bool", .base (.int i), kit_ty (by decide +kernel), false, rfl, q⟩
/-- two values that read as the same data of at most n layers -/
def spSame (K : PySem.W.Frag) (n : Nat) : Sp := fun vs H Q _ => ∃ (x y : V) (d : PyData), vs = [x, y] ∧ Fit n d ∧ Dp K H x d ∧ Dp K H y d ∧ Q (.bl true) H
theorem d_same1 {n : Nat} (B : Bt mg) (D_law_is_integer : DefOk P w K mg base CX0 1 "_law_is_integer" ["actual"] spIsInt) (D_law_same : DefOk P w K mg base CX0 (n + 1) "_law_same" ["actual", "expected"] (spSame K n))
    (A : At K mg "_law_same" s__law_same ["actual", "expected"]) : DefOk P w K mg base CX0 (n + 2) "_law_same" ["actual", "expected"] (spSame K (n + 1)) := by
  refine A.ok sc__law_same (fun vs H Q E h => ?_) (fun f cdv A outer s H vs Q E hr h => ?_)
  · obtain ⟨x, y, d, rfl, _⟩ := h
    rfl
  obtain ⟨x, y, d, rfl, fit, dx, dy, q⟩ := h
  refine ⟨_, pss_cons (ps_if (pt_cmpR op_isN (pv 1) pe_non (nomark _))
      (pss_one (ps_ret (pe_cmpR op_isN (pv 0) pe_non (nomark _))))
      (pss_nil))
  (pss_cons (ps_if (pt_val (pe_callB (call_isi) (by rfl) B.isinstance (by decide +kernel) (pa_cons (pv 1) (pa_cons (pe_bltn (v := .ty "bool") (u := .type "bool") (by rfl) B.bool (by decide +kernel) rfl) pa_nil))))
      (pss_one (ps_ret (pe_and (pe_callB (call_isi) (by rfl) B.isinstance (by decide +kernel) (pa_cons (pv 0) (pa_cons (pe_bltn (v := .ty "bool") (u := .type "bool") (by rfl) B.bool (by decide +kernel) rfl) pa_nil))) (pe_one (pe_cmpR op_eq (pv 0) (pv 1) (nomark _))))))
      (pss_nil))
  (pss_cons (ps_if (pt_val (pe_callB (call_isi) (by rfl) B.isinstance (by decide +kernel) (pa_cons (pv 1) (pa_cons (pe_bltn (v := .ty "int") (u := .type "int") (by rfl) B.int (by decide +kernel) rfl) pa_nil))))
      (pss_one (ps_ret (pe_and (pe_f D_law_is_integer (hr.mono (by omega)) pass0 (pa_cons (pv 0) pa_nil)) (pe_one (pe_cmpR op_eq (pv 0) (pv 1) (nomark _))))))
      (pss_nil))
  (pss_cons (ps_if (pt_val (pe_callB (call_isi) (by rfl) B.isinstance (by decide +kernel) (pa_cons (pv 1) (pa_cons (pe_bltn (v := .ty "str") (u := .type "str") (by rfl) B.str (by decide +kernel) rfl) pa_nil))))
      (pss_one (ps_ret (pe_and (pe_callB (call_isi) (by rfl) B.isinstance (by decide +kernel) (pa_cons (pv 0) (pa_cons (pe_bltn (v := .ty "str") (u := .type "str") (by rfl) B.str (by decide +kernel) rfl) pa_nil))) (pe_one (pe_cmpR op_eq (pv 0) (pv 1) (nomark _))))))
      (pss_nil))
  (pss_cons (ps_if (PW.pt (pw_and (pt_val (pe_callB (call_isi) (by rfl) B.isinstance (by decide +kernel) (pa_cons (pv 1) (pa_cons (pe_bltn (v := .ty "tuple") (u := .type "tuple") (by rfl) B.tuple (by decide +kernel) rfl) pa_nil)))) (pw_and1 (pt_not (pt_val (pe_callB (call_isi) (by rfl) B.isinstance (by decide +kernel) (pa_cons (pv 0) (pa_cons (pe_bltn (v := .ty "tuple") (u := .type "tuple") (by rfl) B.tuple (by decide +kernel) rfl) pa_nil))))))))
      (pss_one (ps_ret pe_bl))
      (pss_nil))
  (pss_cons (ps_if (PW.pt (pw_and (pt_val (pe_callB (call_isi) (by rfl) B.isinstance (by decide +kernel) (pa_cons (pv 1) (pa_cons (pe_bltn (v := .ty "list") (u := .type "list") (by rfl) B.list (by decide +kernel) rfl) pa_nil)))) (pw_and1 (pt_not (pt_val (pe_callB (call_isi) (by rfl) B.isinstance (by decide +kernel) (pa_cons (pv 0) (pa_cons (pe_bltn (v := .ty "list") (u := .type "list") (by rfl) B.list (by decide +kernel) rfl) pa_nil))))))))
      (pss_one (ps_ret pe_bl))
      (pss_nil))
  (pss_cons (ps_if (pt_cmpR op_ne (pe_callB (call_len_seq) (by rfl) B.len (by decide +kernel) (pa_cons (pv 0) pa_nil)) (pe_callB (call_len_seq) (by rfl) B.len (by decide +kernel) (pa_cons (pv 1) pa_nil)) (nomark _))
      (pss_one (ps_ret pe_bl))
      (pss_nil))
  (pss_cons (ps_for PassesOwn.never rfl (pi_range1 (by rfl) B.range (pa_cons (pe_callB (call_len_seq) (by rfl) B.len (by decide +kernel) (pa_cons (pv 1) pa_nil)) pa_nil)) (pg_name (i := 2) sc__law_same.nd rfl (Or.inl rfl))
      (pss_one (ps_if (pt_not (pt_val (pe_f D_law_same (hr.mono (by omega)) pass0 (pa_cons (pe_ix ix_seq (pv 0) (pv 2) (fun _ _ => rfl)) (pa_cons (pe_ix ix_seq (pv 1) (pv 2) (fun _ _ => rfl)) pa_nil)))))
          (pss_one (ps_ret pe_bl))
          (pss_nil))))
  (pss_one (ps_ret pe_bl)))))))))
    , ?_⟩
  cases d with
  | none =>
    cases dx
    cases dy
    exact ⟨_, rfl, rfl, _, rfl, iteT' (by decide) ⟨_, rfl, rfl, q⟩⟩
  | bool b =>
    cases dx
    cases dy
    refine ⟨_, rfl, rfl, _, rfl, iteF' (decide_eq_false (fun z => nomatch z)) ⟨_, rfl, ⟨_, _, _, _, true, rfl, .ty _, tyx_d (.bl b), kit_ty (by simp only [tyD]; decide +kernel), ⟨_, rfl, iteT ?_⟩⟩⟩⟩
    refine ⟨_, rfl, ⟨_, _, _, _, true, rfl, .ty _, tyx_d (.bl b), kit_ty (by simp only [tyD]; decide +kernel), ⟨_, rfl, iteT ⟨_, rfl, _, rfl, rfl, ?_⟩⟩⟩⟩
    rw [decide_eq_true (rfl : V.bl b = V.bl b)]
    exact q
  | int i =>
    cases dx
    cases dy
    refine ⟨_, rfl, rfl, _, rfl, iteF' (decide_eq_false (fun z => nomatch z)) ⟨_, rfl, ⟨_, _, _, _, false, rfl, .ty _, tyx_d (.int i), kit_ty (by simp only [tyD]; decide +kernel), ⟨_, rfl, iteF ?_⟩⟩⟩⟩
    refine ⟨_, rfl, ⟨_, _, _, _, true, rfl, .ty _, tyx_d (.int i), kit_ty (by simp only [tyD]; decide +kernel), ⟨_, rfl, iteT ?_⟩⟩⟩
    refine ⟨_, rfl, i, rfl, _, rfl, iteT ⟨_, rfl, _, rfl, rfl, ?_⟩⟩
    rw [decide_eq_true (rfl : V.int i = V.int i)]
    exact q
  | str z =>
    cases dx
    cases dy
    refine ⟨_, rfl, rfl, _, rfl, iteF' (decide_eq_false (fun z => nomatch z)) ⟨_, rfl, ⟨_, _, _, _, false, rfl, .ty _, tyx_d (.str z), kit_ty (by simp only [tyD]; decide +kernel), ⟨_, rfl, iteF ?_⟩⟩⟩⟩
    refine ⟨_, rfl, ⟨_, _, _, _, false, rfl, .ty _, tyx_d (.str z), kit_ty (by simp only [tyD]; decide +kernel), ⟨_, rfl, iteF ?_⟩⟩⟩
    refine ⟨_, rfl, ⟨_, _, _, _, true, rfl, .ty _, tyx_d (.str z), kit_ty (by simp only [tyD]; decide +kernel), ⟨_, rfl, iteT ?_⟩⟩⟩
    refine ⟨_, rfl, ⟨_, _, _, _, true, rfl, .ty _, tyx_d (.str z), kit_ty (by simp only [tyD]; decide +kernel), ⟨_, rfl, iteT ⟨_, rfl, _, rfl, rfl, ?_⟩⟩⟩⟩
    rw [decide_eq_true (rfl : V.str z = V.str z)]
    exact q
  | dict kvs => cases fit
  | list ds =>
    have dx' := dx
    have dy' := dy
    cases dx with
    | @lst a xs _ hx ax =>
    cases dy with
    | @lst b ys _ hy ay =>
    refine ⟨_, rfl, rfl, _, rfl, iteF' (decide_eq_false (fun z => nomatch z)) ⟨_, rfl, ⟨_, _, _, _, false, rfl, .ty _, tyx_d dy', kit_ty (by simp only [tyD]; decide +kernel), ⟨_, rfl, iteF ?_⟩⟩⟩⟩
    refine ⟨_, rfl, ⟨_, _, _, _, false, rfl, .ty _, tyx_d dy', kit_ty (by simp only [tyD]; decide +kernel), ⟨_, rfl, iteF ?_⟩⟩⟩
    refine ⟨_, rfl, ⟨_, _, _, _, false, rfl, .ty _, tyx_d dy', kit_ty (by simp only [tyD]; decide +kernel), ⟨_, rfl, iteF ?_⟩⟩⟩
    refine ⟨_, rfl, ⟨_, _, _, _, false, rfl, .ty _, tyx_d dy', kit_ty (by simp only [tyD]; decide +kernel), ⟨_, rfl, iteF ?_⟩⟩⟩
    refine iteF ?_
    refine ⟨_, rfl, ⟨_, _, _, _, true, rfl, .ty _, tyx_d dy', kit_ty (by simp only [tyD]; decide +kernel), ⟨_, rfl, iteT ?_⟩⟩⟩
    refine ⟨_, rfl, ⟨_, _, _, _, true, rfl, .ty _, tyx_d dx', kit_ty (by simp only [tyD]; decide +kernel), ⟨_, rfl, iteF ?_⟩⟩⟩
    have lx := dpAll_len ax
    have ly := dpAll_len ay
    refine ⟨_, rfl, a, _, rfl, .inl hx, _, rfl, b, _, rfl, .inl hy, rfl, _, rfl, iteF' (by rw [lx, ly, decide_eq_true rfl]; rfl) ?_⟩
    have fl := fit.1
    refine ⟨_, rfl, b, _, rfl, .inl hy, _, rfl, by omega, by omega, for_range (lo := 0) (n := ys.length) (fun i σ H' => H' = H ∧ ∃ y2, σ = [some (.ref a), some (.ref b), y2]) ⟨rfl, none, rfl⟩ (fun i σ H1 hi hI => ?_) (fun σ H1 hI => ?_)⟩
    · obtain ⟨rfl, y2, rfl⟩ := hI
      obtain ⟨u, d1, u1, u2, u3⟩ := dpAll_at i ax (by omega)
      obtain ⟨v, d2, v1, v2, v3⟩ := dpAll_at i ay (by omega)
      have e : d1 = d2 := Option.some.inj (u2.symm.trans v2)
      subst e
      have fd := fit.2 d1 (List.mem_of_getElem? u2)
      have u4 : atI xs (0 + (i : Int)) = some u := by rw [Int.zero_add]; exact atI_nat u1
      have v4 : atI ys (0 + (i : Int)) = some v := by rw [Int.zero_add]; exact atI_nat v1
      refine ⟨_, rfl, _, rfl, .inl ⟨a, _, _, u, rfl, rfl, hx, u4, _, rfl, _, rfl, .inl ⟨b, _, _, v, rfl, rfl, hy, v4, u, v, d1, rfl, fd, u3, v3, ?_⟩⟩⟩
      exact ⟨_, rfl, iteF ⟨rfl, _, rfl⟩⟩
    · obtain ⟨rfl, y2, rfl⟩ := hI
      exact q
  | tuple ds =>
    have dx' := dx
    have dy' := dy
    cases dx with
    | @tup a xs _ hx ax =>
    cases dy with
    | @tup b ys _ hy ay =>
    refine ⟨_, rfl, rfl, _, rfl, iteF' (decide_eq_false (fun z => nomatch z)) ⟨_, rfl, ⟨_, _, _, _, false, rfl, .ty _, tyx_d dy', kit_ty (by simp only [tyD]; decide +kernel), ⟨_, rfl, iteF ?_⟩⟩⟩⟩
    refine ⟨_, rfl, ⟨_, _, _, _, false, rfl, .ty _, tyx_d dy', kit_ty (by simp only [tyD]; decide +kernel), ⟨_, rfl, iteF ?_⟩⟩⟩
    refine ⟨_, rfl, ⟨_, _, _, _, false, rfl, .ty _, tyx_d dy', kit_ty (by simp only [tyD]; decide +kernel), ⟨_, rfl, iteF ?_⟩⟩⟩
    refine ⟨_, rfl, ⟨_, _, _, _, true, rfl, .ty _, tyx_d dy', kit_ty (by simp only [tyD]; decide +kernel), ⟨_, rfl, iteT ?_⟩⟩⟩
    refine ⟨_, rfl, ⟨_, _, _, _, true, rfl, .ty _, tyx_d dx', kit_ty (by simp only [tyD]; decide +kernel), ⟨_, rfl, iteF ?_⟩⟩⟩
    refine ⟨_, rfl, ⟨_, _, _, _, false, rfl, .ty _, tyx_d dy', kit_ty (by simp only [tyD]; decide +kernel), ⟨_, rfl, iteF ?_⟩⟩⟩
    refine iteF ?_
    have lx := dpAll_len ax
    have ly := dpAll_len ay
    refine ⟨_, rfl, a, _, rfl, .inr hx, _, rfl, b, _, rfl, .inr hy, rfl, _, rfl, iteF' (by rw [lx, ly, decide_eq_true rfl]; rfl) ?_⟩
    have fl := fit.1
    refine ⟨_, rfl, b, _, rfl, .inr hy, _, rfl, by omega, by omega, for_range (lo := 0) (n := ys.length) (fun i σ H' => H' = H ∧ ∃ y2, σ = [some (.ref a), some (.ref b), y2]) ⟨rfl, none, rfl⟩ (fun i σ H1 hi hI => ?_) (fun σ H1 hI => ?_)⟩
    · obtain ⟨rfl, y2, rfl⟩ := hI
      obtain ⟨u, d1, u1, u2, u3⟩ := dpAll_at i ax (by omega)
      obtain ⟨v, d2, v1, v2, v3⟩ := dpAll_at i ay (by omega)
      have e : d1 = d2 := Option.some.inj (u2.symm.trans v2)
      subst e
      have fd := fit.2 d1 (List.mem_of_getElem? u2)
      have u4 : atI xs (0 + (i : Int)) = some u := by rw [Int.zero_add]; exact atI_nat u1
      have v4 : atI ys (0 + (i : Int)) = some v := by rw [Int.zero_add]; exact atI_nat v1
      refine ⟨_, rfl, _, rfl, .inr (.inl ⟨a, _, _, u, rfl, rfl, hx, u4, _, rfl, _, rfl, .inr (.inl ⟨b, _, _, v, rfl, rfl, hy, v4, u, v, d1, rfl, fd, u3, v3, ?_⟩)⟩)⟩
      exact ⟨_, rfl, iteF ⟨rfl, _, rfl⟩⟩
    · obtain ⟨rfl, y2, rfl⟩ := hI
      exact q
theorem none_same (A : At K mg "_law_same" s__law_same ["actual", "expected"]) : DefOk P w K mg base CX0 1 "_law_same" ["actual", "expected"] (spSame K 0) := by
  obtain ⟨f, fd, G, m, b⟩ := A.ex
  have no : ∀ vs H Q E, ¬ spSame K 0 vs H Q E := fun vs H Q E h => by
    obtain ⟨x, y, d, _, fit, _⟩ := h
    cases d <;> exact fit
  obtain ⟨oc, od, _, _, _, _, _, _, osl, _, lk, _⟩ := G.ex
  exact ⟨f, fd, ⟨fun vs H Q E h => absurd h (no vs H Q E), fun A outer s H args us vs Q E _ _ _ _ h => absurd h (no vs H Q E)⟩, m, G.kp, b, oc, od, osl, lk⟩
theorem d_same (B : Bt mg) (D : DefOk P w K mg base CX0 1 "_law_is_integer" ["actual"] spIsInt) (A : At K mg "_law_same" s__law_same ["actual", "expected"]) :
    ∀ n : Nat, DefOk P w K mg base CX0 (n + 1) "_law_same" ["actual", "expected"] (spSame K n)
  | 0 => none_same A
  | n + 1 => d_same1 B D (d_same B D A n) A
end
end DP
namespace DP
open PySem PySem.Spec PyProof.Rows L2
mutual
theorem dp_map {K : PySem.W.Frag} {H H' : Hp} (fT : ∀ b xs, SqT K H b xs → SqT K H' b xs) (fL : ∀ b xs, SqL K H b xs → SqL K H' b xs) : ∀ {v : V} {d : PyData}, Dp K H v d → Dp K H' v d
  | _, _, .non => .non
  | _, _, .bl b => .bl b
  | _, _, .int i => .int i
  | _, _, .str x => .str x
  | _, _, .lst h t => .lst (fL _ _ h) (dpAll_map fT fL t)
  | _, _, .tup h t => .tup (fT _ _ h) (dpAll_map fT fL t)
theorem dpAll_map {K : PySem.W.Frag} {H H' : Hp} (fT : ∀ b xs, SqT K H b xs → SqT K H' b xs) (fL : ∀ b xs, SqL K H b xs → SqL K H' b xs) : ∀ {xs : List V} {ds : List PyData}, DpAll K H xs ds → DpAll K H' xs ds
  | _, _, .nil => .nil
  | _, _, .cons a t => .cons (dp_map fT fL a) (dpAll_map fT fL t)
end
theorem dp_same {K : PySem.W.Frag} {H H' : Hp} (s : Same H H') {v : V} {d : PyData} (h : Dp K H v d) : Dp K H' v d := dp_map (fun _ _ => Same.tup s) (fun _ _ => s.seq) h
end DP
namespace DP
open PySem PySem.Spec PyProof.Rows L2
abbrev oor : Str := "number out of range"
theorem due_at {ws : List Str} {r : Nat} {u : Str} (h : ws[r]? = some u) (hn : u ≠ Str.ofString "") : rdDue ws r = .ok u := by
  unfold rdDue
  rw [h]
  exact if_neg hn
theorem choice_at {ws : List Str} {r : Nat} {x : Str} (h : ws[r]? = some x) (hn : x ≠ Str.ofString "") : rdChoice ws r [x] = .ok x := by
  unfold rdChoice
  rw [due_at h hn]
  exact if_pos List.mem_cons_self
theorem num_ne {m : Int} (h0 : 0 ≤ m) (h1 : m < 10000000) : num m ≠ Str.ofString "" := fun z => (num_wd h0 h1).1 (by rw [z]; decide +kernel)
theorem num_at {ws : List Str} {r : Nat} {lo hi m : Int} (h : ws[r]? = some (num m)) (h0 : 0 ≤ m) (h1 : m < 10000000) : rdNum ws r lo hi = if m < lo ∨ hi < m then .error (r, oor) else .ok m := by
  unfold rdNum
  rw [due_at h (num_ne h0 h1)]
  dsimp only
  rw [if_pos (isNumB_of h0 h1), numV_num h0 h1]
theorem fld_at {ws : List Str} {r : Nat} {x : Str} {lo hi m : Int} (h : ws[r]? = some x) (hx : x ≠ Str.ofString "") (h2 : ws[r + 1]? = some (num m)) (b : 0 ≤ m ∧ m < 10000000) : rdField ws r x lo hi = if m < lo ∨ hi < m then .error (r + 1, oor) else .ok m := by
  unfold rdField
  rw [choice_at h hx]
  exact num_at h2 b.1 b.2
theorem name_ne {u : Str} (h : NameOk u) : u ≠ Str.ofString "" := fun z => h.wd.1 (by rw [z]; decide +kernel)
theorem isNameB_of {u : Str} (h : NameOk u) : isNameB u = true := by
  have hs := h.signs
  obtain ⟨c, r, e, hc, _, hl⟩ := h
  have hlen : u.length ≤ 15 := by
    rw [TL.len_tl, show TL.tl u = tl u from rfl, e, List.length_cons]
    omega
  unfold isNameB
  rw [decide_eq_false (by omega), e, List.head?_cons]
  dsimp only
  rw [show letC c = true from decide_eq_true (let_in hc), ← e]
  refine List.all_eq_true.mpr fun x hx => ?_
  rcases Bool.or_eq_true _ _ ▸ hs x hx with z | z
  · rw [show letC x = true from decide_eq_true (let_in z)]; rfl
  · rw [show digC x = true from digC_of (isD_lt z), Bool.or_true]
theorem dname_at {ws : List Str} {r : Nat} {u : Str} (h : ws[r]? = some u) (hu : NameOk u) : rdDueName ws r = .ok u := by
  unfold rdDueName
  rw [due_at h (name_ne hu)]
  exact if_pos (isNameB_of hu)
theorem new_at {ws : List Str} {r : Nat} {u : Str} {used : List Str} (h : ws[r]? = some u) (hu : NameOk u) (hn : u ∉ used) : rdNew ws r used = .ok u := by
  unfold rdNew
  rw [dname_at h hu]
  exact if_neg hn
theorem known_at {ws : List Str} {r : Nat} {u : Str} {ns : List Str} (h : ws[r]? = some u) (hu : NameOk u) (hn : u ∈ ns) : rdKnown ws r ns 0 = .ok (idxS u ns) := by
  unfold rdKnown
  rw [dname_at h hu]
  dsimp only
  rw [if_pos hn, if_neg (by omega)]
theorem seq2_if {α β : Type} {c : Prop} [Decidable c] {e : Er} {x : Rd α} {f : α → Rd β} : seq2 (if c then .error e else x) f = if c then .error e else seq2 x f := by split <;> rfl
theorem min_lt2 {x y z : Int} : ((if x < y then x else y) < z) = (x < z ∨ y < z) := by
  split <;> exact propext (by omega)
theorem seq2_okv {α β : Type} {a : α} {f : α → Rd β} : seq2 (.ok a : Rd α) f = f a := rfl
theorem light2 {ws : List Str} {h l1 l2 : Int} (hlen : ws.length = 17) (h1 : ws[15]? = some (num l1)) (h2 : ws[16]? = some (num l2)) (b1 : 0 ≤ l1 ∧ l1 < 10000000) (b2 : 0 ≤ l2 ∧ l2 < 10000000) :
    rdLight ws h ws.length 15 0 = if l1 < 0 ∨ h - 1 < l1 then .error (15, oor) else if l2 < l1 + 1 ∨ h < l2 then .error (16, oor) else .ok () := by
  rw [hlen]
  show (if 15 < ws.length then (match rdNum ws 15 0 (h - 1) with | .error e => Except.error e | .ok f => match rdNum ws 16 (f + 1) h with | .error e => Except.error e | .ok g => rdLight ws h 16 17 g) else Except.ok ()) = _
  rw [hlen, if_pos (by decide), num_at h1 b1.1 b1.2]
  by_cases c : l1 < 0 ∨ h - 1 < l1
  · rw [if_pos c, if_pos c]
  · rw [if_neg c, if_neg c]
    dsimp only
    rw [num_at h2 b2.1 b2.2]
    by_cases c2 : l2 < l1 + 1 ∨ h < l2
    · rw [if_pos c2, if_pos c2]
    · rw [if_neg c2, if_neg c2]
      show (if 17 < ws.length then _ else _) = _
      rw [hlen]
      rfl
theorem sort_at {ws : List Str} {k i : Nat} {N : List (List Str)} {x : Str} (h0 : ws[0]? = some x) (hx : x ≠ Str.ofString "") (hm : x ∈ sortsL) (hi : idxS x sortsL = i) (hk : ¬ i < k) (hl : ((nmsAt N i).length : Int) ≠ mostN i) : rdSort ws k N = .ok i := by
  unfold rdSort
  rw [due_at h0 hx, seq2_okv]
  rw [if_pos hm, hi, if_neg hk, if_neg hl]
theorem line_ok {h : Int} {k i : Nat} {N : List (List Str)} {ws : List Str} {nm : Str} (h1 : rdSort ws k N = .ok i) (h2 : rdKind i ws h N = .ok nm) (h3 : ¬ finK i ws < ws.length) : rdLine h k N ws = .ok (i, N.set i (nmsAt N i ++ [nm])) := by
  unfold rdLine
  rw [h1, seq2_okv, h2, seq2_okv, show rdFinish ws (finK i ws) = .ok () by unfold rdFinish; rw [if_neg h3], seq2_okv]
theorem line_err {h : Int} {k i : Nat} {N : List (List Str)} {ws : List Str} {e : Er} (h1 : rdSort ws k N = .ok i) (h2 : rdKind i ws h N = .error e) : rdLine h k N ws = .error e := by
  unfold rdLine
  rw [h1, seq2_okv, h2]
  rfl
theorem all_ok {h n : Int} {k : Nat} {N : List (List Str)} {ws : List Str} {rest : List (List Str)} {s : Nat × List (List Str)} (h1 : rdLine h k N ws = .ok s) : rdAll h (ws :: rest) n k N = rdAll h rest (n + 1) s.1 s.2 := by
  show (match rdLine h k N ws with | .error e => Except.error (n, colW ws e.1, e.2) | .ok s => rdAll h rest (n + 1) s.1 s.2) = _
  rw [h1]
theorem all_err {h n : Int} {k : Nat} {N : List (List Str)} {ws : List Str} {rest : List (List Str)} {e : Er} (h1 : rdLine h k N ws = .error e) : rdAll h (ws :: rest) n k N = .error (n, colW ws e.1, e.2) := by
  show (match rdLine h k N ws with | .error e => Except.error (n, colW ws e.1, e.2) | .ok s => rdAll h rest (n + 1) s.1 s.2) = _
  rw [h1]
def horL (h : Int) : List Str := [Str.ofString "horizon", num h]
theorem hor_at {h : Int} (b : 0 ≤ h ∧ h < 10000000) {rest : List (List Str)} : rdText (horL h :: rest) Str.empty = if h < 1 ∨ 500 < h then .error (1, colW (horL h) 1, oor) else (match rdAll h rest 2 0 [[], [], [], []] with | .error f => .error f | .ok _ => .ok h) := by
  unfold rdText
  rw [if_pos rfl]
  show (match (seq2 (rdField (horL h) 0 "horizon" 1 500) fun h' => seq2 (rdFinish (horL h) 2) fun _ => (Except.ok h' : Rd Int)) with | .error e => Except.error (1, colW (horL h) e.1, e.2) | .ok h' => match rdAll h' rest 2 0 [[], [], [], []] with | .error f => Except.error f | .ok _ => Except.ok h') = _
  rw [fld_at (ws := horL h) (r := 0) (m := h) rfl (by decide +kernel) rfl b, seq2_if]
  by_cases c : h < 1 ∨ 500 < h
  · rw [if_pos c, if_pos c]
  · rw [if_neg c, if_neg c, seq2_okv]
    rfl
def satL (n0 : Str) (a1 a2 a3 a4 a5 a6 l1 l2 : Int) : List Str := [Str.ofString "satellite", n0, Str.ofString "store", num a1, Str.ofString "battery", num a2, Str.ofString "level", num a3, Str.ofString "reserve", num a4, Str.ofString "charge", num a5, Str.ofString "settle", num a6, Str.ofString "light", num l1, num l2]
theorem sat_eval {h a1 a2 a3 a4 a5 a6 l1 l2 : Int} {n0 : Str} (Hn0 : NameOk n0) (b_a1 : 0 ≤ a1 ∧ a1 < 10000000) (b_a2 : 0 ≤ a2 ∧ a2 < 10000000) (b_a3 : 0 ≤ a3 ∧ a3 < 10000000) (b_a4 : 0 ≤ a4 ∧ a4 < 10000000) (b_a5 : 0 ≤ a5 ∧ a5 < 10000000) (b_a6 : 0 ≤ a6 ∧ a6 < 10000000) (b_l1 : 0 ≤ l1 ∧ l1 < 10000000) (b_l2 : 0 ≤ l2 ∧ l2 < 10000000) : rdSat (satL n0 a1 a2 a3 a4 a5 a6 l1 l2) h [] = if a1 < 0 ∨ 1000000 < a1 then .error (3, oor) else if a2 < 0 ∨ 1000000 < a2 then .error (5, oor) else if a3 < 0 ∨ a2 < a3 then .error (7, oor) else if a4 < 0 ∨ a3 < a4 then .error (9, oor) else if a5 < 0 ∨ 1000 < a5 then .error (11, oor) else if a6 < 0 ∨ 60 < a6 then .error (13, oor) else if l1 < 0 ∨ h - 1 < l1 then .error (15, oor) else if l2 < l1 + 1 ∨ h < l2 then .error (16, oor) else .ok n0 := by
  have f0 : rdNew (satL n0 a1 a2 a3 a4 a5 a6 l1 l2) 1 [] = .ok n0 := new_at rfl Hn0 List.not_mem_nil
  have f1 : ∀ lo hi, rdField (satL n0 a1 a2 a3 a4 a5 a6 l1 l2) 2 "store" lo hi = if a1 < lo ∨ hi < a1 then .error (3, oor) else .ok a1 := fun lo hi => fld_at rfl (by decide +kernel) rfl b_a1
  have f2 : ∀ lo hi, rdField (satL n0 a1 a2 a3 a4 a5 a6 l1 l2) 4 "battery" lo hi = if a2 < lo ∨ hi < a2 then .error (5, oor) else .ok a2 := fun lo hi => fld_at rfl (by decide +kernel) rfl b_a2
  have f3 : ∀ lo hi, rdField (satL n0 a1 a2 a3 a4 a5 a6 l1 l2) 6 "level" lo hi = if a3 < lo ∨ hi < a3 then .error (7, oor) else .ok a3 := fun lo hi => fld_at rfl (by decide +kernel) rfl b_a3
  have f4 : ∀ lo hi, rdField (satL n0 a1 a2 a3 a4 a5 a6 l1 l2) 8 "reserve" lo hi = if a4 < lo ∨ hi < a4 then .error (9, oor) else .ok a4 := fun lo hi => fld_at rfl (by decide +kernel) rfl b_a4
  have f5 : ∀ lo hi, rdField (satL n0 a1 a2 a3 a4 a5 a6 l1 l2) 10 "charge" lo hi = if a5 < lo ∨ hi < a5 then .error (11, oor) else .ok a5 := fun lo hi => fld_at rfl (by decide +kernel) rfl b_a5
  have f6 : ∀ lo hi, rdField (satL n0 a1 a2 a3 a4 a5 a6 l1 l2) 12 "settle" lo hi = if a6 < lo ∨ hi < a6 then .error (13, oor) else .ok a6 := fun lo hi => fld_at rfl (by decide +kernel) rfl b_a6
  have c1 : rdChoice (satL n0 a1 a2 a3 a4 a5 a6 l1 l2) 14 ["light"] = .ok (Str.ofString "light") := choice_at rfl (by decide +kernel)
  have li : rdLight (satL n0 a1 a2 a3 a4 a5 a6 l1 l2) h (satL n0 a1 a2 a3 a4 a5 a6 l1 l2).length 15 0 = _ := light2 rfl rfl rfl b_l1 b_l2
  simp only [rdSat, f0, f1, f2, f3, f4, f5, f6, c1, li, seq2_if, seq2_okv, min_lt2]
def staL (n1 : Str) (a1 a2 : Int) : List Str := [Str.ofString "station", n1, Str.ofString "antennas", num a1, Str.ofString "turn", num a2]
theorem sta_eval {a1 a2 : Int} {n1 : Str} (Hn1 : NameOk n1) (b_a1 : 0 ≤ a1 ∧ a1 < 10000000) (b_a2 : 0 ≤ a2 ∧ a2 < 10000000) : rdSta (staL n1 a1 a2) [] = if a1 < 1 ∨ 3 < a1 then .error (3, oor) else if a2 < 0 ∨ 60 < a2 then .error (5, oor) else .ok n1 := by
  have f0 : rdNew (staL n1 a1 a2) 1 [] = .ok n1 := new_at rfl Hn1 List.not_mem_nil
  have f1 : ∀ lo hi, rdField (staL n1 a1 a2) 2 "antennas" lo hi = if a1 < lo ∨ hi < a1 then .error (3, oor) else .ok a1 := fun lo hi => fld_at rfl (by decide +kernel) rfl b_a1
  have f2 : ∀ lo hi, rdField (staL n1 a1 a2) 4 "turn" lo hi = if a2 < lo ∨ hi < a2 then .error (5, oor) else .ok a2 := fun lo hi => fld_at rfl (by decide +kernel) rfl b_a2
  simp only [rdSta, f0, f1, f2, seq2_if, seq2_okv, min_lt2]
def recL (n2 n0 : Str) (a1 a2 a3 a4 a5 a6 a7 a8 : Int) : List Str := [Str.ofString "recording", n2, Str.ofString "by", n0, Str.ofString "from", num a1, Str.ofString "to", num a2, Str.ofString "length", num a3, Str.ofString "size", num a4, Str.ofString "energy", num a5, Str.ofString "worth", num a6, Str.ofString "rank", num a7, Str.ofString "until", num a8]
theorem rec_eval {h a1 a2 a3 a4 a5 a6 a7 a8 : Int} {n2 n0 : Str} (Hn2 : NameOk n2) (Hn0 : NameOk n0) (b_a1 : 0 ≤ a1 ∧ a1 < 10000000) (b_a2 : 0 ≤ a2 ∧ a2 < 10000000) (b_a3 : 0 ≤ a3 ∧ a3 < 10000000) (b_a4 : 0 ≤ a4 ∧ a4 < 10000000) (b_a5 : 0 ≤ a5 ∧ a5 < 10000000) (b_a6 : 0 ≤ a6 ∧ a6 < 10000000) (b_a7 : 0 ≤ a7 ∧ a7 < 10000000) (b_a8 : 0 ≤ a8 ∧ a8 < 10000000) : rdRec (recL n2 n0 a1 a2 a3 a4 a5 a6 a7 a8) h [n0] [] = if a1 < 0 ∨ (h - 1) < a1 then .error (5, oor) else if a2 < a1 ∨ (h - 1 < a2 ∨ a1 + 20 < a2) then .error (7, oor) else if a3 < 1 ∨ (h - a2) < a3 then .error (9, oor) else if a4 < 0 ∨ 1000000 < a4 then .error (11, oor) else if a5 < 0 ∨ 1000000 < a5 then .error (13, oor) else if a6 < 1 ∨ 1000 < a6 then .error (15, oor) else if a7 < 1 ∨ 3 < a7 then .error (17, oor) else if a8 < 0 ∨ h < a8 then .error (19, oor) else .ok n2 := by
  have f0 : rdNew (recL n2 n0 a1 a2 a3 a4 a5 a6 a7 a8) 1 [] = .ok n2 := new_at rfl Hn2 List.not_mem_nil
  have f1 : ∀ lo hi, rdField (recL n2 n0 a1 a2 a3 a4 a5 a6 a7 a8) 4 "from" lo hi = if a1 < lo ∨ hi < a1 then .error (5, oor) else .ok a1 := fun lo hi => fld_at rfl (by decide +kernel) rfl b_a1
  have f2 : ∀ lo hi, rdField (recL n2 n0 a1 a2 a3 a4 a5 a6 a7 a8) 6 "to" lo hi = if a2 < lo ∨ hi < a2 then .error (7, oor) else .ok a2 := fun lo hi => fld_at rfl (by decide +kernel) rfl b_a2
  have f3 : ∀ lo hi, rdField (recL n2 n0 a1 a2 a3 a4 a5 a6 a7 a8) 8 "length" lo hi = if a3 < lo ∨ hi < a3 then .error (9, oor) else .ok a3 := fun lo hi => fld_at rfl (by decide +kernel) rfl b_a3
  have f4 : ∀ lo hi, rdField (recL n2 n0 a1 a2 a3 a4 a5 a6 a7 a8) 10 "size" lo hi = if a4 < lo ∨ hi < a4 then .error (11, oor) else .ok a4 := fun lo hi => fld_at rfl (by decide +kernel) rfl b_a4
  have f5 : ∀ lo hi, rdField (recL n2 n0 a1 a2 a3 a4 a5 a6 a7 a8) 12 "energy" lo hi = if a5 < lo ∨ hi < a5 then .error (13, oor) else .ok a5 := fun lo hi => fld_at rfl (by decide +kernel) rfl b_a5
  have f6 : ∀ lo hi, rdField (recL n2 n0 a1 a2 a3 a4 a5 a6 a7 a8) 14 "worth" lo hi = if a6 < lo ∨ hi < a6 then .error (15, oor) else .ok a6 := fun lo hi => fld_at rfl (by decide +kernel) rfl b_a6
  have f7 : ∀ lo hi, rdField (recL n2 n0 a1 a2 a3 a4 a5 a6 a7 a8) 16 "rank" lo hi = if a7 < lo ∨ hi < a7 then .error (17, oor) else .ok a7 := fun lo hi => fld_at rfl (by decide +kernel) rfl b_a7
  have f8 : ∀ lo hi, rdField (recL n2 n0 a1 a2 a3 a4 a5 a6 a7 a8) 18 "until" lo hi = if a8 < lo ∨ hi < a8 then .error (19, oor) else .ok a8 := fun lo hi => fld_at rfl (by decide +kernel) rfl b_a8
  have c1 : rdChoice (recL n2 n0 a1 a2 a3 a4 a5 a6 a7 a8) 2 ["by"] = .ok (Str.ofString "by") := choice_at rfl (by decide +kernel)
  have k1 : rdKnown (recL n2 n0 a1 a2 a3 a4 a5 a6 a7 a8) 3 [n0] 0 = .ok (idxS n0 [n0]) := known_at rfl Hn0 List.mem_cons_self
  simp only [rdRec, f0, f1, f2, f3, f4, f5, f6, f7, f8, c1, k1, seq2_if, seq2_okv, min_lt2]
def pasL (n3 n0 n1 : Str) (a1 a2 a3 a4 a5 : Int) : List Str := [Str.ofString "pass", n3, Str.ofString "by", n0, Str.ofString "over", n1, Str.ofString "from", num a1, Str.ofString "to", num a2, Str.ofString "room", num a3, Str.ofString "energy", num a4, Str.ofString "fee", num a5]
theorem pas_eval {h a1 a2 a3 a4 a5 : Int} {n3 n0 n1 : Str} (Hn3 : NameOk n3) (Hn0 : NameOk n0) (Hn1 : NameOk n1) (b_a1 : 0 ≤ a1 ∧ a1 < 10000000) (b_a2 : 0 ≤ a2 ∧ a2 < 10000000) (b_a3 : 0 ≤ a3 ∧ a3 < 10000000) (b_a4 : 0 ≤ a4 ∧ a4 < 10000000) (b_a5 : 0 ≤ a5 ∧ a5 < 10000000) : rdPas (pasL n3 n0 n1 a1 a2 a3 a4 a5) h [n0] [n1] [] = if a1 < 0 ∨ (h - 1) < a1 then .error (7, oor) else if a2 < (a1 + 1) ∨ h < a2 then .error (9, oor) else if a3 < 0 ∨ 1000000 < a3 then .error (11, oor) else if a4 < 0 ∨ 1000000 < a4 then .error (13, oor) else if a5 < 0 ∨ 1000 < a5 then .error (15, oor) else .ok n3 := by
  have f0 : rdNew (pasL n3 n0 n1 a1 a2 a3 a4 a5) 1 [] = .ok n3 := new_at rfl Hn3 List.not_mem_nil
  have f1 : ∀ lo hi, rdField (pasL n3 n0 n1 a1 a2 a3 a4 a5) 6 "from" lo hi = if a1 < lo ∨ hi < a1 then .error (7, oor) else .ok a1 := fun lo hi => fld_at rfl (by decide +kernel) rfl b_a1
  have f2 : ∀ lo hi, rdField (pasL n3 n0 n1 a1 a2 a3 a4 a5) 8 "to" lo hi = if a2 < lo ∨ hi < a2 then .error (9, oor) else .ok a2 := fun lo hi => fld_at rfl (by decide +kernel) rfl b_a2
  have f3 : ∀ lo hi, rdField (pasL n3 n0 n1 a1 a2 a3 a4 a5) 10 "room" lo hi = if a3 < lo ∨ hi < a3 then .error (11, oor) else .ok a3 := fun lo hi => fld_at rfl (by decide +kernel) rfl b_a3
  have f4 : ∀ lo hi, rdField (pasL n3 n0 n1 a1 a2 a3 a4 a5) 12 "energy" lo hi = if a4 < lo ∨ hi < a4 then .error (13, oor) else .ok a4 := fun lo hi => fld_at rfl (by decide +kernel) rfl b_a4
  have f5 : ∀ lo hi, rdField (pasL n3 n0 n1 a1 a2 a3 a4 a5) 14 "fee" lo hi = if a5 < lo ∨ hi < a5 then .error (15, oor) else .ok a5 := fun lo hi => fld_at rfl (by decide +kernel) rfl b_a5
  have c1 : rdChoice (pasL n3 n0 n1 a1 a2 a3 a4 a5) 2 ["by"] = .ok (Str.ofString "by") := choice_at rfl (by decide +kernel)
  have k1 : rdKnown (pasL n3 n0 n1 a1 a2 a3 a4 a5) 3 [n0] 0 = .ok (idxS n0 [n0]) := known_at rfl Hn0 List.mem_cons_self
  have c2 : rdChoice (pasL n3 n0 n1 a1 a2 a3 a4 a5) 4 ["over"] = .ok (Str.ofString "over") := choice_at rfl (by decide +kernel)
  have k2 : rdKnown (pasL n3 n0 n1 a1 a2 a3 a4 a5) 5 [n1] 0 = .ok (idxS n1 [n1]) := known_at rfl Hn1 List.mem_cons_self
  simp only [rdPas, f0, f1, f2, f3, f4, f5, c1, k1, c2, k2, seq2_if, seq2_okv, min_lt2]
section
variable {h : Int} {n0 n1 n2 n3 : Str} {ls lt lr lp : List Str}
structure FourOk (h : Int) (n0 n1 n2 n3 : Str) (ls lt lr lp : List Str) : Prop where
  b : 1 ≤ h ∧ h ≤ 500
  s0 : ls[0]? = some (Str.ofString "satellite")
  t0 : lt[0]? = some (Str.ofString "station")
  r0 : lr[0]? = some (Str.ofString "recording")
  p0 : lp[0]? = some (Str.ofString "pass")
  tl : lt.length = 6
  rl : lr.length = 20
  pl : lp.length = 16
theorem FourOk.start (F : FourOk h n0 n1 n2 n3 ls lt lr lp) {rest : List (List Str)} : rdText (horL h :: rest) Str.empty = (match rdAll h rest 2 0 [[], [], [], []] with | .error f => .error f | .ok _ => .ok h) := by
  have := F.b
  rw [hor_at (by omega), if_neg (by omega)]
theorem FourOk.ss (F : FourOk h n0 n1 n2 n3 ls lt lr lp) : rdSort ls 0 [[], [], [], []] = .ok 0 := sort_at F.s0 (by decide +kernel) (by decide +kernel) (by decide +kernel) (by decide) (by decide)
theorem FourOk.st (F : FourOk h n0 n1 n2 n3 ls lt lr lp) : rdSort lt 0 [[n0], [], [], []] = .ok 1 := sort_at F.t0 (by decide +kernel) (by decide +kernel) (by decide +kernel) (by decide) (by show ((0 : Nat) : Int) ≠ 3; decide)
theorem FourOk.sr (F : FourOk h n0 n1 n2 n3 ls lt lr lp) : rdSort lr 1 [[n0], [n1], [], []] = .ok 2 := sort_at F.r0 (by decide +kernel) (by decide +kernel) (by decide +kernel) (by decide) (by show ((0 : Nat) : Int) ≠ 10; decide)
theorem FourOk.sp (F : FourOk h n0 n1 n2 n3 ls lt lr lp) : rdSort lp 2 [[n0], [n1], [n2], []] = .ok 3 := sort_at F.p0 (by decide +kernel) (by decide +kernel) (by decide +kernel) (by decide) (by show ((0 : Nat) : Int) ≠ 10; decide)
theorem FourOk.a1 (F : FourOk h n0 n1 n2 n3 ls lt lr lp) (h1 : rdSat ls h [] = .ok n0) : rdAll h [ls, lt, lr, lp] 2 0 [[], [], [], []] = rdAll h [lt, lr, lp] 3 0 [[n0], [], [], []] := all_ok (line_ok F.ss h1 (Nat.lt_irrefl _))
theorem FourOk.a2 (F : FourOk h n0 n1 n2 n3 ls lt lr lp) (h2 : rdSta lt [] = .ok n1) : rdAll h [lt, lr, lp] 3 0 [[n0], [], [], []] = rdAll h [lr, lp] 4 1 [[n0], [n1], [], []] := all_ok (line_ok F.st h2 (by rw [F.tl]; show ¬ (6 < 6); decide))
theorem FourOk.a3 (F : FourOk h n0 n1 n2 n3 ls lt lr lp) (h3 : rdRec lr h [n0] [] = .ok n2) : rdAll h [lr, lp] 4 1 [[n0], [n1], [], []] = rdAll h [lp] 5 2 [[n0], [n1], [n2], []] := all_ok (line_ok F.sr h3 (by rw [F.rl]; show ¬ (20 < 20); decide))
theorem FourOk.a4 (F : FourOk h n0 n1 n2 n3 ls lt lr lp) (h4 : rdPas lp h [n0] [n1] [] = .ok n3) : rdAll h [lp] 5 2 [[n0], [n1], [n2], []] = rdAll h [] 6 3 [[n0], [n1], [n2], [n3]] := all_ok (line_ok F.sp h4 (by rw [F.pl]; show ¬ (16 < 16); decide))
theorem FourOk.all (F : FourOk h n0 n1 n2 n3 ls lt lr lp) (h1 : rdSat ls h [] = .ok n0) (h2 : rdSta lt [] = .ok n1) (h3 : rdRec lr h [n0] [] = .ok n2) (h4 : rdPas lp h [n0] [n1] [] = .ok n3) : rdText [horL h, ls, lt, lr, lp] Str.empty = .ok h := by
  rw [F.start, F.a1 h1, F.a2 h2, F.a3 h3, F.a4 h4]
  rfl
theorem FourOk.e1 (F : FourOk h n0 n1 n2 n3 ls lt lr lp) {e : Er} (h1 : rdSat ls h [] = .error e) : rdText [horL h, ls, lt, lr, lp] Str.empty = .error (2, colW ls e.1, e.2) := by
  rw [F.start, all_err (line_err F.ss h1)]
theorem FourOk.e2 (F : FourOk h n0 n1 n2 n3 ls lt lr lp) {e : Er} (h1 : rdSat ls h [] = .ok n0) (h2 : rdSta lt [] = .error e) : rdText [horL h, ls, lt, lr, lp] Str.empty = .error (3, colW lt e.1, e.2) := by
  rw [F.start, F.a1 h1, all_err (line_err F.st h2)]
end
section
variable {h : Int} {n0 n1 n2 n3 : Str}
theorem sat_dflt (Hb : 30 ≤ h ∧ h ≤ 500) (Hn0 : NameOk n0) (Hn1 : NameOk n1) (Hn2 : NameOk n2) (Hn3 : NameOk n3) : rdSat (satL n0 (5) (60) (50) (0) (1) (2) (2) (h)) h [] = .ok n0 := by
  rw [sat_eval Hn0 (by omega) (by omega) (by omega) (by omega) (by omega) (by omega) (by omega) (by omega)]
  repeat rw [if_neg (by omega)]
theorem sta_dflt (Hb : 30 ≤ h ∧ h ≤ 500) (Hn0 : NameOk n0) (Hn1 : NameOk n1) (Hn2 : NameOk n2) (Hn3 : NameOk n3) : rdSta (staL n1 (2) (4)) [] = .ok n1 := by
  rw [sta_eval Hn1 (by omega) (by omega)]
  repeat rw [if_neg (by omega)]
theorem rec_dflt (Hb : 30 ≤ h ∧ h ≤ 500) (Hn0 : NameOk n0) (Hn1 : NameOk n1) (Hn2 : NameOk n2) (Hn3 : NameOk n3) : rdRec (recL n2 n0 (5) (9) (2) (3) (4) (5) (2) (20)) h [n0] [] = .ok n2 := by
  rw [rec_eval Hn2 Hn0 (by omega) (by omega) (by omega) (by omega) (by omega) (by omega) (by omega) (by omega)]
  repeat rw [if_neg (by omega)]
theorem pas_dflt (Hb : 30 ≤ h ∧ h ≤ 500) (Hn0 : NameOk n0) (Hn1 : NameOk n1) (Hn2 : NameOk n2) (Hn3 : NameOk n3) : rdPas (pasL n3 n0 n1 (12) (h) (3) (4) (5)) h [n0] [n1] [] = .ok n3 := by
  rw [pas_eval Hn3 Hn0 Hn1 (by omega) (by omega) (by omega) (by omega) (by omega)]
  repeat rw [if_neg (by omega)]
theorem g0 (Hb : 30 ≤ h ∧ h ≤ 500) (Hn0 : NameOk n0) (Hn1 : NameOk n1) (Hn2 : NameOk n2) (Hn3 : NameOk n3) : ∀ m ∈ ([0, 1000000] : List Int), rdText [horL h, (satL n0 (m) (60) (50) (0) (1) (2) (2) (h)), (staL n1 (2) (4)), (recL n2 n0 (5) (9) (2) (3) (4) (5) (2) (20)), (pasL n3 n0 n1 (12) (h) (3) (4) (5))] Str.empty = .ok h := by
  intro m hm
  simp only [List.mem_cons, List.not_mem_nil, or_false] at hm
  have F : FourOk h n0 n1 n2 n3 (satL n0 (m) (60) (50) (0) (1) (2) (2) (h)) (staL n1 (2) (4)) (recL n2 n0 (5) (9) (2) (3) (4) (5) (2) (20)) (pasL n3 n0 n1 (12) (h) (3) (4) (5)) := ⟨by omega, rfl, rfl, rfl, rfl, rfl, rfl, rfl⟩
  refine F.all ?_ (sta_dflt Hb Hn0 Hn1 Hn2 Hn3) (rec_dflt Hb Hn0 Hn1 Hn2 Hn3) (pas_dflt Hb Hn0 Hn1 Hn2 Hn3)
  rw [sat_eval Hn0 (by omega) (by omega) (by omega) (by omega) (by omega) (by omega) (by omega) (by omega)]
  repeat rw [if_neg (by omega)]
theorem b0 (Hb : 30 ≤ h ∧ h ≤ 500) (Hn0 : NameOk n0) (Hn1 : NameOk n1) (Hn2 : NameOk n2) (Hn3 : NameOk n3) : ∀ m ∈ ([1000001] : List Int), rdText [horL h, (satL n0 (m) (60) (50) (0) (1) (2) (2) (h)), (staL n1 (2) (4)), (recL n2 n0 (5) (9) (2) (3) (4) (5) (2) (20)), (pasL n3 n0 n1 (12) (h) (3) (4) (5))] Str.empty = .error (2, colW (satL n0 (m) (60) (50) (0) (1) (2) (2) (h)) 3, oor) := by
  intro m hm
  simp only [List.mem_cons, List.not_mem_nil, or_false] at hm
  have F : FourOk h n0 n1 n2 n3 (satL n0 (m) (60) (50) (0) (1) (2) (2) (h)) (staL n1 (2) (4)) (recL n2 n0 (5) (9) (2) (3) (4) (5) (2) (20)) (pasL n3 n0 n1 (12) (h) (3) (4) (5)) := ⟨by omega, rfl, rfl, rfl, rfl, rfl, rfl, rfl⟩
  refine F.e1 (e := (3, oor))  ?_
  rw [sat_eval Hn0 (by omega) (by omega) (by omega) (by omega) (by omega) (by omega) (by omega) (by omega)]
  repeat rw [if_neg (by omega)]
  rw [if_pos (by omega)]
theorem g1 (Hb : 30 ≤ h ∧ h ≤ 500) (Hn0 : NameOk n0) (Hn1 : NameOk n1) (Hn2 : NameOk n2) (Hn3 : NameOk n3) : ∀ m ∈ ([50, 1000000] : List Int), rdText [horL h, (satL n0 (5) (m) (50) (0) (1) (2) (2) (h)), (staL n1 (2) (4)), (recL n2 n0 (5) (9) (2) (3) (4) (5) (2) (20)), (pasL n3 n0 n1 (12) (h) (3) (4) (5))] Str.empty = .ok h := by
  intro m hm
  simp only [List.mem_cons, List.not_mem_nil, or_false] at hm
  have F : FourOk h n0 n1 n2 n3 (satL n0 (5) (m) (50) (0) (1) (2) (2) (h)) (staL n1 (2) (4)) (recL n2 n0 (5) (9) (2) (3) (4) (5) (2) (20)) (pasL n3 n0 n1 (12) (h) (3) (4) (5)) := ⟨by omega, rfl, rfl, rfl, rfl, rfl, rfl, rfl⟩
  refine F.all ?_ (sta_dflt Hb Hn0 Hn1 Hn2 Hn3) (rec_dflt Hb Hn0 Hn1 Hn2 Hn3) (pas_dflt Hb Hn0 Hn1 Hn2 Hn3)
  rw [sat_eval Hn0 (by omega) (by omega) (by omega) (by omega) (by omega) (by omega) (by omega) (by omega)]
  repeat rw [if_neg (by omega)]
theorem b1 (Hb : 30 ≤ h ∧ h ≤ 500) (Hn0 : NameOk n0) (Hn1 : NameOk n1) (Hn2 : NameOk n2) (Hn3 : NameOk n3) : ∀ m ∈ ([1000001] : List Int), rdText [horL h, (satL n0 (5) (m) (50) (0) (1) (2) (2) (h)), (staL n1 (2) (4)), (recL n2 n0 (5) (9) (2) (3) (4) (5) (2) (20)), (pasL n3 n0 n1 (12) (h) (3) (4) (5))] Str.empty = .error (2, colW (satL n0 (5) (m) (50) (0) (1) (2) (2) (h)) 5, oor) := by
  intro m hm
  simp only [List.mem_cons, List.not_mem_nil, or_false] at hm
  have F : FourOk h n0 n1 n2 n3 (satL n0 (5) (m) (50) (0) (1) (2) (2) (h)) (staL n1 (2) (4)) (recL n2 n0 (5) (9) (2) (3) (4) (5) (2) (20)) (pasL n3 n0 n1 (12) (h) (3) (4) (5)) := ⟨by omega, rfl, rfl, rfl, rfl, rfl, rfl, rfl⟩
  refine F.e1 (e := (5, oor))  ?_
  rw [sat_eval Hn0 (by omega) (by omega) (by omega) (by omega) (by omega) (by omega) (by omega) (by omega)]
  repeat rw [if_neg (by omega)]
  rw [if_pos (by omega)]
theorem g2 (Hb : 30 ≤ h ∧ h ≤ 500) (Hn0 : NameOk n0) (Hn1 : NameOk n1) (Hn2 : NameOk n2) (Hn3 : NameOk n3) : ∀ m ∈ ([0, 60] : List Int), rdText [horL h, (satL n0 (5) (60) (m) (0) (1) (2) (2) (h)), (staL n1 (2) (4)), (recL n2 n0 (5) (9) (2) (3) (4) (5) (2) (20)), (pasL n3 n0 n1 (12) (h) (3) (4) (5))] Str.empty = .ok h := by
  intro m hm
  simp only [List.mem_cons, List.not_mem_nil, or_false] at hm
  have F : FourOk h n0 n1 n2 n3 (satL n0 (5) (60) (m) (0) (1) (2) (2) (h)) (staL n1 (2) (4)) (recL n2 n0 (5) (9) (2) (3) (4) (5) (2) (20)) (pasL n3 n0 n1 (12) (h) (3) (4) (5)) := ⟨by omega, rfl, rfl, rfl, rfl, rfl, rfl, rfl⟩
  refine F.all ?_ (sta_dflt Hb Hn0 Hn1 Hn2 Hn3) (rec_dflt Hb Hn0 Hn1 Hn2 Hn3) (pas_dflt Hb Hn0 Hn1 Hn2 Hn3)
  rw [sat_eval Hn0 (by omega) (by omega) (by omega) (by omega) (by omega) (by omega) (by omega) (by omega)]
  repeat rw [if_neg (by omega)]
theorem b2 (Hb : 30 ≤ h ∧ h ≤ 500) (Hn0 : NameOk n0) (Hn1 : NameOk n1) (Hn2 : NameOk n2) (Hn3 : NameOk n3) : ∀ m ∈ ([61] : List Int), rdText [horL h, (satL n0 (5) (60) (m) (0) (1) (2) (2) (h)), (staL n1 (2) (4)), (recL n2 n0 (5) (9) (2) (3) (4) (5) (2) (20)), (pasL n3 n0 n1 (12) (h) (3) (4) (5))] Str.empty = .error (2, colW (satL n0 (5) (60) (m) (0) (1) (2) (2) (h)) 7, oor) := by
  intro m hm
  simp only [List.mem_cons, List.not_mem_nil, or_false] at hm
  have F : FourOk h n0 n1 n2 n3 (satL n0 (5) (60) (m) (0) (1) (2) (2) (h)) (staL n1 (2) (4)) (recL n2 n0 (5) (9) (2) (3) (4) (5) (2) (20)) (pasL n3 n0 n1 (12) (h) (3) (4) (5)) := ⟨by omega, rfl, rfl, rfl, rfl, rfl, rfl, rfl⟩
  refine F.e1 (e := (7, oor))  ?_
  rw [sat_eval Hn0 (by omega) (by omega) (by omega) (by omega) (by omega) (by omega) (by omega) (by omega)]
  repeat rw [if_neg (by omega)]
  rw [if_pos (by omega)]
theorem g3 (Hb : 30 ≤ h ∧ h ≤ 500) (Hn0 : NameOk n0) (Hn1 : NameOk n1) (Hn2 : NameOk n2) (Hn3 : NameOk n3) : ∀ m ∈ ([0, 50] : List Int), rdText [horL h, (satL n0 (5) (60) (50) (m) (1) (2) (2) (h)), (staL n1 (2) (4)), (recL n2 n0 (5) (9) (2) (3) (4) (5) (2) (20)), (pasL n3 n0 n1 (12) (h) (3) (4) (5))] Str.empty = .ok h := by
  intro m hm
  simp only [List.mem_cons, List.not_mem_nil, or_false] at hm
  have F : FourOk h n0 n1 n2 n3 (satL n0 (5) (60) (50) (m) (1) (2) (2) (h)) (staL n1 (2) (4)) (recL n2 n0 (5) (9) (2) (3) (4) (5) (2) (20)) (pasL n3 n0 n1 (12) (h) (3) (4) (5)) := ⟨by omega, rfl, rfl, rfl, rfl, rfl, rfl, rfl⟩
  refine F.all ?_ (sta_dflt Hb Hn0 Hn1 Hn2 Hn3) (rec_dflt Hb Hn0 Hn1 Hn2 Hn3) (pas_dflt Hb Hn0 Hn1 Hn2 Hn3)
  rw [sat_eval Hn0 (by omega) (by omega) (by omega) (by omega) (by omega) (by omega) (by omega) (by omega)]
  repeat rw [if_neg (by omega)]
theorem b3 (Hb : 30 ≤ h ∧ h ≤ 500) (Hn0 : NameOk n0) (Hn1 : NameOk n1) (Hn2 : NameOk n2) (Hn3 : NameOk n3) : ∀ m ∈ ([51] : List Int), rdText [horL h, (satL n0 (5) (60) (50) (m) (1) (2) (2) (h)), (staL n1 (2) (4)), (recL n2 n0 (5) (9) (2) (3) (4) (5) (2) (20)), (pasL n3 n0 n1 (12) (h) (3) (4) (5))] Str.empty = .error (2, colW (satL n0 (5) (60) (50) (m) (1) (2) (2) (h)) 9, oor) := by
  intro m hm
  simp only [List.mem_cons, List.not_mem_nil, or_false] at hm
  have F : FourOk h n0 n1 n2 n3 (satL n0 (5) (60) (50) (m) (1) (2) (2) (h)) (staL n1 (2) (4)) (recL n2 n0 (5) (9) (2) (3) (4) (5) (2) (20)) (pasL n3 n0 n1 (12) (h) (3) (4) (5)) := ⟨by omega, rfl, rfl, rfl, rfl, rfl, rfl, rfl⟩
  refine F.e1 (e := (9, oor))  ?_
  rw [sat_eval Hn0 (by omega) (by omega) (by omega) (by omega) (by omega) (by omega) (by omega) (by omega)]
  repeat rw [if_neg (by omega)]
  rw [if_pos (by omega)]
theorem g4 (Hb : 30 ≤ h ∧ h ≤ 500) (Hn0 : NameOk n0) (Hn1 : NameOk n1) (Hn2 : NameOk n2) (Hn3 : NameOk n3) : ∀ m ∈ ([0, 1000] : List Int), rdText [horL h, (satL n0 (5) (60) (50) (0) (m) (2) (2) (h)), (staL n1 (2) (4)), (recL n2 n0 (5) (9) (2) (3) (4) (5) (2) (20)), (pasL n3 n0 n1 (12) (h) (3) (4) (5))] Str.empty = .ok h := by
  intro m hm
  simp only [List.mem_cons, List.not_mem_nil, or_false] at hm
  have F : FourOk h n0 n1 n2 n3 (satL n0 (5) (60) (50) (0) (m) (2) (2) (h)) (staL n1 (2) (4)) (recL n2 n0 (5) (9) (2) (3) (4) (5) (2) (20)) (pasL n3 n0 n1 (12) (h) (3) (4) (5)) := ⟨by omega, rfl, rfl, rfl, rfl, rfl, rfl, rfl⟩
  refine F.all ?_ (sta_dflt Hb Hn0 Hn1 Hn2 Hn3) (rec_dflt Hb Hn0 Hn1 Hn2 Hn3) (pas_dflt Hb Hn0 Hn1 Hn2 Hn3)
  rw [sat_eval Hn0 (by omega) (by omega) (by omega) (by omega) (by omega) (by omega) (by omega) (by omega)]
  repeat rw [if_neg (by omega)]
theorem b4 (Hb : 30 ≤ h ∧ h ≤ 500) (Hn0 : NameOk n0) (Hn1 : NameOk n1) (Hn2 : NameOk n2) (Hn3 : NameOk n3) : ∀ m ∈ ([1001] : List Int), rdText [horL h, (satL n0 (5) (60) (50) (0) (m) (2) (2) (h)), (staL n1 (2) (4)), (recL n2 n0 (5) (9) (2) (3) (4) (5) (2) (20)), (pasL n3 n0 n1 (12) (h) (3) (4) (5))] Str.empty = .error (2, colW (satL n0 (5) (60) (50) (0) (m) (2) (2) (h)) 11, oor) := by
  intro m hm
  simp only [List.mem_cons, List.not_mem_nil, or_false] at hm
  have F : FourOk h n0 n1 n2 n3 (satL n0 (5) (60) (50) (0) (m) (2) (2) (h)) (staL n1 (2) (4)) (recL n2 n0 (5) (9) (2) (3) (4) (5) (2) (20)) (pasL n3 n0 n1 (12) (h) (3) (4) (5)) := ⟨by omega, rfl, rfl, rfl, rfl, rfl, rfl, rfl⟩
  refine F.e1 (e := (11, oor))  ?_
  rw [sat_eval Hn0 (by omega) (by omega) (by omega) (by omega) (by omega) (by omega) (by omega) (by omega)]
  repeat rw [if_neg (by omega)]
  rw [if_pos (by omega)]
theorem g5 (Hb : 30 ≤ h ∧ h ≤ 500) (Hn0 : NameOk n0) (Hn1 : NameOk n1) (Hn2 : NameOk n2) (Hn3 : NameOk n3) : ∀ m ∈ ([0, 60] : List Int), rdText [horL h, (satL n0 (5) (60) (50) (0) (1) (m) (2) (h)), (staL n1 (2) (4)), (recL n2 n0 (5) (9) (2) (3) (4) (5) (2) (20)), (pasL n3 n0 n1 (12) (h) (3) (4) (5))] Str.empty = .ok h := by
  intro m hm
  simp only [List.mem_cons, List.not_mem_nil, or_false] at hm
  have F : FourOk h n0 n1 n2 n3 (satL n0 (5) (60) (50) (0) (1) (m) (2) (h)) (staL n1 (2) (4)) (recL n2 n0 (5) (9) (2) (3) (4) (5) (2) (20)) (pasL n3 n0 n1 (12) (h) (3) (4) (5)) := ⟨by omega, rfl, rfl, rfl, rfl, rfl, rfl, rfl⟩
  refine F.all ?_ (sta_dflt Hb Hn0 Hn1 Hn2 Hn3) (rec_dflt Hb Hn0 Hn1 Hn2 Hn3) (pas_dflt Hb Hn0 Hn1 Hn2 Hn3)
  rw [sat_eval Hn0 (by omega) (by omega) (by omega) (by omega) (by omega) (by omega) (by omega) (by omega)]
  repeat rw [if_neg (by omega)]
theorem b5 (Hb : 30 ≤ h ∧ h ≤ 500) (Hn0 : NameOk n0) (Hn1 : NameOk n1) (Hn2 : NameOk n2) (Hn3 : NameOk n3) : ∀ m ∈ ([61] : List Int), rdText [horL h, (satL n0 (5) (60) (50) (0) (1) (m) (2) (h)), (staL n1 (2) (4)), (recL n2 n0 (5) (9) (2) (3) (4) (5) (2) (20)), (pasL n3 n0 n1 (12) (h) (3) (4) (5))] Str.empty = .error (2, colW (satL n0 (5) (60) (50) (0) (1) (m) (2) (h)) 13, oor) := by
  intro m hm
  simp only [List.mem_cons, List.not_mem_nil, or_false] at hm
  have F : FourOk h n0 n1 n2 n3 (satL n0 (5) (60) (50) (0) (1) (m) (2) (h)) (staL n1 (2) (4)) (recL n2 n0 (5) (9) (2) (3) (4) (5) (2) (20)) (pasL n3 n0 n1 (12) (h) (3) (4) (5)) := ⟨by omega, rfl, rfl, rfl, rfl, rfl, rfl, rfl⟩
  refine F.e1 (e := (13, oor))  ?_
  rw [sat_eval Hn0 (by omega) (by omega) (by omega) (by omega) (by omega) (by omega) (by omega) (by omega)]
  repeat rw [if_neg (by omega)]
  rw [if_pos (by omega)]
theorem g6 (Hb : 30 ≤ h ∧ h ≤ 500) (Hn0 : NameOk n0) (Hn1 : NameOk n1) (Hn2 : NameOk n2) (Hn3 : NameOk n3) : ∀ m ∈ ([0, h - 1] : List Int), rdText [horL h, (satL n0 (5) (60) (50) (0) (1) (2) (m) (h)), (staL n1 (2) (4)), (recL n2 n0 (5) (9) (2) (3) (4) (5) (2) (20)), (pasL n3 n0 n1 (12) (h) (3) (4) (5))] Str.empty = .ok h := by
  intro m hm
  simp only [List.mem_cons, List.not_mem_nil, or_false] at hm
  have F : FourOk h n0 n1 n2 n3 (satL n0 (5) (60) (50) (0) (1) (2) (m) (h)) (staL n1 (2) (4)) (recL n2 n0 (5) (9) (2) (3) (4) (5) (2) (20)) (pasL n3 n0 n1 (12) (h) (3) (4) (5)) := ⟨by omega, rfl, rfl, rfl, rfl, rfl, rfl, rfl⟩
  refine F.all ?_ (sta_dflt Hb Hn0 Hn1 Hn2 Hn3) (rec_dflt Hb Hn0 Hn1 Hn2 Hn3) (pas_dflt Hb Hn0 Hn1 Hn2 Hn3)
  rw [sat_eval Hn0 (by omega) (by omega) (by omega) (by omega) (by omega) (by omega) (by omega) (by omega)]
  repeat rw [if_neg (by omega)]
theorem b6 (Hb : 30 ≤ h ∧ h ≤ 500) (Hn0 : NameOk n0) (Hn1 : NameOk n1) (Hn2 : NameOk n2) (Hn3 : NameOk n3) : ∀ m ∈ ([h] : List Int), rdText [horL h, (satL n0 (5) (60) (50) (0) (1) (2) (m) (h)), (staL n1 (2) (4)), (recL n2 n0 (5) (9) (2) (3) (4) (5) (2) (20)), (pasL n3 n0 n1 (12) (h) (3) (4) (5))] Str.empty = .error (2, colW (satL n0 (5) (60) (50) (0) (1) (2) (m) (h)) 15, oor) := by
  intro m hm
  simp only [List.mem_cons, List.not_mem_nil, or_false] at hm
  have F : FourOk h n0 n1 n2 n3 (satL n0 (5) (60) (50) (0) (1) (2) (m) (h)) (staL n1 (2) (4)) (recL n2 n0 (5) (9) (2) (3) (4) (5) (2) (20)) (pasL n3 n0 n1 (12) (h) (3) (4) (5)) := ⟨by omega, rfl, rfl, rfl, rfl, rfl, rfl, rfl⟩
  refine F.e1 (e := (15, oor))  ?_
  rw [sat_eval Hn0 (by omega) (by omega) (by omega) (by omega) (by omega) (by omega) (by omega) (by omega)]
  repeat rw [if_neg (by omega)]
  rw [if_pos (by omega)]
theorem b7 (Hb : 30 ≤ h ∧ h ≤ 500) (Hn0 : NameOk n0) (Hn1 : NameOk n1) (Hn2 : NameOk n2) (Hn3 : NameOk n3) : ∀ m ∈ ([2, h + 1] : List Int), rdText [horL h, (satL n0 (5) (60) (50) (0) (1) (2) (2) (m)), (staL n1 (2) (4)), (recL n2 n0 (5) (9) (2) (3) (4) (5) (2) (20)), (pasL n3 n0 n1 (12) (h) (3) (4) (5))] Str.empty = .error (2, colW (satL n0 (5) (60) (50) (0) (1) (2) (2) (m)) 16, oor) := by
  intro m hm
  simp only [List.mem_cons, List.not_mem_nil, or_false] at hm
  have F : FourOk h n0 n1 n2 n3 (satL n0 (5) (60) (50) (0) (1) (2) (2) (m)) (staL n1 (2) (4)) (recL n2 n0 (5) (9) (2) (3) (4) (5) (2) (20)) (pasL n3 n0 n1 (12) (h) (3) (4) (5)) := ⟨by omega, rfl, rfl, rfl, rfl, rfl, rfl, rfl⟩
  refine F.e1 (e := (16, oor))  ?_
  rw [sat_eval Hn0 (by omega) (by omega) (by omega) (by omega) (by omega) (by omega) (by omega) (by omega)]
  repeat rw [if_neg (by omega)]
  rw [if_pos (by omega)]
theorem b8 (Hb : 30 ≤ h ∧ h ≤ 500) (Hn0 : NameOk n0) (Hn1 : NameOk n1) (Hn2 : NameOk n2) (Hn3 : NameOk n3) : ∀ m ∈ ([0, 4] : List Int), rdText [horL h, (satL n0 (5) (60) (50) (0) (1) (2) (2) (h)), (staL n1 (m) (4)), (recL n2 n0 (5) (9) (2) (3) (4) (5) (2) (20)), (pasL n3 n0 n1 (12) (h) (3) (4) (5))] Str.empty = .error (3, colW (staL n1 (m) (4)) 3, oor) := by
  intro m hm
  simp only [List.mem_cons, List.not_mem_nil, or_false] at hm
  have F : FourOk h n0 n1 n2 n3 (satL n0 (5) (60) (50) (0) (1) (2) (2) (h)) (staL n1 (m) (4)) (recL n2 n0 (5) (9) (2) (3) (4) (5) (2) (20)) (pasL n3 n0 n1 (12) (h) (3) (4) (5)) := ⟨by omega, rfl, rfl, rfl, rfl, rfl, rfl, rfl⟩
  refine F.e2 (e := (3, oor)) (sat_dflt Hb Hn0 Hn1 Hn2 Hn3) ?_
  rw [sta_eval Hn1 (by omega) (by omega)]
  repeat rw [if_neg (by omega)]
  rw [if_pos (by omega)]
end
end DP
namespace DP
open PySem PySem.Spec PyProof.Rows L2
/-- a static method's call within a try -/
def tSMethS (C : Addr) (sp : Sp) (E : L2.St → XK) (ta : TE) (t : TA) : TE := fun σ H Q => ta σ H fun x H1 => x = .ref C ∧ t σ H1 fun vs H2 => sp vs H2 Q (E σ)
theorem pe_smethS {X : Cx} {CX : CXT} {k : Nat} {C : Addr} {m : Str} {ps : List Str} {sp : Sp} {E : L2.St → XK} {o e : Expr} {es : List Expr} {ta : TE} {t : TA} {pos apos : Pos} {pl : Sem Bool}
    (D : SDef X.prog X.w X.K X.mg X.base CX k C m ps sp) (rd : ClX.CRead X.K C (.type "type")) (hr : Room k X.A) (hx : ∀ σ, PassesAt CX X σ (E σ)) (he : PE X o ta) (ha : PA X (e :: es) t)
    (hst : starEach (e :: es) X.env = (false, eval e X.env) :: starEach es X.env := by rfl) (hpl : (backTo pos (starEach es X.env)).any (·.1) = false := by rfl)
    (ht : eval (.Call (.Attribute o m apos) (e :: es) [] pos) X.env = (do
      let ov ← eval o X.env
      standAt apos.atName
      let (f, first) ← holding [ov] (getMethod ov m pl)
      callWith pos f first (backTo pos (starEach (e :: es) X.env)) (backToKw pos (keywordEach [] X.env))) := by rfl) :
    PE X (.Call (.Attribute o m apos) (e :: es) [] pos) (tSMethS C sp E ta t) := by
  obtain ⟨f, fd, G, ⟨p, rest, e1, e2⟩, kp, b⟩ := D.ex
  refine ⟨fun pins s σ H Q I h => ?_⟩
  refine PySem.W.methodCall_KW (pl := pl) (thn (he.run pins s σ H _ I h) fun u s1 ⟨x, H1, I1, rx, ex, q⟩ => ?_) ht
  subst ex
  obtain rfl : u = Value.ref C := rx
  have I2 := I1.tok (s1.toks + 1)
  refine PySem.W.method_cls I1.kIn rd.ga (PySem.W.cls_bind I1.kIn rd.rd e1 (wpAny_call (PySem.W.sm_get (s := { s1 with toks := s1.toks + 1 }) I2.kIn e2 (PySem.W.handed_on (handed_of (v := .ref f) rfl) ?_))))
  refine PySem.W.callWith_K (h₀ := X.base) I.ok.mod.kin kp (thn (ha.run pos pins _ σ H1 _ I2 q) fun us s3 ⟨vs, H2, I3, r, q2⟩ => ⟨I3.kIn, ?_⟩) hst hpl
  exact run_fnS G hr b (hx σ) I3 r q2
/-- words without blanks and newlines -/
def WdX (w : Str) : Prop := 32 ∉ tl w ∧ 10 ∉ tl w ∧ (tl w).length ≤ 40
theorem WdOk.x {w : Str} (h : WdOk w) : WdX w := ⟨h.2.1, h.2.2.1, Nat.le_trans h.2.2.2 (by decide)⟩
theorem row_freeX {ws : List Str} (h : ∀ w ∈ ws, WdX w) : 10 ∉ tl (row ws) := by
  unfold row
  rw [show tl (Str.join sp ws) = TL.joinL (tl sp) (ws.map tl) from TL.tl_join sp ws]
  refine joinL_free (by rw [tl_sp]; decide) _ fun p hp => ?_
  obtain ⟨w, hw, rfl⟩ := List.mem_map.mp hp
  exact (h w hw).2.1
theorem row_lenX {ws : List Str} (h : ∀ w ∈ ws, WdX w) : (row ws).length ≤ ws.length * 41 := by
  rw [TL.len_tl]
  unfold row
  rw [show TL.tl (Str.join sp ws) = TL.joinL (tl sp) (ws.map tl) from TL.tl_join sp ws]
  have := joinL_len (m := 40) (S := tl sp) (ws.map tl) fun p hp => by
    obtain ⟨w, hw, rfl⟩ := List.mem_map.mp hp
    exact (h w hw).2.2
  rw [List.length_map, tl_sp] at this
  rw [tl_sp]
  exact this
theorem row_splitX {ws : List Str} (hn : ws ≠ []) (h : ∀ w ∈ ws, WdX w) : Txt.split (row ws) sp = ws := by
  have e := TL.split_join (y := sp) (s := 32) (S := []) tl_sp (by decide +kernel) hn (fun p hp => (h p hp).1)
  rw [TL.join_eq] at e
  exact e
structure LnW (l : List Str) : Prop where
  ne : l ≠ []
  wd : ∀ w ∈ l, WdX w
  sz : l.length ≤ 400
theorem LnW.ok {l : List Str} (h : LnW l) : LnOk l := ⟨h.ne, row_splitX h.ne h.wd, Nat.le_trans (row_lenX h.wd) (by have := h.sz; omega), fun w hw => by rw [TL.len_tl]; exact (h.wd w hw).2.2, by have := h.sz; omega⟩
theorem split_glueX {lns : List (List Str)} (h : ∀ l ∈ lns, LnW l) : Txt.split (glue (lns.map row)) nl = lns.map row ++ [Str.empty] := glue_split fun r hr => by
  obtain ⟨l, hl, rfl⟩ := List.mem_map.mp hr
  exact row_freeX (h l hl).wd
theorem glue_lenX {lns : List (List Str)} (h : ∀ l ∈ lns, LnW l) (hn : lns.length ≤ 40) : (glue (lns.map row)).length ≤ 1000000 := by
  have h1 := glue_len (rows := lns.map row) (m := 16400) fun r hr => by
    obtain ⟨l, hl, rfl⟩ := List.mem_map.mp hr
    have h2 := row_lenX (h l hl).wd
    have h3 := (h l hl).sz
    omega
  rw [List.length_map] at h1
  have h3 : (lns.length + 1) * (16400 + 1) ≤ 41 * 16401 := Nat.mul_le_mul_right _ (by omega)
  show (glue _).length ≤ _
  omega
theorem fit_bigX {n : Nat} (h : n ≤ 17256) : n ≤ sizeLine := Nat.le_trans h (by unfold sizeLine; decide)
theorem len_addX {x y : Str} {a b : Nat} (h : x.length ≤ a) (k : y.length ≤ b) : (x ++ y).length ≤ a + b := by rw [len_app]; omega
end DP
namespace DP
open PySem PySem.Spec PyProof.Rows L2
theorem hor_w {m : Int} (b : 0 ≤ m ∧ m < 10000000) : LnW (horL m) := ⟨List.cons_ne_nil _ _, fun w hw => by
  rcases List.mem_cons.mp hw with rfl | hw
  · exact ⟨by decide +kernel, by decide +kernel, by decide +kernel⟩
  · rw [List.mem_singleton.mp hw]; exact (num_wd b.1 b.2).x, by show 2 ≤ 400; decide⟩
theorem lit_wd {w : Str} (h : (!((tl w).contains 32) && !((tl w).contains 10) && decide ((tl w).length ≤ 40)) = true) : WdX w := by
  simp only [Bool.and_eq_true, Bool.not_eq_true', List.contains_eq_mem, decide_eq_false_iff_not, decide_eq_true_eq] at h
  exact ⟨h.1.1, h.1.2, h.2⟩
theorem lns_set {L : List (List Str)} {r : Nat} {x : List Str} (h : ∀ l ∈ L, LnW l) (k : LnW x) : ∀ l ∈ L.set r x, LnW l := fun l hl => by
  rcases List.mem_or_eq_of_mem_set hl with z | z
  · exact h l z
  · rw [z]
    exact k
theorem sum_wd : ∀ {l : List Str}, (∀ w ∈ l, WdX w) → (l.map fun x => x.length).sum ≤ 40 * l.length
  | [], _ => Nat.zero_le _
  | x :: r, h => by
    have h1 := sum_wd (l := r) fun w hw => h w (List.mem_cons_of_mem _ hw)
    have h2 : x.length ≤ 40 := by rw [TL.len_tl]; exact (h x List.mem_cons_self).2.2
    simp only [List.map_cons, List.sum_cons, List.length_cons]
    omega
theorem jl_len : ∀ {us : List Str}, us ≠ [] → ((TL.joinL (tl sp) (us.map tl)).length : Int) + 1 = (us.map fun w => (w.length : Int) + 1).sum
  | [], h => absurd rfl h
  | [x], _ => by
    show ((tl x).length : Int) + 1 = ((x.length : Int) + 1) + 0
    rw [TL.len_tl]
    show ((tl x).length : Int) + 1 = (((tl x).length : Int) + 1) + 0
    omega
  | x :: y :: r, _ => by
    have ih := jl_len (us := y :: r) (List.cons_ne_nil _ _)
    have e : TL.joinL (tl sp) ((x :: y :: r).map tl) = tl x ++ tl sp ++ TL.joinL (tl sp) ((y :: r).map tl) := by first | rfl | (simp only [List.map_cons, TL.joinL, List.append_assoc])
    have lx : x.length = (tl x).length := TL.len_tl x
    have e2 : ((x :: y :: r).map fun w => (w.length : Int) + 1).sum = ((x.length : Int) + 1) + ((y :: r).map fun w => (w.length : Int) + 1).sum := rfl
    have e3 : (tl sp).length = 1 := by rw [tl_sp]; rfl
    rw [e2, ← ih, e, List.length_append, List.length_append, e3, lx]
    omega
theorem col_row {ws : List Str} {p : Nat} (h1 : 1 ≤ p) (h2 : p < ws.length) : ((row (ws.take p)).length : Int) + 2 = colW ws p := by
  have hn : ws.take p ≠ [] := fun z => by
    have := congrArg List.length z
    rw [List.length_take, List.length_nil] at this
    omega
  have := jl_len hn
  unfold colW
  rw [← this, TL.len_tl]
  unfold row
  rw [show TL.tl (Str.join sp (ws.take p)) = TL.joinL (tl sp) ((ws.take p).map tl) from TL.tl_join sp _]
  omega
theorem cut_toW {xs : List V} {i : Nat} (h : i ≤ xs.length) : cutV xs none (some (i : Int)) = xs.take i := by
  unfold cutV
  rw [HT.sIx_none, HT.sIx_nat, List.drop_zero, Nat.sub_zero, Nat.min_eq_left h]
theorem ixN_natW {n j : Nat} (hj : j < n) : ixN n (j : Int) = some j := by
  unfold ixN
  rw [if_pos (by omega), if_pos (by omega)]
  simp
end DP
namespace DP
open PySem PySem.Spec PyProof.Rows L2
section
variable {P : Program} {w : World} {K : PySem.W.Frag} {mg : Str → Option Value} {base : Heap}
def spWordL : Sp := fun vs H Q _ => ∃ (st : Addr) (i : Nat), vs = [.ref st, .int (i : Int)] ∧ i < 10 ∧ Strm H st ∧ ∀ u H', Same H H' → WordAt i u → u.length ≤ 10 → Q (.str u) H'
theorem d_wordL (B : Bt mg) (D_law_next : DefOk P w K mg base CX0 1 "_law_next" ["stream", "many"] spNext) (A : At K mg "_law_word" s__law_word ["stream", "index"]) : DefOk P w K mg base CX0 2 "_law_word" ["stream", "index"] spWordL := by
  refine A.ok sc__law_word (fun vs H Q E h => ?_) (fun f cdv A outer s H vs Q E hr h => ?_)
  · obtain ⟨st, i, rfl, _⟩ := h
    rfl
  obtain ⟨st, i, rfl, hi, hst, q⟩ := h
  refine ⟨_, pss_cons (ps_set (i := 2) sc__law_word.nd rfl (Or.inr rfl) pe_str)
  (pss_cons (ps_set (i := 3) sc__law_word.nd rfl (Or.inl rfl) (pe_f D_law_next (hr.mono (by omega)) pass0 (pa_cons (pv 0) (pa_cons pe_int pa_nil))))
  (pss_cons (ps_set (i := 4) sc__law_word.nd rfl (Or.inl rfl) (pe_join pe_str (pe_lc (own := [("k", 7)])  rfl sc__law_word.nd (pi_range1 (by rfl) B.range (pa_cons (pv 3) pa_nil)) (blkOk_by (own := [("k", 7)]) (N := ["stream", "index", "letters", "size", "text", "place", "word", "k"]) (sc := defScope s__law_word) (by decide +kernel)) (fun _ _ _ _ _ => pg_name (i := 7) sc__law_word.nd rfl (Or.inl rfl)) (fun _ _ _ _ _ => pts_nil) (fun _ _ _ _ _ => (pe_ix ix_str (pv 2) (pe_f D_law_next (hr.mono (by omega)) pass0 (pa_cons (pv 0) (pa_cons pe_int pa_nil))) (fun _ _ => rfl))))))
  (pss_cons (ps_set (i := 5) sc__law_word.nd rfl (Or.inl rfl) (pe_f D_law_next (hr.mono (by omega)) pass0 (pa_cons (pv 0) (pa_cons (pe_op op_add (pv 3) pe_int) pa_nil))))
  (pss_cons (ps_set (i := 6) sc__law_word.nd rfl (Or.inl rfl) (pe_op op_add_str (pe_op op_add_str (pe_slice sl_str (pv 4) po_none (po_some (pv 5))) (pe_ix ix_str pe_str (pv 1) (fun _ _ => rfl))) (pe_slice sl_str (pv 4) (po_some (pv 5)) po_none)))
  (pss_cons (ps_if (pt_cmpR op_in_sign (pe_ix ix_str (pv 6) pe_int (fun _ _ => rfl)) (pe_slice sl_str (pv 2) (po_some pe_int) po_none) (by rfl))
      (pss_one (ps_set (i := 6) sc__law_word.nd rfl (Or.inl rfl) (pe_op op_add_str pe_str (pv 6))))
      (pss_nil))
  (pss_one (ps_ret (pv 6))))))))
    , ?_⟩
  refine ⟨_, rfl, st, 5, rfl, by decide, hst, fun sz s0 s1 => ?_⟩
  refine ⟨⟨_, rfl⟩, _, rfl, sz, rfl, by omega, by omega, fun D hD => ?_⟩
  refine lc_range (lo := 0) (n := sz.toNat) (fun k H' => ∃ cs : List Nat, cs.length = k ∧ (∀ c ∈ cs, isLo c = true) ∧ H' D = some (.lst ((cs.map fun c => (⟨#[c]⟩ : Str)).map V.str)) ∧ Same H H') ⟨[], rfl, fun _ z => absurd z List.not_mem_nil, upd_same, same_new hD _⟩ (fun k H1 hk hI => ?_) (fun H1 hI => ?_)
  · obtain ⟨cs, hc, hlo, hDD, hs⟩ := hI
    refine ⟨rfl, _, rfl, _, rfl, st, 36, rfl, by decide, hst.same hs, fun v v0 v1 => ?_⟩
    obtain ⟨c, hc1, hc2⟩ := lo36_at v0 v1
    refine ⟨_, _, c, rfl, rfl, by decide +kernel, hc1, _, hDD, by rw [List.length_map, List.length_map, hc]; exact small1000 (by omega), cs ++ [c], by rw [List.length_append, hc, List.length_singleton], ?_, by rw [upd_same, List.map_append, List.map_append]; rfl, same_at hD hs _⟩
    intro x hx
    rcases List.mem_append.mp hx with hx | hx
    · exact hlo x hx
    · rw [List.mem_singleton.mp hx]; exact hc2
  · obtain ⟨cs, hc, hlo, hDD, hs⟩ := hI
    have hl4 : cs.length ≤ 4 := by omega
    refine ⟨Str.ofString "", D, cs.map fun c => (⟨#[c]⟩ : Str), rfl, rfl, .inl (SqL.of hDD), ?_, ?_⟩
    · have e : ((cs.map fun c => (⟨#[c]⟩ : Str)).map (·.length)).sum = cs.length := by
        rw [List.map_map]
        clear hDD hc hl4 hlo
        induction cs with
        | nil => rfl
        | cons a r ih =>
          rw [List.map_cons, List.sum_cons, ih, List.length_cons]
          show 1 + r.length = _
          omega
      have e2 : (Str.ofString "" : Str).length = 0 := by decide +kernel
      rw [e, e2, Nat.mul_zero]
      omega
    obtain ⟨tx, htx⟩ : ∃ tx, Txt.join (Str.ofString "") (cs.map fun c => (⟨#[c]⟩ : Str)) = tx := ⟨_, rfl⟩
    have etx : tl tx = cs := by rw [← htx]; exact join_ones cs
    rw [htx]
    have hst1 := hst.same hs
    have ltx : tx.length ≤ 4 := by
      rw [TL.len_tl, show TL.tl tx = tl tx from rfl, etx]
      exact hl4
    refine ⟨_, rfl, _, rfl, _, _, rfl, rfl, st, sz + 1, rfl, by omega, hst1, fun pl p0 p1 => ?_⟩
    have lpre := cutS_length tx none (some pl)
    have lsuf := cutS_length tx (some pl) none
    have lcap : (⟨#[65 + i]⟩ : Str).length = 1 := rfl
    have lapp : (cutS tx none (some pl) ++ (⟨#[65 + i]⟩ : Str)).length = (cutS tx none (some pl)).length + 1 := by
      rw [TL.len_tl, TL.tl_append, List.length_append, ← TL.len_tl, ← TL.len_tl, lcap]
    refine ⟨_, rfl, _, rfl, pl, rfl, tx, rfl, Nat.le_trans ltx (by decide), _, rfl, _, _, 65 + i, rfl, rfl, by decide +kernel, cap_at hi, _, _, rfl, rfl, ?_, ?_⟩
    · rw [lcap]; exact Nat.le_trans (Nat.add_le_add_right (Nat.le_trans lpre ltx) 1) (by decide)
    refine ⟨_, rfl, _, rfl, pl, rfl, tx, rfl, Nat.le_trans ltx (by decide), _, _, rfl, rfl, ?_, ?_⟩
    · rw [lapp]
      exact Nat.le_trans (Nat.add_le_add (Nat.add_le_add_right (Nat.le_trans lpre ltx) 1) (Nat.le_trans lsuf ltx)) (by decide)
    obtain ⟨z, hz⟩ : ∃ z, cutS tx none (some pl) ++ (⟨#[65 + i]⟩ : Str) ++ cutS tx (some pl) none = z := ⟨_, rfl⟩
    have ez : tl z = tl (cutS tx none (some pl)) ++ (65 + i) :: tl (cutS tx (some pl) none) := by
      rw [← hz, tl_app, tl_app, tl_str1, List.append_assoc]
      rfl
    have hpre : ∀ c ∈ tl (cutS tx none (some pl)), isLo c = true := fun c hc' => hlo c (by rw [← etx]; exact cutS_mem hc')
    have hsuf : ∀ c ∈ tl (cutS tx (some pl) none), isLo c = true := fun c hc' => hlo c (by rw [← etx]; exact cutS_mem hc')
    obtain ⟨⟨c, r, ec, hcd⟩, w1, w2⟩ := word_ok hi hpre hsuf (by rw [show (tl (cutS tx none (some pl))).length = (cutS tx none (some pl)).length from (TL.len_tl _).symm]; omega) (by rw [show (tl (cutS tx (some pl) none)).length = (cutS tx (some pl) none).length from (TL.len_tl _).symm]; omega) ez
    have lz : z.length ≤ 9 := by
      rw [← hz, TL.len_tl, TL.tl_append, List.length_append, ← TL.len_tl, ← TL.len_tl, lapp]
      omega
    have hat : atI z.cps.toList 0 = some c := by
      show atI (tl z) 0 = some c
      rw [ec]
      exact atI_nat (j := 0) rfl
    rw [hz]
    have e26 : cutS lo36 (some 26) none = ("0123456789" : Str) := by decide +kernel
    refine ⟨_, rfl, _, _, c, rfl, rfl, Nat.le_trans lz (by decide), hat, _, rfl, 26, rfl, lo36, rfl, by decide +kernel, c, _, rfl, rfl, _, rfl, ite2 (fun k => ?_) (fun k => ?_)⟩
    · have hk : c ∈ (cutS lo36 (some 26) none).cps.toList := of_decide_eq_true k
      rw [e26] at hk
      have hd : isD c = true := by
        have al : ∀ x ∈ ("0123456789" : Str).cps.toList, isD x = true := by decide +kernel
        exact al c hk
      have ev : (Str.ofString "v" : Str).length = 1 := by decide +kernel
      refine ⟨_, rfl, _, _, rfl, rfl, by rw [ev]; exact Nat.le_trans (Nat.add_le_add_left lz 1) (by decide), ?_⟩
      exact ⟨_, rfl, q _ H1 hs (w1 c r ec hd) (by rw [TL.len_tl, TL.tl_append, List.length_append, ← TL.len_tl, ← TL.len_tl, ev]; omega)⟩
    · have hk : ¬ c ∈ (cutS lo36 (some 26) none).cps.toList := fun z => k (decide_eq_true z)
      rw [e26] at hk
      have hd : isD c = false := by
        cases e : isD c with
        | false => rfl
        | true => exact absurd (dig_in (isD_lt e)) hk
      exact ⟨_, rfl, q _ H1 hs (w2 c r ec hd) (by omega)⟩
end
end DP
namespace DP
open PySem PySem.Spec PyProof.Rows L2
theorem name_app {u e : Str} {a : Nat} (h : NameOk u) (hl : u.length ≤ a) (he : ∀ c ∈ tl e, (isL c || isD c) = true) (h2 : a + (tl e).length ≤ 15) : NameOk (u ++ e) := by
  obtain ⟨c, r, e1, hc, hr, _⟩ := h
  have l1 : (tl u).length = r.length + 1 := by rw [e1, List.length_cons]
  have l2 : u.length = (tl u).length := TL.len_tl u
  refine ⟨c, r ++ tl e, by rw [tl_app, e1, List.cons_append], hc, fun x hx => ?_, by rw [List.length_append]; omega⟩
  rcases List.mem_append.mp hx with hx | hx
  · exact hr x hx
  · exact he x hx
structure Nms (nm : Nat → Nat → Str) : Prop where
  ok : ∀ j k, k ≤ 10 → NameOk (nm j k)
  okQ : ∀ j k, k ≤ 10 → NameOk (nm j k ++ Str.ofString "Q")
  inj : ∀ j k k', k ≤ 10 → k' ≤ 10 → nm j k = nm j k' → k = k'
  nq : ∀ j k j' k', k ≤ 10 → k' ≤ 10 → nm j k ++ Str.ofString "Q" ≠ nm j' k'
  qq : ∀ j k, k ≤ 10 → (nm j k ++ Str.ofString "Q").length ≤ 15
theorem nm_num {k : Nat} (h : k ≤ 10) : (tl (num k) = [48 + k] ∧ k < 10) ∨ (tl (num k) = [49, 48] ∧ k = 10) := by
  match k, h with
  | 0, _ => exact .inl ⟨by decide +kernel, by decide⟩
  | 1, _ => exact .inl ⟨by decide +kernel, by decide⟩
  | 2, _ => exact .inl ⟨by decide +kernel, by decide⟩
  | 3, _ => exact .inl ⟨by decide +kernel, by decide⟩
  | 4, _ => exact .inl ⟨by decide +kernel, by decide⟩
  | 5, _ => exact .inl ⟨by decide +kernel, by decide⟩
  | 6, _ => exact .inl ⟨by decide +kernel, by decide⟩
  | 7, _ => exact .inl ⟨by decide +kernel, by decide⟩
  | 8, _ => exact .inl ⟨by decide +kernel, by decide⟩
  | 9, _ => exact .inl ⟨by decide +kernel, by decide⟩
  | 10, _ => exact .inr ⟨by decide +kernel, rfl⟩
  | k + 11, h => exact absurd h (by omega)
theorem tl_x : tl (Str.ofString "x") = [120] := by decide +kernel
theorem tl_Q : tl (Str.ofString "Q") = [81] := by decide +kernel
theorem nm_tail {k : Nat} (h : k ≤ 10) : (∀ c ∈ tl (num k), (isL c || isD c) = true) ∧ (tl (num k)).filter isUp = [] ∧ (tl (num k)).length ≤ 2 := by
  rcases nm_num h with ⟨e, h2⟩ | ⟨e, _⟩
  · rw [e]
    refine ⟨fun c hc => ?_, List.filter_eq_nil_iff.mpr fun c hc => ?_, by show 1 ≤ 2; decide⟩
    · rw [List.mem_singleton.mp hc]
      unfold isD
      simp only [Bool.or_eq_true, Bool.and_eq_true, decide_eq_true_eq]
      omega
    · rw [List.mem_singleton.mp hc]
      unfold isUp
      simp only [Bool.and_eq_true, decide_eq_true_eq]
      omega
  · rw [e]
    exact ⟨by decide, by decide, by decide⟩
theorem nms_of {wd : Nat → Nat → Str} (h : ∀ j k, k ≤ 10 → WordAt (k % 10) (wd j k) ∧ (wd j k).length ≤ 10) : Nms (fun j k => wd j k ++ Str.ofString "x" ++ num k) := by
  have tx : ∀ j k, tl (wd j k ++ Str.ofString "x" ++ num k) = tl (wd j k) ++ 120 :: tl (num k) := fun j k => by
    rw [tl_app, tl_app, tl_x, List.append_assoc]
    rfl
  have fx : ∀ j k, k ≤ 10 → (tl (wd j k ++ Str.ofString "x" ++ num k)).filter isUp = [65 + k % 10] := fun j k hk => by
    rw [tx, List.filter_append, (h j k hk).1.cap, List.filter_cons, (nm_tail hk).2.1, show isUp 120 = false by decide]
    rfl
  have ok1 : ∀ j k, k ≤ 10 → NameOk (wd j k ++ Str.ofString "x" ++ num k) := fun j k hk => by
    have a1 := name_app (e := Str.ofString "x") (h j k hk).1.ok (h j k hk).2 (by rw [tl_x]; decide) (by rw [tl_x]; decide)
    have l1 : (wd j k ++ Str.ofString "x").length ≤ 11 := by
      rw [TL.len_tl, show TL.tl (wd j k ++ Str.ofString "x") = tl (wd j k) ++ tl (Str.ofString "x") from tl_app _ _, tl_x, List.length_append]
      have := (h j k hk).2
      rw [TL.len_tl] at this
      exact Nat.succ_le_succ this
    have := (nm_tail hk).2.2
    exact name_app a1 l1 (nm_tail hk).1 (by omega)
  have ln1 : ∀ j k, k ≤ 10 → (wd j k ++ Str.ofString "x" ++ num k).length ≤ 13 := fun j k hk => by
    rw [TL.len_tl, show TL.tl (wd j k ++ Str.ofString "x" ++ num k) = _ from tx j k, List.length_append, List.length_cons]
    have a := (h j k hk).2
    have b := (nm_tail hk).2.2
    rw [TL.len_tl] at a
    show (TL.tl (wd j k)).length + _ ≤ _
    omega
  refine ⟨ok1, fun j k hk => name_app (ok1 j k hk) (ln1 j k hk) (by rw [tl_Q]; decide) (by rw [tl_Q]; decide), fun j k k' hk hk' e => ?_, fun j k j' k' hk hk' e => ?_, fun j k hk => ?_⟩
  · have e1 := congrArg (fun z => (tl z).filter isUp) e
    try dsimp only at e1
    rw [fx j k hk, fx j k' hk'] at e1
    have e2 : k % 10 = k' % 10 := by
      have := (List.cons.inj e1).1
      omega
    have e3 := congrArg (fun z => (tl z).reverse) e
    try dsimp only at e3
    rw [tx, tx, List.reverse_append, List.reverse_append, List.reverse_cons, List.reverse_cons] at e3
    rcases nm_num hk with ⟨f, g⟩ | ⟨f, g⟩ <;> rcases nm_num hk' with ⟨f', g'⟩ | ⟨f', g'⟩
    · omega
    · exfalso
      have z : k = 0 := by omega
      subst z
      rw [f, f'] at e3
      have := (List.cons.inj (List.cons.inj e3).2).1
      exact absurd this (by decide)
    · exfalso
      have z : k' = 0 := by omega
      subst z
      rw [f, f'] at e3
      have := (List.cons.inj (List.cons.inj e3).2).1
      exact absurd this (by decide)
    · omega
  · have e1 := congrArg (fun z => ((tl z).filter isUp).length) e
    try dsimp only at e1
    rw [tl_app, List.filter_append, fx j k hk, fx j' k' hk', tl_Q] at e1
    exact absurd (show (2 : Nat) = 1 from e1) (by decide)
  · have := ln1 j k hk
    rw [TL.len_tl, show TL.tl (wd j k ++ Str.ofString "x" ++ num k ++ Str.ofString "Q") = tl (wd j k ++ Str.ofString "x" ++ num k) ++ tl (Str.ofString "Q") from tl_app _ _, tl_Q, List.length_append]
    rw [TL.len_tl] at this
    show (TL.tl (wd j k ++ Str.ofString "x" ++ num k)).length + 1 ≤ 15
    omega
theorem cut_at {α : Type} {l : List α} {i : Nat} {x : α} (h : l[i]? = some x) : l.take i ++ x :: l.drop (i + 1) = l := by
  obtain ⟨hi, e⟩ := List.getElem?_eq_some_iff.mp h
  rw [← e, List.getElem_cons_drop, List.take_append_drop]
theorem new_if {ws : List Str} {r : Nat} {u : Str} {used : List Str} (h : ws[r]? = some u) (hu : NameOk u) : rdNew ws r used = if u ∈ used then .error (r, "name already used") else .ok u := by
  unfold rdNew
  rw [dname_at h hu]
theorem known_if {ws : List Str} {r : Nat} {u : Str} {ns : List Str} (h : ws[r]? = some u) (hu : NameOk u) : rdKnown ws r ns 0 = if u ∈ ns then .ok (idxS u ns) else .error (r, "unknown name") := by
  unfold rdKnown
  rw [dname_at h hu]
  dsimp only
  by_cases c : u ∈ ns
  · rw [if_pos c, if_neg (by omega), if_pos c]
  · rw [if_neg c, if_neg c]
def sat0 (n : Str) : List Str := [Str.ofString "satellite", n, Str.ofString "store", num 5, Str.ofString "battery", num 60, Str.ofString "level", num 50, Str.ofString "reserve", num 20, Str.ofString "charge", num 1, Str.ofString "settle", num 2, Str.ofString "light"]
abbrev nau : Str := "name already used"
abbrev unk : Str := "unknown name"
theorem seq2_ite {α β : Type} {c : Prop} [Decidable c] {x y : Rd α} {f : α → Rd β} : seq2 (if c then x else y) f = if c then seq2 x f else seq2 y f := by split <;> rfl
theorem seq2_er {α β : Type} {e : Er} {f : α → Rd β} : seq2 (.error e : Rd α) f = .error e := rfl
theorem fd {ws : List Str} {r : Nat} {x : Str} {lo hi m : Int} (h : ws[r]? = some x) (hx : x ≠ Str.ofString "") (h2 : ws[r + 1]? = some (num m)) (b : 0 ≤ m ∧ m < 10000000) (c : lo ≤ m ∧ m ≤ hi) : rdField ws r x lo hi = .ok m := by
  rw [fld_at h hx h2 b, if_neg (by omega)]
theorem sat0_eval {n : Str} {used : List Str} (hn : NameOk n) : rdSat (sat0 n) 90 used = if n ∈ used then .error (1, nau) else .ok n := by
  have f0 : rdNew (sat0 n) 1 used = if n ∈ used then .error (1, nau) else .ok n := new_if rfl hn
  have f1 : rdField (sat0 n) 2 "store" 0 1000000 = .ok 5 := fd rfl (by decide +kernel) rfl (by decide) (by decide)
  have f2 : rdField (sat0 n) 4 "battery" 0 1000000 = .ok 60 := fd rfl (by decide +kernel) rfl (by decide) (by decide)
  have f3 : rdField (sat0 n) 6 "level" 0 60 = .ok 50 := fd rfl (by decide +kernel) rfl (by decide) (by decide)
  have f4 : rdField (sat0 n) 8 "reserve" 0 50 = .ok 20 := fd rfl (by decide +kernel) rfl (by decide) (by decide)
  have f5 : rdField (sat0 n) 10 "charge" 0 1000 = .ok 1 := fd rfl (by decide +kernel) rfl (by decide) (by decide)
  have f6 : rdField (sat0 n) 12 "settle" 0 60 = .ok 2 := fd rfl (by decide +kernel) rfl (by decide) (by decide)
  have f7 : rdChoice (sat0 n) 14 ["light"] = .ok (Str.ofString "light") := choice_at rfl (by decide +kernel)
  have f8 : rdLight (sat0 n) 90 (sat0 n).length 15 0 = .ok () := rfl
  unfold rdSat
  rw [f0, seq2_ite]
  simp only [f1, f2, f3, f4, f5, f6, f7, f8, seq2_okv, seq2_er]
theorem sta_ev {n : Str} {used : List Str} (hn : NameOk n) : rdSta (staL n 2 4) used = if n ∈ used then .error (1, nau) else .ok n := by
  have f0 : rdNew (staL n 2 4) 1 used = if n ∈ used then .error (1, nau) else .ok n := new_if rfl hn
  have f1 : rdField (staL n 2 4) 2 "antennas" 1 3 = .ok 2 := fd rfl (by decide +kernel) rfl (by decide) (by decide)
  have f2 : rdField (staL n 2 4) 4 "turn" 0 60 = .ok 4 := fd rfl (by decide +kernel) rfl (by decide) (by decide)
  unfold rdSta
  rw [f0, seq2_ite]
  simp only [f1, f2, seq2_okv, seq2_er]
theorem rec_ev {n b : Str} {sats used : List Str} (hn : NameOk n) (hb : NameOk b) : rdRec (recL n b 5 9 2 3 4 5 2 20) 90 sats used = if n ∈ used then .error (1, nau) else if b ∈ sats then .ok n else .error (3, unk) := by
  have f0 : rdNew (recL n b 5 9 2 3 4 5 2 20) 1 used = if n ∈ used then .error (1, nau) else .ok n := new_if rfl hn
  have f1 : rdChoice (recL n b 5 9 2 3 4 5 2 20) 2 ["by"] = .ok (Str.ofString "by") := choice_at rfl (by decide +kernel)
  have f2 : rdKnown (recL n b 5 9 2 3 4 5 2 20) 3 sats 0 = if b ∈ sats then .ok (idxS b sats) else .error (3, unk) := known_if rfl hb
  have f3 : rdField (recL n b 5 9 2 3 4 5 2 20) 4 "from" 0 (90 - 1) = .ok 5 := fd rfl (by decide +kernel) rfl (by decide) (by decide)
  have f4 : rdField (recL n b 5 9 2 3 4 5 2 20) 6 "to" 5 (if 90 - 1 < (5 : Int) + 20 then 90 - 1 else 5 + 20) = .ok 9 := fd rfl (by decide +kernel) rfl (by decide) (by decide)
  have f5 : rdField (recL n b 5 9 2 3 4 5 2 20) 8 "length" 1 (90 - 9) = .ok 2 := fd rfl (by decide +kernel) rfl (by decide) (by decide)
  have f6 : rdField (recL n b 5 9 2 3 4 5 2 20) 10 "size" 0 1000000 = .ok 3 := fd rfl (by decide +kernel) rfl (by decide) (by decide)
  have f7 : rdField (recL n b 5 9 2 3 4 5 2 20) 12 "energy" 0 1000000 = .ok 4 := fd rfl (by decide +kernel) rfl (by decide) (by decide)
  have f8 : rdField (recL n b 5 9 2 3 4 5 2 20) 14 "worth" 1 1000 = .ok 5 := fd rfl (by decide +kernel) rfl (by decide) (by decide)
  have f9 : rdField (recL n b 5 9 2 3 4 5 2 20) 16 "rank" 1 3 = .ok 2 := fd rfl (by decide +kernel) rfl (by decide) (by decide)
  have fA : rdField (recL n b 5 9 2 3 4 5 2 20) 18 "until" 0 90 = .ok 20 := fd rfl (by decide +kernel) rfl (by decide) (by decide)
  unfold rdRec
  rw [f0, seq2_ite]
  simp only [f1, f2, f3, f4, f5, f6, f7, f8, f9, fA, seq2_okv, seq2_er, seq2_ite]
theorem pas_ev {n b s : Str} {sats stas used : List Str} (hn : NameOk n) (hb : NameOk b) (hs : NameOk s) : rdPas (pasL n b s 12 20 3 4 5) 90 sats stas used = if n ∈ used then .error (1, nau) else if b ∈ sats then (if s ∈ stas then .ok n else .error (5, unk)) else .error (3, unk) := by
  have f0 : rdNew (pasL n b s 12 20 3 4 5) 1 used = if n ∈ used then .error (1, nau) else .ok n := new_if rfl hn
  have f1 : rdChoice (pasL n b s 12 20 3 4 5) 2 ["by"] = .ok (Str.ofString "by") := choice_at rfl (by decide +kernel)
  have f2 : rdKnown (pasL n b s 12 20 3 4 5) 3 sats 0 = if b ∈ sats then .ok (idxS b sats) else .error (3, unk) := known_if rfl hb
  have f1' : rdChoice (pasL n b s 12 20 3 4 5) 4 ["over"] = .ok (Str.ofString "over") := choice_at rfl (by decide +kernel)
  have f2' : rdKnown (pasL n b s 12 20 3 4 5) 5 stas 0 = if s ∈ stas then .ok (idxS s stas) else .error (5, unk) := known_if rfl hs
  have f3 : rdField (pasL n b s 12 20 3 4 5) 6 "from" 0 (90 - 1) = .ok 12 := fd rfl (by decide +kernel) rfl (by decide) (by decide)
  have f4 : rdField (pasL n b s 12 20 3 4 5) 8 "to" (12 + 1) 90 = .ok 20 := fd rfl (by decide +kernel) rfl (by decide) (by decide)
  have f5 : rdField (pasL n b s 12 20 3 4 5) 10 "room" 0 1000000 = .ok 3 := fd rfl (by decide +kernel) rfl (by decide) (by decide)
  have f6 : rdField (pasL n b s 12 20 3 4 5) 12 "energy" 0 1000000 = .ok 4 := fd rfl (by decide +kernel) rfl (by decide) (by decide)
  have f7 : rdField (pasL n b s 12 20 3 4 5) 14 "fee" 0 1000 = .ok 5 := fd rfl (by decide +kernel) rfl (by decide) (by decide)
  unfold rdPas
  rw [f0, seq2_ite]
  simp only [f1, f2, f1', f2', f3, f4, f5, f6, f7, seq2_okv, seq2_er, seq2_ite]
section
variable {nm : Nat → Nat → Str}
def nl5 (nm : Nat → Nat → Str) (j c : Nat) : List Str := (List.range c).map (nm j)
def lim (i : Nat) : Nat := if i < 2 then 3 else 10
def ln5 (nm : Nat → Nat → Str) : Nat → Nat → List Str
  | 0, c => sat0 (nm 0 c)
  | 1, c => staL (nm 1 c) 2 4
  | 2, c => recL (nm 2 c) (nm 0 (c % 3)) 5 9 2 3 4 5 2 20
  | _, c => pasL (nm 3 c) (nm 0 (c % 3)) (nm 1 (c % 3)) 12 20 3 4 5
def nst (nm : Nat → Nat → Str) : Nat → Nat → List (List Str)
  | 0, c => [nl5 nm 0 c, [], [], []]
  | 1, c => [nl5 nm 0 3, nl5 nm 1 c, [], []]
  | 2, c => [nl5 nm 0 3, nl5 nm 1 3, nl5 nm 2 c, []]
  | _, c => [nl5 nm 0 3, nl5 nm 1 3, nl5 nm 2 10, nl5 nm 3 c]
def blk (nm : Nat → Nat → Str) (i c : Nat) : List (List Str) := (List.range c).map (ln5 nm i)
theorem nl5_snoc {j c : Nat} : nl5 nm j (c + 1) = nl5 nm j c ++ [nm j c] := by
  unfold nl5
  rw [List.range_succ, List.map_append]
  rfl
theorem blk_snoc {j c : Nat} : blk nm j (c + 1) = blk nm j c ++ [ln5 nm j c] := by
  unfold blk
  rw [List.range_succ, List.map_append]
  rfl
theorem nl5_len {j c : Nat} : (nl5 nm j c).length = c := by
  unfold nl5
  rw [List.length_map, List.length_range]
theorem nl5_mem {j c k : Nat} (h : k < c) : nm j k ∈ nl5 nm j c := List.mem_map.mpr ⟨k, List.mem_range.mpr h, rfl⟩
theorem Nms.fresh (N : Nms nm) {j c : Nat} (h : c ≤ 10) : nm j c ∉ nl5 nm j c := fun z => by
  obtain ⟨k, hk, e⟩ := List.mem_map.mp z
  have hk := List.mem_range.mp hk
  have := N.inj j k c (by omega) h e
  omega
theorem Nms.unk (N : Nms nm) {i k j c : Nat} (h : k ≤ 10) (hc : c ≤ 11) : nm i k ++ Str.ofString "Q" ∉ nl5 nm j c := fun z => by
  obtain ⟨k', hk, e⟩ := List.mem_map.mp z
  have hk := List.mem_range.mp hk
  exact N.nq i k j k' h (by omega) e.symm
def sortW : Nat → Str
  | 0 => "satellite"
  | 1 => "station"
  | 2 => "recording"
  | _ => "pass"
theorem sortW_idx : ∀ i, i < 4 → sortW i ∈ sortsL ∧ idxS (sortW i) sortsL = i ∧ sortW i ≠ Str.ofString ""
  | 0, _ => ⟨by decide +kernel, by decide +kernel, by decide +kernel⟩
  | 1, _ => ⟨by decide +kernel, by decide +kernel, by decide +kernel⟩
  | 2, _ => ⟨by decide +kernel, by decide +kernel, by decide +kernel⟩
  | 3, _ => ⟨by decide +kernel, by decide +kernel, by decide +kernel⟩
  | i + 4, h => absurd h (by omega)
theorem ln5_0 : ∀ {i c : Nat}, i < 4 → (ln5 nm i c)[0]? = some (sortW i)
  | 0, _, _ => rfl
  | 1, _, _ => rfl
  | 2, _, _ => rfl
  | 3, _, _ => rfl
  | i + 4, _, h => absurd h (by omega)
theorem ln5_1 : ∀ {i c : Nat}, i < 4 → (ln5 nm i c)[1]? = some (nm i c)
  | 0, _, _ => rfl
  | 1, _, _ => rfl
  | 2, _, _ => rfl
  | 3, _, _ => rfl
  | i + 4, _, h => absurd h (by omega)
theorem nmsAt_nst : ∀ {i c : Nat}, i < 4 → nmsAt (nst nm i c) i = nl5 nm i c
  | 0, _, _ => rfl
  | 1, _, _ => rfl
  | 2, _, _ => rfl
  | 3, _, _ => rfl
  | i + 4, _, h => absurd h (by omega)
theorem most_lim : ∀ {i : Nat}, i < 4 → mostN i = (lim i : Int)
  | 0, _ => by decide
  | 1, _ => by decide
  | 2, _ => by decide
  | 3, _ => by decide
  | i + 4, h => absurd h (by omega)
theorem sort5 {i c kk : Nat} {ws : List Str} (hi : i < 4) (h0 : ws[0]? = some (sortW i)) (hk : kk ≤ i) : rdSort ws kk (nst nm i c) = if c = lim i then .error (0, "too many lines") else .ok i := by
  obtain ⟨s1, s2, s3⟩ := sortW_idx i hi
  unfold rdSort
  rw [due_at h0 s3, seq2_okv, if_pos s1, s2, if_neg (by omega), nmsAt_nst hi, nl5_len, most_lim hi]
  by_cases e : c = lim i
  · rw [if_pos e, if_pos (by rw [e])]
  · rw [if_neg e, if_neg (by omega)]
theorem sort_ooo {i kk : Nat} {ws : List Str} {N : List (List Str)} (hi : i < 4) (h0 : ws[0]? = some (sortW i)) (hk : i < kk) : rdSort ws kk N = .error (0, "line out of order") := by
  obtain ⟨s1, s2, s3⟩ := sortW_idx i hi
  unfold rdSort
  rw [due_at h0 s3, seq2_okv, if_pos s1, s2, if_pos hk]
theorem sort_unx {kk : Nat} {ws : List Str} {N : List (List Str)} {x : Str} (h0 : ws[0]? = some x) (hx : x ≠ Str.ofString "") (hm : x ∉ sortsL) : rdSort ws kk N = .error (0, "unexpected word") := by
  unfold rdSort
  rw [due_at h0 hx, seq2_okv, if_neg hm]
theorem err_sort {h : Int} {k : Nat} {N : List (List Str)} {ws : List Str} {e : Er} (h1 : rdSort ws k N = .error e) : rdLine h k N ws = .error e := by
  unfold rdLine
  rw [h1]
  rfl
theorem step5 (N : Nms nm) : ∀ {i c kk : Nat}, i < 4 → c < lim i → kk ≤ i → rdLine 90 kk (nst nm i c) (ln5 nm i c) = .ok (i, nst nm i (c + 1))
  | 0, c, kk, hi, hc, hk => by
    have hc : c < 3 := hc
    have e := line_ok (h := 90) (i := 0) (N := nst nm 0 c) (ws := ln5 nm 0 c) (nm := nm 0 c) ((sort5 hi rfl hk).trans (if_neg (by show c ≠ 3; omega))) ((sat0_eval (used := nl5 nm 0 c) (N.ok 0 c (by omega))).trans (if_neg (N.fresh (by omega)))) (Nat.lt_irrefl _)
    rw [e]
    show Except.ok (0, [nl5 nm 0 c ++ [nm 0 c], [], [], []]) = Except.ok (0, [nl5 nm 0 (c + 1), [], [], []])
    rw [show nl5 nm 0 (c + 1) = _ from nl5_snoc]
  | 1, c, kk, hi, hc, hk => by
    have hc : c < 3 := hc
    have e := line_ok (h := 90) (i := 1) (N := nst nm 1 c) (ws := ln5 nm 1 c) (nm := nm 1 c) ((sort5 hi rfl hk).trans (if_neg (by show c ≠ 3; omega))) ((sta_ev (used := nl5 nm 1 c) (N.ok 1 c (by omega))).trans (if_neg (N.fresh (by omega)))) (by show ¬ (6 < 6); decide)
    rw [e]
    show Except.ok (1, [nl5 nm 0 3, nl5 nm 1 c ++ [nm 1 c], [], []]) = Except.ok (1, [nl5 nm 0 3, nl5 nm 1 (c + 1), [], []])
    rw [show nl5 nm 1 (c + 1) = _ from nl5_snoc]
  | 2, c, kk, hi, hc, hk => by
    have hc : c < 10 := hc
    have e := line_ok (h := 90) (i := 2) (N := nst nm 2 c) (ws := ln5 nm 2 c) (nm := nm 2 c) ((sort5 hi rfl hk).trans (if_neg (by show c ≠ 10; omega))) (((rec_ev (sats := nl5 nm 0 3) (used := nl5 nm 2 c) (N.ok 2 c (by omega)) (N.ok 0 (c % 3) (by omega))).trans (if_neg (N.fresh (by omega)))).trans (if_pos (nl5_mem (by omega)))) (by show ¬ (20 < 20); decide)
    rw [e]
    show Except.ok (2, [nl5 nm 0 3, nl5 nm 1 3, nl5 nm 2 c ++ [nm 2 c], []]) = Except.ok (2, [nl5 nm 0 3, nl5 nm 1 3, nl5 nm 2 (c + 1), []])
    rw [show nl5 nm 2 (c + 1) = _ from nl5_snoc]
  | 3, c, kk, hi, hc, hk => by
    have hc : c < 10 := hc
    have e := line_ok (h := 90) (i := 3) (N := nst nm 3 c) (ws := ln5 nm 3 c) (nm := nm 3 c) ((sort5 hi rfl hk).trans (if_neg (by show c ≠ 10; omega))) ((((pas_ev (sats := nl5 nm 0 3) (stas := nl5 nm 1 3) (used := nl5 nm 3 c) (N.ok 3 c (by omega)) (N.ok 0 (c % 3) (by omega)) (N.ok 1 (c % 3) (by omega))).trans (if_neg (N.fresh (by omega)))).trans (if_pos (nl5_mem (by omega)))).trans (if_pos (nl5_mem (by omega)))) (by show ¬ (16 < 16); decide)
    rw [e]
    show Except.ok (3, [nl5 nm 0 3, nl5 nm 1 3, nl5 nm 2 10, nl5 nm 3 c ++ [nm 3 c]]) = Except.ok (3, [nl5 nm 0 3, nl5 nm 1 3, nl5 nm 2 10, nl5 nm 3 (c + 1)])
    rw [show nl5 nm 3 (c + 1) = _ from nl5_snoc]
  | i + 4, _, _, h, _, _ => absurd h (by omega)
theorem run5 (N : Nms nm) {i kk : Nat} (hi : i < 4) (hk : kk ≤ i) : ∀ m, m ≤ lim i → ∀ (B : List (List Str)) (n : Int), rdAll 90 (blk nm i m ++ B) n kk (nst nm i 0) = rdAll 90 B (n + m) (if m = 0 then kk else i) (nst nm i m)
  | 0, _, B, n => by
    show rdAll 90 B n kk _ = _
    rw [if_pos rfl]
    congr 1
    omega
  | m + 1, hm, B, n => by
    have e1 : (if m + 1 = 0 then kk else i) = i := if_neg (by omega)
    rw [blk_snoc, List.append_assoc, run5 N hi hk m (by omega) _ n, e1]
    show rdAll 90 (ln5 nm i m :: B) _ _ _ = _
    have hk2 : (if m = 0 then kk else i) ≤ i := by
      by_cases c : m = 0
      · rw [if_pos c]; exact hk
      · rw [if_neg c]; exact Nat.le_refl _
    rw [all_ok (step5 N hi (by omega) hk2)]
    congr 1
    omega
def pref (nm : Nat → Nat → Str) : Nat → Nat → List (List Str)
  | 0, c => blk nm 0 c
  | 1, c => blk nm 0 3 ++ blk nm 1 c
  | 2, c => blk nm 0 3 ++ (blk nm 1 3 ++ blk nm 2 c)
  | _, c => blk nm 0 3 ++ (blk nm 1 3 ++ (blk nm 2 10 ++ blk nm 3 c))
def bas : Nat → Nat
  | 0 => 0
  | 1 => 3
  | 2 => 6
  | _ => 16
theorem pre5 (N : Nms nm) : ∀ {i c : Nat}, i < 4 → 0 < c → c ≤ lim i → ∀ B, rdAll 90 (pref nm i c ++ B) 2 0 [[], [], [], []] = rdAll 90 B (2 + (bas i : Int) + c) i (nst nm i c)
  | 0, c, hi, h0, hc, B => by
    show rdAll 90 (blk nm 0 c ++ B) 2 0 (nst nm 0 0) = _
    rw [run5 N hi (Nat.le_refl _) c hc, if_neg (by omega)]
    rfl
  | 1, c, hi, h0, hc, B => by
    show rdAll 90 (blk nm 0 3 ++ blk nm 1 c ++ B) 2 0 (nst nm 0 0) = _
    rw [List.append_assoc, run5 N (by decide) (Nat.le_refl _) 3 (by decide), if_neg (by omega)]
    show rdAll 90 (blk nm 1 c ++ B) _ 0 (nst nm 1 0) = _
    rw [run5 N hi (by decide) c hc, if_neg (by omega)]
    rfl
  | 2, c, hi, h0, hc, B => by
    show rdAll 90 (blk nm 0 3 ++ (blk nm 1 3 ++ blk nm 2 c) ++ B) 2 0 (nst nm 0 0) = _
    rw [List.append_assoc, run5 N (by decide) (Nat.le_refl _) 3 (by decide), if_neg (by omega)]
    show rdAll 90 (blk nm 1 3 ++ blk nm 2 c ++ B) _ 0 (nst nm 1 0) = _
    rw [List.append_assoc, run5 N (by decide) (by decide) 3 (by decide), if_neg (by omega)]
    show rdAll 90 (blk nm 2 c ++ B) _ 1 (nst nm 2 0) = _
    rw [run5 N hi (by decide) c hc, if_neg (by omega)]
    rfl
  | 3, c, hi, h0, hc, B => by
    show rdAll 90 (blk nm 0 3 ++ (blk nm 1 3 ++ (blk nm 2 10 ++ blk nm 3 c)) ++ B) 2 0 (nst nm 0 0) = _
    rw [List.append_assoc, run5 N (by decide) (Nat.le_refl _) 3 (by decide), if_neg (by omega)]
    show rdAll 90 (blk nm 1 3 ++ (blk nm 2 10 ++ blk nm 3 c) ++ B) _ 0 (nst nm 1 0) = _
    rw [List.append_assoc, run5 N (by decide) (by decide) 3 (by decide), if_neg (by omega)]
    show rdAll 90 (blk nm 2 10 ++ blk nm 3 c ++ B) _ 1 (nst nm 2 0) = _
    rw [List.append_assoc, run5 N (by decide) (by decide) 10 (by decide), if_neg (by omega)]
    show rdAll 90 (blk nm 3 c ++ B) _ 2 (nst nm 3 0) = _
    rw [run5 N hi (by decide) c hc, if_neg (by omega)]
    rfl
  | i + 4, _, h, _, _, _ => absurd h (by omega)
theorem full_ok (N : Nms nm) : rdText (horL 90 :: pref nm 3 10) Str.empty = .ok 90 := by
  rw [hor_at (by decide), if_neg (by decide)]
  have := pre5 N (i := 3) (c := 10) (by decide) (by decide) (by decide) []
  rw [List.append_nil] at this
  rw [this]
  rfl
theorem full_er (N : Nms nm) {i c : Nat} {ws : List Str} {R : List (List Str)} {e : Er} (hi : i < 4) (h0 : 0 < c) (hc : c ≤ lim i) (h : rdLine 90 i (nst nm i c) ws = .error e) : rdText (horL 90 :: (pref nm i c ++ ws :: R)) Str.empty = .error (2 + (bas i : Int) + c, colW ws e.1, e.2) := by
  rw [hor_at (by decide), if_neg (by decide), pre5 N hi h0 hc, all_err h]
theorem blk_len {i c : Nat} : (blk nm i c).length = c := by
  unfold blk
  rw [List.length_map, List.length_range]
theorem blk_take {i c m : Nat} (h : c ≤ m) : (blk nm i m).take c = blk nm i c := by
  unfold blk
  rw [← List.map_take, List.take_range, Nat.min_eq_left h]
theorem blk_at {i c m : Nat} (h : c < m) : (blk nm i m)[c]? = some (ln5 nm i c) := by
  unfold blk
  rw [List.getElem?_map, List.getElem?_range h]
  rfl
/-- the text's lines, so many of each sort -/
def txt5 (nm : Nat → Nat → Str) (a b c d : Nat) : List (List Str) := horL 90 :: (blk nm 0 a ++ (blk nm 1 b ++ (blk nm 2 c ++ blk nm 3 d)))
theorem pref_len : ∀ {i c : Nat}, i < 4 → (pref nm i c).length = bas i + c
  | 0, c, _ => by
    show (blk nm 0 c).length = 0 + c
    rw [blk_len, Nat.zero_add]
  | 1, c, _ => by
    show (blk nm 0 3 ++ blk nm 1 c).length = 3 + c
    rw [List.length_append, blk_len, blk_len]
  | 2, c, _ => by
    show (blk nm 0 3 ++ (blk nm 1 3 ++ blk nm 2 c)).length = 6 + c
    rw [List.length_append, List.length_append, blk_len, blk_len, blk_len]
    omega
  | 3, c, _ => by
    show (blk nm 0 3 ++ (blk nm 1 3 ++ (blk nm 2 10 ++ blk nm 3 c))).length = 16 + c
    rw [List.length_append, List.length_append, List.length_append, blk_len, blk_len, blk_len, blk_len]
    omega
  | i + 4, _, h => absurd h (by omega)
theorem pref_at : ∀ {i c : Nat}, i < 4 → c < lim i → ∃ R, pref nm 3 10 = pref nm i c ++ ln5 nm i c :: R
  | 0, c, _, hc => by
    have hc : c < 3 := hc
    refine ⟨(blk nm 0 3).drop (c + 1) ++ (blk nm 1 3 ++ (blk nm 2 10 ++ blk nm 3 10)), ?_⟩
    show blk nm 0 3 ++ _ = blk nm 0 c ++ _
    rw [← blk_take (show c ≤ 3 by omega), ← List.cons_append, ← List.append_assoc (bs := ln5 nm 0 c :: _), show (blk nm 0 3).take c ++ ln5 nm 0 c :: (blk nm 0 3).drop (c + 1) = blk nm 0 3 from cut_at (blk_at hc)]
  | 1, c, _, hc => by
    have hc : c < 3 := hc
    refine ⟨(blk nm 1 3).drop (c + 1) ++ (blk nm 2 10 ++ blk nm 3 10), ?_⟩
    show blk nm 0 3 ++ (blk nm 1 3 ++ _) = (blk nm 0 3 ++ blk nm 1 c) ++ _
    rw [List.append_assoc, ← blk_take (show c ≤ 3 by omega), ← List.cons_append, ← List.append_assoc (bs := ln5 nm 1 c :: _), show (blk nm 1 3).take c ++ ln5 nm 1 c :: (blk nm 1 3).drop (c + 1) = blk nm 1 3 from cut_at (blk_at hc)]
  | 2, c, _, hc => by
    have hc : c < 10 := hc
    refine ⟨(blk nm 2 10).drop (c + 1) ++ blk nm 3 10, ?_⟩
    show blk nm 0 3 ++ (blk nm 1 3 ++ (blk nm 2 10 ++ _)) = (blk nm 0 3 ++ (blk nm 1 3 ++ blk nm 2 c)) ++ _
    rw [List.append_assoc, List.append_assoc, ← blk_take (show c ≤ 10 by omega), ← List.cons_append, ← List.append_assoc (bs := ln5 nm 2 c :: _), show (blk nm 2 10).take c ++ ln5 nm 2 c :: (blk nm 2 10).drop (c + 1) = blk nm 2 10 from cut_at (blk_at hc)]
  | 3, c, _, hc => by
    have hc : c < 10 := hc
    refine ⟨(blk nm 3 10).drop (c + 1), ?_⟩
    show blk nm 0 3 ++ (blk nm 1 3 ++ (blk nm 2 10 ++ blk nm 3 10)) = (blk nm 0 3 ++ (blk nm 1 3 ++ (blk nm 2 10 ++ blk nm 3 c))) ++ _
    rw [List.append_assoc, List.append_assoc, List.append_assoc, ← blk_take (show c ≤ 10 by omega), show (blk nm 3 10).take c ++ ln5 nm 3 c :: (blk nm 3 10).drop (c + 1) = blk nm 3 10 from cut_at (blk_at hc)]
  | i + 4, _, h, _ => absurd h (by omega)
/-- the full text, its row of the i-th sort's c-th line changed -/
theorem set5 (N : Nms nm) {i c : Nat} {ws : List Str} {e : Er} (hi : i < 4) (h0 : 0 < c) (hc : c < lim i) (h : rdLine 90 i (nst nm i c) ws = .error e) : rdText ((txt5 nm 3 3 10 10).set (1 + bas i + c) ws) Str.empty = .error (((1 + bas i + c : Nat) : Int) + 1, colW ws e.1, e.2) := by
  obtain ⟨R, hR⟩ := pref_at (nm := nm) hi hc
  have e1 : (txt5 nm 3 3 10 10).set (1 + bas i + c) ws = horL 90 :: (pref nm i c ++ ws :: R) := by
    show (horL 90 :: pref nm 3 10).set (1 + bas i + c) ws = _
    rw [show 1 + bas i + c = (bas i + c) + 1 by omega, List.set_cons_succ, hR, ← pref_len hi, List.set_append_right _ _ (Nat.le_refl _), Nat.sub_self]
    rfl
  rw [e1, full_er N hi h0 (Nat.le_of_lt hc) h]
  congr 2
  omega
theorem at5 {i c : Nat} (hi : i < 4) (hc : c < lim i) : (txt5 nm 3 3 10 10)[1 + bas i + c]? = some (ln5 nm i c) := by
  obtain ⟨R, hR⟩ := pref_at (nm := nm) hi hc
  show (horL 90 :: pref nm 3 10)[1 + bas i + c]? = _
  rw [show 1 + bas i + c = (bas i + c) + 1 by omega, List.getElem?_cons_succ, hR, ← pref_len hi, List.getElem?_append_right (Nat.le_refl _), Nat.sub_self]
  rfl
/-- one line too many -/
theorem over5 (N : Nms nm) : ∀ {i : Nat}, i < 4 → rdText (txt5 nm (if i = 0 then 4 else 3) (if i = 1 then 4 else 3) (if i = 2 then 11 else 10) (if i = 3 then 11 else 10)) Str.empty = .error (2 + (bas i : Int) + lim i, 1, "too many lines")
  | 0, hi => by
    show rdText (horL 90 :: (blk nm 0 4 ++ (blk nm 1 3 ++ (blk nm 2 10 ++ blk nm 3 10)))) Str.empty = _
    rw [show blk nm 0 4 = pref nm 0 3 ++ [ln5 nm 0 3] from blk_snoc, List.append_assoc]
    exact full_er N hi (by decide) (by decide) (err_sort ((sort5 hi rfl (Nat.le_refl _)).trans (if_pos rfl)))
  | 1, hi => by
    show rdText (horL 90 :: (blk nm 0 3 ++ (blk nm 1 4 ++ (blk nm 2 10 ++ blk nm 3 10)))) Str.empty = _
    rw [show blk nm 1 4 = blk nm 1 3 ++ [ln5 nm 1 3] from blk_snoc, List.append_assoc, ← List.append_assoc]
    exact full_er N hi (by decide) (by decide) (err_sort ((sort5 hi rfl (Nat.le_refl _)).trans (if_pos rfl)))
  | 2, hi => by
    show rdText (horL 90 :: (blk nm 0 3 ++ (blk nm 1 3 ++ (blk nm 2 11 ++ blk nm 3 10)))) Str.empty = _
    rw [show blk nm 2 11 = blk nm 2 10 ++ [ln5 nm 2 10] from blk_snoc, List.append_assoc (blk nm 2 10), ← List.append_assoc (blk nm 1 3), ← List.append_assoc (blk nm 0 3)]
    exact full_er N hi (by decide) (by decide) (err_sort ((sort5 hi rfl (Nat.le_refl _)).trans (if_pos rfl)))
  | 3, hi => by
    show rdText (horL 90 :: (blk nm 0 3 ++ (blk nm 1 3 ++ (blk nm 2 10 ++ blk nm 3 11)))) Str.empty = _
    rw [show blk nm 3 11 = blk nm 3 10 ++ [ln5 nm 3 10] from blk_snoc, ← List.append_assoc (blk nm 2 10), ← List.append_assoc (blk nm 1 3), ← List.append_assoc (blk nm 0 3)]
    exact full_er N hi (by decide) (by decide) (err_sort ((sort5 hi rfl (Nat.le_refl _)).trans (if_pos rfl)))
  | i + 4, h => absurd h (by omega)
/-- the faults of one line -/
theorem used5 (N : Nms nm) : ∀ {i c k : Nat}, i < 4 → 0 < c → c < lim i → k < c → rdLine 90 i (nst nm i c) ((ln5 nm i c).set 1 (nm i k)) = .error (1, nau)
  | 0, c, k, hi, h0, hc, hk => by
    have hc : c < 3 := hc
    exact line_err ((sort5 hi rfl (Nat.le_refl _)).trans (if_neg (by show c ≠ 3; omega))) ((sat0_eval (n := nm 0 k) (used := nl5 nm 0 c) (N.ok 0 k (by omega))).trans (if_pos (nl5_mem hk)))
  | 1, c, k, hi, h0, hc, hk => by
    have hc : c < 3 := hc
    exact line_err ((sort5 hi rfl (Nat.le_refl _)).trans (if_neg (by show c ≠ 3; omega))) ((sta_ev (n := nm 1 k) (used := nl5 nm 1 c) (N.ok 1 k (by omega))).trans (if_pos (nl5_mem hk)))
  | 2, c, k, hi, h0, hc, hk => by
    have hc : c < 10 := hc
    exact line_err ((sort5 hi rfl (Nat.le_refl _)).trans (if_neg (by show c ≠ 10; omega))) ((rec_ev (n := nm 2 k) (b := nm 0 (c % 3)) (sats := nl5 nm 0 3) (used := nl5 nm 2 c) (N.ok 2 k (by omega)) (N.ok 0 (c % 3) (by omega))).trans (if_pos (nl5_mem hk)))
  | 3, c, k, hi, h0, hc, hk => by
    have hc : c < 10 := hc
    exact line_err ((sort5 hi rfl (Nat.le_refl _)).trans (if_neg (by show c ≠ 10; omega))) ((pas_ev (n := nm 3 k) (b := nm 0 (c % 3)) (s := nm 1 (c % 3)) (sats := nl5 nm 0 3) (stas := nl5 nm 1 3) (used := nl5 nm 3 c) (N.ok 3 k (by omega)) (N.ok 0 (c % 3) (by omega)) (N.ok 1 (c % 3) (by omega))).trans (if_pos (nl5_mem hk)))
  | i + 4, _, _, h, _, _, _ => absurd h (by omega)
theorem unk5 (N : Nms nm) {c : Nat} (hc : c < 10) : rdLine 90 2 (nst nm 2 c) ((ln5 nm 2 c).set 3 (nm 2 c ++ Str.ofString "Q")) = .error (3, unk) ∧ rdLine 90 3 (nst nm 3 c) ((ln5 nm 3 c).set 3 (nm 3 c ++ Str.ofString "Q")) = .error (3, unk) ∧ rdLine 90 3 (nst nm 3 c) ((ln5 nm 3 c).set 5 (nm 3 c ++ Str.ofString "Q")) = .error (5, unk) := by
  refine ⟨?_, ?_, ?_⟩
  · exact line_err ((sort5 (by decide) rfl (Nat.le_refl _)).trans (if_neg (by show c ≠ 10; omega))) (((rec_ev (n := nm 2 c) (b := nm 2 c ++ Str.ofString "Q") (sats := nl5 nm 0 3) (used := nl5 nm 2 c) (N.ok 2 c (by omega)) (N.okQ 2 c (by omega))).trans (if_neg (N.fresh (by omega)))).trans (if_neg (N.unk (by omega) (by omega))))
  · exact line_err ((sort5 (by decide) rfl (Nat.le_refl _)).trans (if_neg (by show c ≠ 10; omega))) (((pas_ev (n := nm 3 c) (b := nm 3 c ++ Str.ofString "Q") (s := nm 1 (c % 3)) (sats := nl5 nm 0 3) (stas := nl5 nm 1 3) (used := nl5 nm 3 c) (N.ok 3 c (by omega)) (N.okQ 3 c (by omega)) (N.ok 1 (c % 3) (by omega))).trans (if_neg (N.fresh (by omega)))).trans (if_neg (N.unk (by omega) (by omega))))
  · exact line_err ((sort5 (by decide) rfl (Nat.le_refl _)).trans (if_neg (by show c ≠ 10; omega))) ((((pas_ev (n := nm 3 c) (b := nm 0 (c % 3)) (s := nm 3 c ++ Str.ofString "Q") (sats := nl5 nm 0 3) (stas := nl5 nm 1 3) (used := nl5 nm 3 c) (N.ok 3 c (by omega)) (N.ok 0 (c % 3) (by omega)) (N.okQ 3 c (by omega))).trans (if_neg (N.fresh (by omega)))).trans (if_pos (nl5_mem (by omega)))).trans (if_neg (N.unk (by omega) (by omega))))
theorem ooo5 {i j c k : Nat} {x : Str} (hi : i < 4) (hj : j < i) : rdLine 90 i (nst nm i c) ((ln5 nm j k).set 1 x) = .error (0, "line out of order") := err_sort (sort_ooo (i := j) (by omega) (by rw [List.getElem?_set_ne (by decide)]; exact ln5_0 (by omega)) hj)
theorem unx5 {i c : Nat} : rdLine 90 i (nst nm i c) (horL 90) = .error (0, "unexpected word") := err_sort (sort_unx (x := "horizon") rfl (by decide +kernel) (by decide +kernel))
end
end DP
namespace DP
open PySem PySem.Spec PyProof.Rows L2
abbrev s__law_fault : Stmt := topS 48
theorem sc__law_fault : FnScope ["lines", "e", "line"] ["lines"] (defScope s__law_fault) := ⟨rfl, rfl, rfl, by decide +kernel, rfl, by decide +kernel, by decide +kernel⟩
abbrev s__law_full : Stmt := topS 49
theorem sc__law_full : FnScope ["stream", "counts", "k", "names", "lines", "j"] ["stream", "counts"] (defScope s__law_full) := ⟨rfl, rfl, rfl, by decide +kernel, rfl, by decide +kernel, by decide +kernel⟩
theorem pi_listK {X : Cx} {tg l : Expr} {tl : TE} {K : PySem.W.Frag} (hk : X.K = K) (hl : PE X l tl) : PI X tg l (iList K tl) := by
  subst hk
  exact pi_list hl
def tJoin (K : PySem.W.Frag) (to te : TE) : TE := tM1 (fun x xs H Q => ∃ a p, ∃ ys : List Str, x = .str a ∧ xs = [.ref p] ∧ (SqL K H p (ys.map V.str) ∨ SqT K H p (ys.map V.str)) ∧ (ys.map (·.length)).sum + ys.length * a.length ≤ 16777216 ∧ Q (.str (Txt.join a ys)) H) to te
theorem pe_joinK {X : Cx} {K : PySem.W.Frag} {o e : Expr} {to te : TE} {apos pos : Pos} (hk : X.K = K) (ho : PE X o to) (he : PE X e te) (hs : starEach [e] X.env = [(false, eval e X.env)] := by rfl) (hbase : attributeBase o "join" X.env (eval o X.env) = eval o X.env := by rfl) (hline : (apos.endLine == pos.line) = true := by rfl) :
    PE X (.Call (.Attribute o "join" apos) [e] [] pos) (tJoin K to te) := by
  subst hk
  exact pe_join ho he hs hbase hline
section
variable {P : Program} {w : World} {K : PySem.W.Frag} {mg : Str → Option Value} {base : Heap} {CL CS CT CR CP CW aS aR fS fT fR fP CF : Addr}
def spFault (K : PySem.W.Frag) : Sp := fun vs H Q E => ∃ (p : Addr) (lns : List (List Str)), vs = [.ref p] ∧ SqL K H p ((lns.map row).map V.str) ∧ (∀ l ∈ lns, LnW l) ∧ lns.length ≤ 40 ∧
  (∀ f, rdText lns Str.empty = .error f → ∀ t H', Same H H' → SqT K H' t [.int f.1, .int f.2.1, .str f.2.2] → Q (.ref t) H') ∧ (∀ h, rdText lns Str.empty = .ok h → ∀ H', Same H H' → Q (.str "read") H')
theorem d_fault (T : TxtW K mg CL CS CT CR CP CW aS aR fS fT fR fP) (TF : TfAt K mg CF) (D_World_parse : SDef P w K mg base (L2.CX P w) 9 CW "parse" ["text"] (spParseX K CW CF)) (A : At K mg "_law_fault" s__law_fault ["lines"]) : DefOk P w K mg base CX0 10 "_law_fault" ["lines"] (spFault K) := by
  have B := T.L.B
  refine A.ok sc__law_fault (fun vs H Q E h => ?_) (fun f cdv A outer s H vs Q E hr h => ?_)
  · obtain ⟨p, lns, rfl, _⟩ := h
    rfl
  obtain ⟨p, lns, rfl, hp, hok, hn, qe, q⟩ := h
  have hr1 : Room 9 _ := hr.mono (by omega)
  refine ⟨_, pss_cons (ps_try_as (i := 1) (Wout := fun _ _ _ _ => False) rfl rfl sc__law_fault.nd rfl rfl ⟨rfl, by decide, Or.inl TF.g⟩ takes0 (fun W pn xe tk _ => by { refine' pss_one (ps_expr (pe_smethS D_World_parse T.rdW hr1 (fun σ => passAt tk σ) (pe_ga T.c_World.gC) (pa_cons ?jn pa_nil))); case jn => (refine' pe_joinK (K := K) rfl pe_str ?jm; case jm => exact (pe_lc (own := [("line", 2)]) rfl sc__law_fault.nd (pi_listK (K := K) rfl (pv 0)) (blkOk_by (own := [("line", 2)]) (N := ["lines", "e", "line"]) (sc := defScope s__law_fault) (by decide +kernel)) (fun _ _ _ _ _ => pg_name (i := 2) sc__law_fault.nd rfl (Or.inl rfl)) (fun _ _ _ _ _ => pts_nil) (fun _ _ _ _ _ => (pe_op op_add_str (pv 2) pe_str)))) }) (fun a oe cls d pn hz hf => pss_one (ps_ret (pe_tup (pa_cons (pe_xf TF.xf TF.nl hz hf (pv 1)) (pa_cons (pe_xf TF.xf TF.nc hz hf (pv 1)) (pa_cons (pe_xf TF.xf TF.nr hz hf (pv 1)) pa_nil)))))))
  (pss_one (ps_ret pe_str))
    , ?_⟩
  have lok : ∀ r ∈ lns.map row, r.length ≤ 16400 := fun r hr => by
    obtain ⟨l, hl, rfl⟩ := List.mem_map.mp hr
    have h2 := row_lenX (hok l hl).wd
    have h3 := (hok l hl).sz
    omega
  have gq : Txt.join (Str.ofString "") ((lns.map row).map fun r => r ++ nl) = glue (lns.map row) := by
    rw [show (Str.ofString "" : Str) = Str.empty from rfl, join_nl]
  have hspl := split_glueX hok
  have hgl := glue_lenX hok hn
  generalize hrows : lns.map row = rows at lok gq hp hspl hgl
  have lrw : rows.length ≤ 40 := by rw [← hrows, List.length_map]; exact hn
  refine ⟨rfl, ⟨_, rfl⟩, _, rfl, p, rfl, ⟨_, hp⟩, fun D hD => ?_⟩
  refine lc_list (K := K) (a := p) (xs := rows.map V.str) (fun i H' => Same H H' ∧ H' D = some (.lst (((rows.take i).map fun r => r ++ nl).map V.str))) ⟨same_new hD _, upd_same⟩ (fun i H' _ h => h.1.seq hp) (fun i x H2 hx hI => ?_) (fun H2 hI => ?_)
  · obtain ⟨hs, hDD⟩ := hI
    rw [List.getElem?_map] at hx
    cases e : rows[i]? with
    | none => rw [e] at hx; cases hx
    | some r =>
      rw [e] at hx
      have ex : V.str r = x := Option.some.inj hx
      subst ex
      have hr1 := lok r (List.mem_of_getElem? e)
      have nl1 : (Str.ofString "\n" : Str).length ≤ 1 := by decide +kernel
      refine ⟨rfl, _, rfl, _, _, rfl, rfl, fit_bigX (by omega), _, hDD, ?_, same_at hD hs _, ?_⟩
      · rw [List.length_map, List.length_map, List.length_take]
        exact small1000 (by omega)
      · rw [upd_same, take_snoc e]
        simp only [List.map_append, List.map_cons, List.map_nil]
        rfl
  · obtain ⟨hs, hDD⟩ := hI
    rw [List.length_map, List.take_length] at hDD
    refine ⟨_, D, _, rfl, rfl, .inl (SqL.of hDD), ?_, ?_⟩
    · have b : ∀ l : List Str, (∀ r ∈ l, r.length ≤ 16400) → ((l.map fun r => r ++ nl).map fun x => x.length).sum ≤ 16401 * l.length := fun l => by
        induction l with
        | nil => exact fun _ => Nat.zero_le _
        | cons x r ih =>
          intro hl
          have h1 := ih fun z hz => hl z (List.mem_cons_of_mem _ hz)
          have h2 := len_addX (hl x List.mem_cons_self) (show nl.length ≤ 1 by decide +kernel)
          simp only [List.map_cons, List.sum_cons, List.length_cons]
          omega
      have := b rows lok
      rw [show (Str.ofString "" : Str).length = 0 from rfl]
      omega
    rw [gq]
    refine ⟨glue rows, lns, Str.empty, rfl, by rw [hspl, hrows], fun l hl => (hok l hl).ok, by omega, hgl, by decide, fun f hf d H' s' hd => ⟨true, TF.te, fun _ a ha => ?_, fun z => Bool.noConfusion z⟩, fun h hh a dx t0 t1 t2 t3 H' ha s' hx => ?_⟩
    · have e1 : (tfF f.1 f.2.1 f.2.2).lookup ("line" : Str) = some (.int f.1) := by unfold tfF; exact (lk_miss (by decide +kernel)).trans ((lk_miss (by decide +kernel)).trans lk_hit)
      have e2 : (tfF f.1 f.2.1 f.2.2).lookup ("column" : Str) = some (.int f.2.1) := by unfold tfF; exact (lk_miss (by decide +kernel)).trans lk_hit
      have e3 : (tfF f.1 f.2.1 f.2.2).lookup ("reason" : Str) = some (.str f.2.2) := by unfold tfF; exact lk_hit
      refine ⟨_, rfl, rfl, rfl, d, _, _, rfl, hd, e1, _, rfl, rfl, rfl, d, _, _, rfl, hd, e2, _, rfl, rfl, rfl, d, _, _, rfl, hd, e3, (by show 3 ≤ sizeLine; decide), fun t ht => ?_⟩
      exact qe f hf t _ ((hs.trans s').trans (same_new ht _)) (SqT.of upd_same)
    · exact q h hh H' (hs.trans s')
end
end DP
namespace DP
open PySem PySem.Spec PyProof.Rows L2
theorem h90_str : (Str.ofString "horizon 90" : Str) = row (horL 90) := by decide +kernel
theorem sat0_str {n0 : Str} : (Str.ofString "satellite " : Str) ++ n0 ++ Str.ofString " store 5 battery 60 level 50 reserve 20 charge 1 settle 2 light" = row (sat0 n0) := by
  refine TL.ext_tl ?_
  show tl _ = tl (row (sat0 n0))
  unfold row sat0
  rw [show ∀ ws, tl (Str.join sp ws) = TL.joinL (tl sp) (ws.map tl) from fun ws => TL.tl_join _ _]
  simp only [tl_app, List.append_assoc, List.map_cons, List.map_nil]
  generalize tl n0 = y
  kernel_rfl
theorem sta5_str {n1 : Str} : (Str.ofString "station " : Str) ++ n1 ++ Str.ofString " antennas 2 turn 4" = row (staL n1 2 4) := by
  refine TL.ext_tl ?_
  show tl _ = tl (row (staL n1 2 4))
  unfold row staL
  rw [show ∀ ws, tl (Str.join sp ws) = TL.joinL (tl sp) (ws.map tl) from fun ws => TL.tl_join _ _]
  simp only [tl_app, List.append_assoc, List.map_cons, List.map_nil]
  generalize tl n1 = y
  kernel_rfl
theorem rec5_str {n2 n0 : Str} : (Str.ofString "recording " : Str) ++ n2 ++ Str.ofString " by " ++ n0 ++ Str.ofString " from 5 to 9 length 2 size 3 energy 4 worth 5 rank 2 until 20" = row (recL n2 n0 5 9 2 3 4 5 2 20) := by
  refine TL.ext_tl ?_
  show tl _ = tl (row (recL n2 n0 5 9 2 3 4 5 2 20))
  unfold row recL
  rw [show ∀ ws, tl (Str.join sp ws) = TL.joinL (tl sp) (ws.map tl) from fun ws => TL.tl_join _ _]
  simp only [tl_app, List.append_assoc, List.map_cons, List.map_nil]
  generalize tl n2 = x
  generalize tl n0 = y
  kernel_rfl
theorem pas5_str {n3 n0 n1 : Str} : (Str.ofString "pass " : Str) ++ n3 ++ Str.ofString " by " ++ n0 ++ Str.ofString " over " ++ n1 ++ Str.ofString " from 12 to 20 room 3 energy 4 fee 5" = row (pasL n3 n0 n1 12 20 3 4 5) := by
  refine TL.ext_tl ?_
  show tl _ = tl (row (pasL n3 n0 n1 12 20 3 4 5))
  unfold row pasL
  rw [show ∀ ws, tl (Str.join sp ws) = TL.joinL (tl sp) (ws.map tl) from fun ws => TL.tl_join _ _]
  simp only [tl_app, List.append_assoc, List.map_cons, List.map_nil]
  generalize tl n3 = x
  generalize tl n0 = y
  generalize tl n1 = z
  kernel_rfl
theorem app_ln {A : List (List Str)} {x : List Str} {s : Str} (e : s = row x) : (A.map row).map V.str ++ [V.str s] = ((A ++ [x]).map row).map V.str := by
  rw [e, List.map_append, List.map_append]
  rfl
section
variable {P : Program} {w : World} {K : PySem.W.Frag} {mg : Str → Option Value} {base : Heap}
def spFull (K : PySem.W.Frag) : Sp := fun vs H Q _ => ∃ (st cs : Addr) (a b c d : Nat), vs = [.ref st, .ref cs] ∧ Strm H st ∧ SqL K H cs [.int (a : Int), .int (b : Int), .int (c : Int), .int (d : Int)] ∧ a ≤ 11 ∧ b ≤ 11 ∧ c ≤ 11 ∧ d ≤ 11 ∧
  ∀ nm p H', Nms nm → Same H H' → H p = none → H' p = some (.lst (((txt5 nm a b c d).map row).map V.str)) → Q (.ref p) H'
set_option maxHeartbeats 16000000 in
theorem d_full (B : Bt mg) (D_law_word : DefOk P w K mg base CX0 2 "_law_word" ["stream", "index"] spWordL) (A : At K mg "_law_full" s__law_full ["stream", "counts"]) : DefOk P w K mg base CX0 3 "_law_full" ["stream", "counts"] (spFull K) := by
  refine A.ok sc__law_full (fun vs H Q E h => ?_) (fun f cdv A outer s H vs Q E hr h => ?_)
  · obtain ⟨st, cs, a, b, c, d, rfl, _⟩ := h
    rfl
  obtain ⟨st, cs, a, b, c, d, rfl, hst, hcs, la, lb, lc, ld, q⟩ := h
  refine ⟨_, pss_cons (ps_setLc (own := [("j", 5)]) (i := 3) rfl sc__law_full.nd rfl rfl (sw_true rfl rfl rfl (by decide +kernel)) (pi_range1 (by rfl) B.range (pa_cons pe_int pa_nil)) (blkOk_by (own := [("j", 5)]) (N := ["stream", "counts", "k", "names", "lines", "j"]) (sc := defScope s__law_full) (by decide +kernel)) (fun _ _ _ _ _ => pg_name (i := 5) sc__law_full.nd rfl (Or.inl rfl)) (fun _ _ _ _ _ => pts_nil) (fun _ _ _ _ _ => (pe_lc (own := [("k", 2)])  rfl sc__law_full.nd (pi_range1 (by rfl) B.range (pa_cons pe_int pa_nil)) (blkOk_by (own := [("k", 2)]) (N := ["stream", "counts", "k", "names", "lines", "j"]) (sc := relS _ (defScope s__law_full)) (by decide +kernel)) (fun _ _ _ _ _ => pg_name (i := 2) sc__law_full.nd rfl (Or.inl rfl)) (fun _ _ _ _ _ => pts_nil) (fun _ _ _ _ _ => (pe_op op_add_str (pe_op op_add_str (pe_f D_law_word (hr.mono (by omega)) pass0 (pa_cons (pv 0) (pa_cons (pe_op op_mod (pv 2) pe_int) pa_nil))) pe_str) (pe_callTy (call_str_int) (by rfl) B.str (by decide +kernel) (pa_cons (pv 2) pa_nil)))))))
  (pss_cons (ps_set (i := 4) sc__law_full.nd rfl (Or.inl rfl) (pe_lst (pa_cons pe_str pa_nil)))
  (pss_cons (ps_for PassesOwn.never rfl (pi_range1 (by rfl) B.range (pa_cons (pe_ix ix_list (pv 1) pe_int (fun _ _ => rfl)) pa_nil)) (pg_name (i := 2) sc__law_full.nd rfl (Or.inl rfl))
      (pss_one (ps_expr (pe_bm PySem.F.plainAttrs_list PySem.F.slot_list_append PySem.F.type_list_append mt_append (pv 4) (pa_cons (pe_op op_add_str (pe_op op_add_str pe_str (pe_ix ix_list (pe_ix ix_list (pv 3) pe_int (fun _ _ => rfl)) (pv 2) (fun _ _ => rfl))) pe_str) pa_nil)))))
  (pss_cons (ps_for PassesOwn.never rfl (pi_range1 (by rfl) B.range (pa_cons (pe_ix ix_list (pv 1) pe_int (fun _ _ => rfl)) pa_nil)) (pg_name (i := 2) sc__law_full.nd rfl (Or.inl rfl))
      (pss_one (ps_expr (pe_bm PySem.F.plainAttrs_list PySem.F.slot_list_append PySem.F.type_list_append mt_append (pv 4) (pa_cons (pe_op op_add_str (pe_op op_add_str pe_str (pe_ix ix_list (pe_ix ix_list (pv 3) pe_int (fun _ _ => rfl)) (pv 2) (fun _ _ => rfl))) pe_str) pa_nil)))))
  (pss_cons (ps_for PassesOwn.never rfl (pi_range1 (by rfl) B.range (pa_cons (pe_ix ix_list (pv 1) pe_int (fun _ _ => rfl)) pa_nil)) (pg_name (i := 2) sc__law_full.nd rfl (Or.inl rfl))
      (pss_one (ps_expr (pe_bm PySem.F.plainAttrs_list PySem.F.slot_list_append PySem.F.type_list_append mt_append (pv 4) (pa_cons (pe_op op_add_str (pe_op op_add_str (pe_op op_add_str (pe_op op_add_str pe_str (pe_ix ix_list (pe_ix ix_list (pv 3) pe_int (fun _ _ => rfl)) (pv 2) (fun _ _ => rfl))) pe_str) (pe_ix ix_list (pe_ix ix_list (pv 3) pe_int (fun _ _ => rfl)) (pe_op op_mod (pv 2) pe_int) (fun _ _ => rfl))) pe_str) pa_nil)))))
  (pss_cons (ps_for PassesOwn.never rfl (pi_range1 (by rfl) B.range (pa_cons (pe_ix ix_list (pv 1) pe_int (fun _ _ => rfl)) pa_nil)) (pg_name (i := 2) sc__law_full.nd rfl (Or.inl rfl))
      (pss_one (ps_expr (pe_bm PySem.F.plainAttrs_list PySem.F.slot_list_append PySem.F.type_list_append mt_append (pv 4) (pa_cons (pe_op op_add_str (pe_op op_add_str (pe_op op_add_str (pe_op op_add_str (pe_op op_add_str (pe_op op_add_str pe_str (pe_ix ix_list (pe_ix ix_list (pv 3) pe_int (fun _ _ => rfl)) (pv 2) (fun _ _ => rfl))) pe_str) (pe_ix ix_list (pe_ix ix_list (pv 3) pe_int (fun _ _ => rfl)) (pe_op op_mod (pv 2) pe_int) (fun _ _ => rfl))) pe_str) (pe_ix ix_list (pe_ix ix_list (pv 3) pe_int (fun _ _ => rfl)) (pe_op op_mod (pv 2) pe_int) (fun _ _ => rfl))) pe_str) pa_nil)))))
  (pss_one (ps_ret (pv 4))))))))
    , ?_⟩
  have x1 : (Str.ofString "x" : Str).length = 1 := by decide +kernel
  have zz := sizeLine_eq
  refine ⟨4, rfl, by decide, by decide, fun D hD => ?_⟩
  refine lc_range (lo := 0) (n := 4) (fun i H' => ∃ (wd : Nat → Nat → Str) (as : List Addr), as.length = i ∧ (∀ j, j < i → ∃ r, as[j]? = some r ∧ H' r = some (.lst (((List.range 11).map fun k => wd j k ++ Str.ofString "x" ++ num (k : Int)).map V.str)) ∧ ∀ k, k ≤ 10 → WordAt (k % 10) (wd j k) ∧ (wd j k).length ≤ 10) ∧ H' D = some (.lst (as.map V.ref)) ∧ Same H H')
    ⟨fun _ _ => Str.empty, [], rfl, fun j z => absurd z (by omega), upd_same, same_new hD _⟩ (fun i H1 hi hI => ?_) (fun H1 hI => ?_)
  · obtain ⟨wd, as, hal, has, hDD, hs⟩ := hI
    refine ⟨rfl, 11, rfl, by decide, by decide, fun D2 hD2 => ?_⟩
    have nD : D ≠ D2 := ne_of_none hDD hD2
    refine lc_range (lo := 0) (n := 11) (fun m H' => ∃ (us : Nat → Str), (∀ k, k < m → WordAt (k % 10) (us k) ∧ (us k).length ≤ 10) ∧ H' D2 = some (.lst (((List.range m).map fun k => us k ++ Str.ofString "x" ++ num (k : Int)).map V.str)) ∧ Same H1 H')
      ⟨fun _ => Str.empty, fun k z => absurd z (by omega), upd_same, same_new hD2 _⟩ (fun m H2 hm hI => ?_) (fun H2 hI => ?_)
    · obtain ⟨us, hus, hUU, hs2⟩ := hI
      rw [Int.zero_add]
      refine ⟨rfl, _, rfl, _, rfl, _, _, rfl, rfl, (by show (0 : Int) < 10; decide), st, m % 10, rfl, by omega, (hst.same hs).same hs2, fun u H3 s3 hu hl => ?_⟩
      have ln := tos_len (n := (m : Int)) (by omega) (by omega)
      have le : (u ++ Str.ofString "x").length = u.length + 1 := by rw [len_app, x1]
      refine ⟨_, _, rfl, rfl, by omega, _, rfl, (m : Int), rfl, log_lt (by omega) (by omega), _, _, rfl, rfl, by omega, _, s3 _ _ hUU, by rw [List.length_map, List.length_map, List.length_range]; exact small1000 (by omega), fun z => if z = m then u else us z, fun k hk => ?_, ?_, same_at hD2 (hs2.trans s3) _⟩
      · by_cases c : k = m
        · subst c
          dsimp only
          rw [if_pos rfl]
          exact ⟨hu, hl⟩
        · dsimp only
          rw [if_neg c]
          exact hus k (by omega)
      · rw [upd_same, List.range_succ, List.map_append, List.map_append]
        have e1 : ((List.range m).map fun k => us k ++ Str.ofString "x" ++ num (k : Int)) = ((List.range m).map fun k => (if k = m then u else us k) ++ Str.ofString "x" ++ num (k : Int)) := List.map_congr_left fun k hk => by
          rw [if_neg (by have := List.mem_range.mp hk; omega)]
        rw [e1]
        simp only [List.map_cons, List.map_nil, if_pos]
        rfl
    · obtain ⟨us, hus, hUU, hs2⟩ := hI
      refine ⟨_, hs2 _ _ hDD, by rw [List.length_map]; exact small1000 (by omega), fun j => if j = i then us else wd j, as ++ [D2], by rw [List.length_append, hal, List.length_singleton], fun j hj => ?_, by rw [upd_same, List.map_append]; rfl, same_at hD (hs.trans hs2) _⟩
      by_cases c : j = i
      · subst c
        refine ⟨D2, by rw [← hal, List.getElem?_append_right (Nat.le_refl _), Nat.sub_self]; rfl, ?_, fun k hk => ?_⟩
        · rw [upd_ne nD.symm, hUU]
          simp only [if_pos]
        · dsimp only
          rw [if_pos rfl]
          exact hus k (by omega)
      · obtain ⟨r, h1, h2, h3⟩ := has j (by omega)
        have nr : r ≠ D := fun e => by
          subst e
          rw [h2] at hDD
          injection hDD with hDD
          injection hDD with hDD
          have := congrArg List.head? hDD
          cases as with
          | nil => rw [List.length_nil] at hal; omega
          | cons x y => simp [List.range_succ_eq_map] at this
        refine ⟨r, by rw [List.getElem?_append_left (by omega)]; exact h1, ?_, fun k hk => ?_⟩
        · rw [upd_ne nr]
          dsimp only
          rw [if_neg c]
          exact hs2 _ _ h2
        · dsimp only
          rw [if_neg c]
          exact h3 k hk
  obtain ⟨wd, as, hal, has, hDD, hs⟩ := hI
  have N := nms_of (wd := fun j => wd (if j < 4 then j else 0)) fun j k hk => by
    by_cases c : j < 4
    · rw [if_pos c]
      obtain ⟨_, _, _, h3⟩ := has j c
      exact h3 k hk
    · rw [if_neg c]
      obtain ⟨_, _, _, h3⟩ := has 0 (by omega)
      exact h3 k hk
  obtain ⟨nm, hnm⟩ : ∃ nm, nm = fun (j k : Nat) => wd (if j < 4 then j else 0) k ++ Str.ofString "x" ++ num (k : Int) := ⟨_, rfl⟩
  rw [← hnm] at N
  have has2 : ∀ j, j < 4 → ∃ r, as[j]? = some r ∧ H1 r = some (.lst (((List.range 11).map (nm j)).map V.str)) := fun j hj => by
    obtain ⟨r, h1, h2, _⟩ := has j hj
    refine ⟨r, h1, ?_⟩
    rw [h2, hnm]
    simp only [if_pos hj]
  clear has hnm
  have hst1 := hs.seq hcs
  have hnm : ∀ {H' : Hp}, Same H1 H' → ∀ (j k : Nat), j < 4 → k ≤ 10 → ∃ r, SqL K H' D (as.map V.ref) ∧ atI (as.map V.ref) (j : Int) = some (.ref r) ∧ SqL K H' r (((List.range 11).map (nm j)).map V.str) ∧ atI (((List.range 11).map (nm j)).map V.str) (k : Int) = some (.str (nm j k)) := fun s' j k hj hk => by
    obtain ⟨r, h1, h2⟩ := has2 j hj
    refine ⟨r, SqL.of (s' _ _ hDD), atI_nat (by rw [List.getElem?_map, h1]; rfl), SqL.of (s' _ _ h2), atI_nat ?_⟩
    rw [List.getElem?_map, List.getElem?_map, List.getElem?_range (by omega)]
    rfl
  have lw : ∀ j k, k ≤ 10 → (nm j k).length ≤ 15 := fun j k hk => by
    obtain ⟨c, r, e, _, _, hl⟩ := N.ok j k hk
    rw [TL.len_tl, show TL.tl (nm j k) = tl (nm j k) from rfl, e, List.length_cons]
    omega
  refine ⟨(by show 1 ≤ sizeLine; decide), fun pl hpl => ?_⟩
  have hP : H pl = none := hs.free hpl
  have pl0 := same_new hpl (.lst [V.str (Str.ofString "horizon 90")])
  have hl0 : (upd H1 pl (.lst [V.str (Str.ofString "horizon 90")])) pl = some (.lst (((horL 90 :: ([] ++ blk nm 0 0)).map row).map V.str)) := by
    rw [upd_same, h90_str]
    rfl
  have c1 : (Str.ofString "satellite ").length = 10 := by decide +kernel
  have c2 : (Str.ofString " store 5 battery 60 level 50 reserve 20 charge 1 settle 2 light").length = 63 := by decide +kernel
  have c3 : (Str.ofString "station ").length = 8 := by decide +kernel
  have c4 : (Str.ofString " antennas 2 turn 4").length = 18 := by decide +kernel
  have c5 : (Str.ofString "recording ").length = 10 := by decide +kernel
  have c6 : (Str.ofString " by ").length = 4 := by decide +kernel
  have c7 : (Str.ofString " from 5 to 9 length 2 size 3 energy 4 worth 5 rank 2 until 20").length = 61 := by decide +kernel
  have c8 : (Str.ofString "pass ").length = 5 := by decide +kernel
  have c9 : (Str.ofString " over ").length = 6 := by decide +kernel
  have c10 : (Str.ofString " from 12 to 20 room 3 energy 4 fee 5").length = 36 := by decide +kernel
  refine ⟨_, rfl, cs, _, _, _, rfl, rfl, pl0.seq hst1, atI_nat (j := 0) rfl, _, rfl, by omega, by omega, ?_⟩
  refine for_range (lo := 0) (n := (a : Int).toNat) (fun i σ H' => ∃ y2 : Option V, σ = [some (.ref st), some (.ref cs), y2, some (.ref D), some (.ref pl), none] ∧ H' pl = some (.lst (((horL 90 :: ([] ++ blk nm 0 i)).map row).map V.str)) ∧ Same H1 H') ⟨none, rfl, hl0, pl0⟩ (fun i σ H2 hi hI => ?_) (fun σ H2 hI => ?_)
  · obtain ⟨y2, rfl, hl, hsn⟩ := hI
    rw [Int.zero_add]
    have hi : i < a := by omega
    obtain ⟨r, r1, r2, r3, r4⟩ := hnm hsn 0 i (by decide) (by omega)
    have w1 := lw 0 i (by omega)
    refine ⟨_, rfl, .inl ⟨rfl, _, SqL.of hl⟩, _, rfl, D, _, _, _, rfl, rfl, r1, r2, _, rfl, r, _, _, _, rfl, rfl, r3, r4, _, _, rfl, rfl, (by first | omega | (simp only [len_app]; omega)), _, _, rfl, rfl, (by first | omega | (simp only [len_app]; omega)), pl, _, _, rfl, rfl, hl, (by simp only [List.length_map, List.length_cons, List.length_append, List.length_nil, blk_len]; omega), ?_⟩
    refine ⟨_, rfl, ?_, same_at hpl hsn _⟩
    rw [upd_same, app_ln sat0_str, blk_snoc]
    congr 4
    try simp only [List.cons_append, List.append_assoc]
    try rfl
  obtain ⟨y2, rfl, hl, hsn⟩ := hI
  have hpre : (horL 90 :: ([] ++ blk nm 0 (a : Int).toNat)) = (horL 90 :: (blk nm 0 a ++ blk nm 1 0)) := by
    rw [Int.toNat_natCast]
    show _ = horL 90 :: (blk nm 0 a ++ [])
    rw [List.append_nil]
    try rfl
  refine ⟨_, rfl, cs, _, _, _, rfl, rfl, (hsn.seq hst1), atI_nat (j := 1) rfl, _, rfl, by omega, by omega, ?_⟩
  refine for_range (lo := 0) (n := (b : Int).toNat) (fun i σ H' => ∃ y2 : Option V, σ = [some (.ref st), some (.ref cs), y2, some (.ref D), some (.ref pl), none] ∧ H' pl = some (.lst (((horL 90 :: (blk nm 0 a ++ blk nm 1 i)).map row).map V.str)) ∧ Same H1 H') ⟨y2, rfl, by rw [hl, hpre], hsn⟩ (fun i σ H2 hi hI => ?_) (fun σ H2 hI => ?_)
  · obtain ⟨y2, rfl, hl, hsn⟩ := hI
    rw [Int.zero_add]
    have hi : i < b := by omega
    obtain ⟨r, r1, r2, r3, r4⟩ := hnm hsn 1 i (by decide) (by omega)
    have w1 := lw 1 i (by omega)
    refine ⟨_, rfl, .inl ⟨rfl, _, SqL.of hl⟩, _, rfl, D, _, _, _, rfl, rfl, r1, r2, _, rfl, r, _, _, _, rfl, rfl, r3, r4, _, _, rfl, rfl, (by first | omega | (simp only [len_app]; omega)), _, _, rfl, rfl, (by first | omega | (simp only [len_app]; omega)), pl, _, _, rfl, rfl, hl, (by simp only [List.length_map, List.length_cons, List.length_append, List.length_nil, blk_len]; omega), ?_⟩
    refine ⟨_, rfl, ?_, same_at hpl hsn _⟩
    rw [upd_same, app_ln sta5_str, blk_snoc]
    congr 4
    try simp only [List.cons_append, List.append_assoc]
    try rfl
  obtain ⟨y2, rfl, hl, hsn⟩ := hI
  have hpre : (horL 90 :: (blk nm 0 a ++ blk nm 1 (b : Int).toNat)) = (horL 90 :: ((blk nm 0 a ++ blk nm 1 b) ++ blk nm 2 0)) := by
    rw [Int.toNat_natCast]
    show _ = horL 90 :: ((blk nm 0 a ++ blk nm 1 b) ++ [])
    rw [List.append_nil]
    try rfl
  refine ⟨_, rfl, cs, _, _, _, rfl, rfl, (hsn.seq hst1), atI_nat (j := 2) rfl, _, rfl, by omega, by omega, ?_⟩
  refine for_range (lo := 0) (n := (c : Int).toNat) (fun i σ H' => ∃ y2 : Option V, σ = [some (.ref st), some (.ref cs), y2, some (.ref D), some (.ref pl), none] ∧ H' pl = some (.lst (((horL 90 :: ((blk nm 0 a ++ blk nm 1 b) ++ blk nm 2 i)).map row).map V.str)) ∧ Same H1 H') ⟨y2, rfl, by rw [hl, hpre], hsn⟩ (fun i σ H2 hi hI => ?_) (fun σ H2 hI => ?_)
  · obtain ⟨y2, rfl, hl, hsn⟩ := hI
    rw [Int.zero_add]
    have hi : i < c := by omega
    obtain ⟨r, r1, r2, r3, r4⟩ := hnm hsn 2 i (by decide) (by omega)
    have w1 := lw 2 i (by omega)
    obtain ⟨q, q1, q2, q3, q4⟩ := hnm hsn 0 (i % 3) (by decide) (by omega)
    have w2 := lw 0 (i % 3) (by omega)
    refine ⟨_, rfl, .inl ⟨rfl, _, SqL.of hl⟩, _, rfl, D, _, _, _, rfl, rfl, r1, r2, _, rfl, r, _, _, _, rfl, rfl, r3, r4, _, _, rfl, rfl, (by first | omega | (simp only [len_app]; omega)), _, _, rfl, rfl, (by first | omega | (simp only [len_app]; omega)), _, rfl, D, _, _, _, rfl, rfl, q1, q2, _, rfl, _, _, rfl, rfl, (by show (0 : Int) < 3; decide), q, _, _, _, rfl, rfl, q3, q4, _, _, rfl, rfl, (by first | omega | (simp only [len_app]; omega)), _, _, rfl, rfl, (by first | omega | (simp only [len_app]; omega)), pl, _, _, rfl, rfl, hl, (by simp only [List.length_map, List.length_cons, List.length_append, List.length_nil, blk_len]; omega), ?_⟩
    refine ⟨_, rfl, ?_, same_at hpl hsn _⟩
    rw [upd_same, app_ln rec5_str, blk_snoc]
    congr 4
    try simp only [List.cons_append, List.append_assoc]
    try rfl
  obtain ⟨y2, rfl, hl, hsn⟩ := hI
  have hpre : (horL 90 :: ((blk nm 0 a ++ blk nm 1 b) ++ blk nm 2 (c : Int).toNat)) = (horL 90 :: ((blk nm 0 a ++ blk nm 1 b ++ blk nm 2 c) ++ blk nm 3 0)) := by
    rw [Int.toNat_natCast]
    show _ = horL 90 :: ((blk nm 0 a ++ blk nm 1 b ++ blk nm 2 c) ++ [])
    rw [List.append_nil]
    try rfl
  refine ⟨_, rfl, cs, _, _, _, rfl, rfl, (hsn.seq hst1), atI_nat (j := 3) rfl, _, rfl, by omega, by omega, ?_⟩
  refine for_range (lo := 0) (n := (d : Int).toNat) (fun i σ H' => ∃ y2 : Option V, σ = [some (.ref st), some (.ref cs), y2, some (.ref D), some (.ref pl), none] ∧ H' pl = some (.lst (((horL 90 :: ((blk nm 0 a ++ blk nm 1 b ++ blk nm 2 c) ++ blk nm 3 i)).map row).map V.str)) ∧ Same H1 H') ⟨y2, rfl, by rw [hl, hpre], hsn⟩ (fun i σ H2 hi hI => ?_) (fun σ H2 hI => ?_)
  · obtain ⟨y2, rfl, hl, hsn⟩ := hI
    rw [Int.zero_add]
    have hi : i < d := by omega
    obtain ⟨r, r1, r2, r3, r4⟩ := hnm hsn 3 i (by decide) (by omega)
    have w1 := lw 3 i (by omega)
    obtain ⟨q, q1, q2, q3, q4⟩ := hnm hsn 0 (i % 3) (by decide) (by omega)
    have w2 := lw 0 (i % 3) (by omega)
    obtain ⟨t, t1, t2, t3, t4⟩ := hnm hsn 1 (i % 3) (by decide) (by omega)
    have w3 := lw 1 (i % 3) (by omega)
    refine ⟨_, rfl, .inl ⟨rfl, _, SqL.of hl⟩, _, rfl, D, _, _, _, rfl, rfl, r1, r2, _, rfl, r, _, _, _, rfl, rfl, r3, r4, _, _, rfl, rfl, (by first | omega | (simp only [len_app]; omega)), _, _, rfl, rfl, (by first | omega | (simp only [len_app]; omega)), _, rfl, D, _, _, _, rfl, rfl, q1, q2, _, rfl, _, _, rfl, rfl, (by show (0 : Int) < 3; decide), q, _, _, _, rfl, rfl, q3, q4, _, _, rfl, rfl, (by first | omega | (simp only [len_app]; omega)), _, _, rfl, rfl, (by first | omega | (simp only [len_app]; omega)), _, rfl, D, _, _, _, rfl, rfl, t1, t2, _, rfl, _, _, rfl, rfl, (by show (0 : Int) < 3; decide), t, _, _, _, rfl, rfl, t3, t4, _, _, rfl, rfl, (by first | omega | (simp only [len_app]; omega)), _, _, rfl, rfl, (by first | omega | (simp only [len_app]; omega)), pl, _, _, rfl, rfl, hl, (by simp only [List.length_map, List.length_cons, List.length_append, List.length_nil, blk_len]; omega), ?_⟩
    refine ⟨_, rfl, ?_, same_at hpl hsn _⟩
    rw [upd_same, app_ln pas5_str, blk_snoc]
    congr 4
    try simp only [List.cons_append, List.append_assoc]
    try rfl
  obtain ⟨y2, rfl, hl, hsn⟩ := hI
  refine ⟨_, rfl, q nm pl H2 N (hs.trans hsn) hP ?_⟩
  rw [hl, Int.toNat_natCast]
  unfold txt5
  simp only [List.append_assoc]
end
end DP
namespace DP
open PySem PySem.Spec PyProof.Rows L2
theorem rd_sh0 : (PyData.str ("read" : Str)).canLay0 = true := by simp [PyData.canLay0, show PyData.strOk ("read" : Str) = true by decide +kernel]
theorem rd_sh : SeqAt.shaped (.str ("read" : Str)) = true := Bool.and_eq_true_iff.mpr ⟨rd_sh0, decide_eq_true (by simp [PyData.depth])⟩
theorem sqT_put {K : PySem.W.Frag} {H : Hp} {a p : Addr} {xs ys : List V} {o : HO} (h : SqT K H a xs) (hp : H p = some (.lst ys)) : SqT K (upd H p o) a xs := by
  rcases h with h | h
  · refine .inl ?_
    rcases h with h | ⟨o, h⟩
    · have e : a ≠ p := fun e => by
        subst e
        rw [h] at hp
        injection hp with e
        cases e
      exact .inl (by rw [upd_ne e]; exact h)
    · have e : a ≠ p := fun e => by
        subst e
        rw [h] at hp
        injection hp with e
        cases e
      exact .inr ⟨o, by rw [upd_ne e]; exact h⟩
  · exact .inr h
theorem shp5 {i j : Int} {s : Str} (hs : PyData.strOk s = true) : SeqAt.shaped (.tuple [.int i, .int j, .str s]) = true := Bool.and_eq_true_iff.mpr ⟨by simp [PyData.canLay0, PyData.canLayAll0, hs], decide_eq_true (by simp [PyData.depth, PyData.depthAll])⟩
theorem eqv5 {i j : Int} {s : Str} (hs : PyData.strOk s = true) : PyData.eqv (.tuple [.int i, .int j, .str s]) (.tuple [.int i, .int j, .str s]) = true := PySem.SeqAt.eqv_refl _ (by simp [PyData.canLay0, PyData.canLayAll0, hs])
theorem dp3 {K : PySem.W.Frag} {H : Hp} {t : Addr} {i j : Int} {s : Str} (h : SqT K H t [.int i, .int j, .str s]) : Dp K H (.ref t) (.tuple [.int i, .int j, .str s]) := .tup h (.cons (.int _) (.cons (.int _) (.cons (.str _) .nil)))
theorem ln5_wd {nm : Nat → Nat → Str} (N : Nms nm) : ∀ {i c : Nat}, i < 4 → c ≤ 10 → LnW (ln5 nm i c)
  | 0, c, _, hc => ⟨List.cons_ne_nil _ _, by
    have H0 := N.ok 0 c hc
    show ∀ w ∈ (_ :: _ : List Str), WdX w
    repeat (refine List.forall_mem_cons.mpr ⟨by first | exact H0.wd.x | exact (num_wd (by omega) (by omega)).x | exact lit_wd (by decide +kernel), ?_⟩)
    exact fun _ z => absurd z List.not_mem_nil, by show 15 ≤ 400; decide⟩
  | 1, c, _, hc => ⟨List.cons_ne_nil _ _, by
    have H0 := N.ok 1 c hc
    show ∀ w ∈ (_ :: _ : List Str), WdX w
    repeat (refine List.forall_mem_cons.mpr ⟨by first | exact H0.wd.x | exact (num_wd (by omega) (by omega)).x | exact lit_wd (by decide +kernel), ?_⟩)
    exact fun _ z => absurd z List.not_mem_nil, by show 6 ≤ 400; decide⟩
  | 2, c, _, hc => ⟨List.cons_ne_nil _ _, by
    have H0 := N.ok 2 c hc
    have H1 := N.ok 0 (c % 3) (by omega)
    show ∀ w ∈ (_ :: _ : List Str), WdX w
    repeat (refine List.forall_mem_cons.mpr ⟨by first | exact H0.wd.x | exact H1.wd.x | exact (num_wd (by omega) (by omega)).x | exact lit_wd (by decide +kernel), ?_⟩)
    exact fun _ z => absurd z List.not_mem_nil, by show 20 ≤ 400; decide⟩
  | 3, c, _, hc => ⟨List.cons_ne_nil _ _, by
    have H0 := N.ok 3 c hc
    have H1 := N.ok 0 (c % 3) (by omega)
    have H2 := N.ok 1 (c % 3) (by omega)
    show ∀ w ∈ (_ :: _ : List Str), WdX w
    repeat (refine List.forall_mem_cons.mpr ⟨by first | exact H0.wd.x | exact H1.wd.x | exact H2.wd.x | exact (num_wd (by omega) (by omega)).x | exact lit_wd (by decide +kernel), ?_⟩)
    exact fun _ z => absurd z List.not_mem_nil, by show 16 ≤ 400; decide⟩
  | i + 4, _, h, _ => absurd h (by omega)
theorem blk_wd {nm : Nat → Nat → Str} (N : Nms nm) {i c : Nat} (hi : i < 4) (hc : c ≤ 11) : ∀ l ∈ blk nm i c, LnW l := fun l hl => by
  obtain ⟨k, hk, rfl⟩ := List.mem_map.mp hl
  have := List.mem_range.mp hk
  exact ln5_wd N hi (by omega)
theorem txt5_wd {nm : Nat → Nat → Str} (N : Nms nm) {a b c d : Nat} (ha : a ≤ 11) (hb : b ≤ 11) (hc : c ≤ 11) (hd : d ≤ 11) : ∀ l ∈ txt5 nm a b c d, LnW l := by
  unfold txt5
  refine List.forall_mem_cons.mpr ⟨hor_w (by decide), fun l hl => ?_⟩
  rcases List.mem_append.mp hl with h | hl
  · exact blk_wd N (by decide) ha l h
  rcases List.mem_append.mp hl with h | hl
  · exact blk_wd N (by decide) hb l h
  rcases List.mem_append.mp hl with h | hl
  · exact blk_wd N (by decide) hc l h
  · exact blk_wd N (by decide) hd l hl
theorem txt5_len {nm : Nat → Nat → Str} {a b c d : Nat} : (txt5 nm a b c d).length = 1 + (a + (b + (c + d))) := by
  unfold txt5
  simp only [List.length_cons, List.length_append, blk_len]
  omega
theorem lnw_setS {l : List Str} {p : Nat} {u : Str} (h : LnW l) (hu : WdX u) : LnW (l.set p u) := ⟨fun z => h.ne (by have := congrArg List.length z; rw [List.length_set] at this; exact List.eq_nil_of_length_eq_zero this), fun w hw => by
  rcases List.mem_or_eq_of_mem_set hw with k | k
  · exact h.wd w k
  · rw [k]
    exact hu, by rw [List.length_set]; exact h.sz⟩
def limL : Nat → List Int
  | 0 => []
  | 1 => [3]
  | 2 => [3, 3]
  | _ => [3, 3, 10]
abbrev limV : List V := [V.int 3, V.int 3, V.int 10, V.int 10]
theorem cut_lim : ∀ {s : Nat}, s < 4 → cutV limV none (some (s : Int)) = (limL s).map V.int ∧ (limL s).sum = (bas s : Int) ∧ limV[s]? = some (V.int (lim s : Int))
  | 0, _ => ⟨rfl, rfl, rfl⟩
  | 1, _ => ⟨rfl, rfl, rfl⟩
  | 2, _ => ⟨rfl, rfl, rfl⟩
  | 3, _ => ⟨rfl, rfl, rfl⟩
  | s + 4, h => absurd h (by omega)
def cnt (s j : Nat) : Nat := if s = j then lim j + 1 else lim j
theorem set_lim : ∀ {s : Nat}, s < 4 → limV.set s (V.int ((lim s : Int) + 1)) = [V.int (cnt s 0 : Int), V.int (cnt s 1 : Int), V.int (cnt s 2 : Int), V.int (cnt s 3 : Int)]
  | 0, _ => rfl
  | 1, _ => rfl
  | 2, _ => rfl
  | 3, _ => rfl
  | s + 4, h => absurd h (by omega)
def cntL (s : Nat) : List Int := (([cnt s 0, cnt s 1, cnt s 2, cnt s 3] : List Nat).take (s + 1)).map fun (n : Nat) => (n : Int)
theorem cut_cnt : ∀ {s : Nat}, s < 4 → cutV [V.int (cnt s 0 : Int), V.int (cnt s 1 : Int), V.int (cnt s 2 : Int), V.int (cnt s 3 : Int)] none (some ((s : Int) + 1)) = (cntL s).map V.int ∧ 1 + (cntL s).sum = 2 + (bas s : Int) + lim s
  | 0, _ => ⟨rfl, rfl⟩
  | 1, _ => ⟨rfl, rfl⟩
  | 2, _ => ⟨rfl, rfl⟩
  | 3, _ => ⟨rfl, rfl⟩
  | s + 4, h => absurd h (by omega)
theorem over5c {nm : Nat → Nat → Str} (N : Nms nm) {s : Nat} (hs : s < 4) : rdText (txt5 nm (cnt s 0) (cnt s 1) (cnt s 2) (cnt s 3)) Str.empty = .error (2 + (bas s : Int) + lim s, 1, "too many lines") := over5 N hs
theorem cnt_le {s : Nat} : ∀ {j : Nat}, cnt s j ≤ 11 := fun {j} => by
  unfold cnt lim
  split <;> split <;> omega
theorem colW_0 (ws : List Str) : colW ws 0 = 1 := by
  unfold colW
  rw [List.take_zero]
  rfl
theorem nau_ok : PyData.strOk nau = true := by decide +kernel
theorem unk_ok : PyData.strOk unk = true := by decide +kernel
theorem ooo_ok : PyData.strOk ("line out of order" : Str) = true := by decide +kernel
theorem unx_ok : PyData.strOk ("unexpected word" : Str) = true := by decide +kernel
theorem and_t {σ : L2.St} {H : Hp} {Q : Bool → Hp → Prop} {kd s m n : Int} (h5 : σ[5]? = some (some (.int kd))) (h6 : σ[6]? = some (some (.int s))) (h : Q (decide (kd = m ∧ n ≤ s)) H) :
    tAnd (tTest (tOp rEq (tVar 5) (tC (V.int m)))) (tTest (tOp (rI0 fun i j => V.bl (decide (j ≤ i))) (tVar 6) (tC (V.int n)))) σ H Q := by
  by_cases c : kd = m
  · refine ⟨_, h5, rfl, _, rfl, iteT' (by rw [c]; exact decide_eq_true rfl) ⟨_, h6, _, _, rfl, rfl, _, rfl, ?_⟩⟩
    have e : decide (kd = m ∧ n ≤ s) = decide (n ≤ s) := by simp [c]
    rw [e] at h
    exact h
  · refine ⟨_, h5, rfl, _, rfl, iteF' (decide_eq_false fun z => c (by injection z)) ?_⟩
    have e : decide (kd = m ∧ n ≤ s) = false := by simp [c]
    rw [e] at h
    exact h
theorem bas_pos : ∀ {s : Nat}, 1 ≤ s → s < 4 → 0 < bas s
  | 0, h, _ => absurd h (by decide)
  | 1, _, _ => by decide
  | 2, _, _ => by decide
  | 3, _, _ => by decide
  | s + 4, _, h => absurd h (by omega)
theorem row_lt : ∀ {s q : Nat}, s < 4 → q < bas s → ∃ j k, j < s ∧ k < lim j ∧ q = bas j + k
  | 0, _, _, h => absurd h (Nat.not_lt_zero _)
  | 1, q, _, h => ⟨0, q, by decide, h, by show q = 0 + q; omega⟩
  | 2, q, _, h => by
    have h : q < 6 := h
    by_cases c : q < 3
    · exact ⟨0, q, by decide, c, by show q = 0 + q; omega⟩
    · exact ⟨1, q - 3, by decide, by show q - 3 < 3; omega, by show q = 3 + (q - 3); omega⟩
  | 3, q, _, h => by
    have h : q < 16 := h
    by_cases c : q < 3
    · exact ⟨0, q, by decide, c, by show q = 0 + q; omega⟩
    by_cases c2 : q < 6
    · exact ⟨1, q - 3, by decide, by show q - 3 < 3; omega, by show q = 3 + (q - 3); omega⟩
    · exact ⟨2, q - 6, by decide, by show q - 6 < 10; omega, by show q = 6 + (q - 6); omega⟩
  | s + 4, _, h, _ => absurd h (by omega)
/-- the law's last two rows -/
def finT (K : PySem.W.Frag) : TS := tSeq (tAsg (tJoin K (tC (.str (Str.ofString " "))) (tVar 12)) (gSub (tVar 4) (tVar 11) rSetL)) (tRet (tOp (rEqD K) (tCall (spFault K) [] E0 (tCons (tVar 4) tNil)) (tVar 13)))
theorem fin5 {K : PySem.W.Frag} {σ : L2.St} {H : Hp} {D : Ends} {pf wp t : Addr} {L : List (List Str)} {r : Nat} {ws : List Str} {e : Flt}
    (h4 : σ[4]? = some (some (.ref pf))) (h11 : σ[11]? = some (some (.int (r : Int)))) (h12 : σ[12]? = some (some (.ref wp))) (h13 : σ[13]? = some (some (.ref t)))
    (hf : H pf = some (.lst ((L.map row).map V.str))) (hw : SqL K H wp (ws.map V.str)) (ht : SqT K H t [.int e.1, .int e.2.1, .str e.2.2]) (hL : ∀ l ∈ L, LnW l) (hn : L.length ≤ 40) (hr : r < L.length) (hws : LnW ws)
    (he : rdText (L.set r ws) Str.empty = .error e) (hs : PyData.strOk e.2.2 = true) (q : ∀ H', D.rt (.bl true) H') : finT K D σ H := by
  have e1 : (Str.ofString " " : Str).length = 1 := by decide +kernel
  have ej : Txt.join (Str.ofString " ") ws = row ws := TL.join_eq sp _
  have k1 := sum_wd hws.wd
  have k2 := hws.sz
  refine ⟨⟨_, rfl⟩, _, h12, _, wp, ws, rfl, rfl, .inl hw, (by rw [e1]; omega), _, h4, _, h11, pf, _, _, r, rfl, rfl, hf, ixN_natW (by rw [List.length_map, List.length_map]; exact hr), ?_⟩
  have e2 : ((L.map row).map V.str).set r (V.str (Txt.join (Str.ofString " ") ws)) = ((L.set r ws).map row).map V.str := by rw [ej, ← List.map_set, ← List.map_set]
  have g4 : (upd H pf (.lst (((L.map row).map V.str).set r (V.str (Txt.join (Str.ofString " ") ws))))) pf = some (.lst (((L.set r ws).map row).map V.str)) := by rw [upd_same, e2]
  have gt := sqT_put (o := .lst (((L.map row).map V.str).set r (V.str (Txt.join (Str.ofString " ") ws)))) ht hf
  refine ⟨_, h4, pf, L.set r ws, rfl, SqL.of g4, lns_set hL hws, (by rw [List.length_set]; exact hn), fun f hf' t2 H2 s2 ht2 => ?_, fun h hh => ?_⟩
  · rw [he] at hf'
    have ef := Except.error.inj hf'
    subst ef
    refine ⟨_, h13, .tuple [.int e.1, .int e.2.1, .str e.2.2], .tuple [.int e.1, .int e.2.1, .str e.2.2], dp3 ht2, dp3 (Same.tup s2 gt), shp5 hs, shp5 hs, ?_⟩
    rw [eqv5 hs]
    exact q _
  · rw [he] at hh
    cases hh
end DP
namespace DP
open PySem PySem.Spec PyProof.Rows L2
abbrev s_law : Stmt := topS 50
theorem sc_law : FnScope ["script", "stream", "limits", "told", "full", "kind", "sort", "counts", "lines", "place", "first", "row", "words", "due"] ["script"] (defScope s_law) := ⟨rfl, rfl, rfl, by decide +kernel, rfl, by decide +kernel, by decide +kernel⟩
section
variable {P : Program} {w : World} {K : PySem.W.Frag} {mg : Str → Option Value} {base : Heap} {CL CS CT CR CP CW aS aR fS fT fR fP CF : Addr}
def spLaw (K : PySem.W.Frag) : Sp := fun vs H Q _ => ∃ (a : Addr) (ns : List Int), vs = [.ref a] ∧ SqL K H a (ns.map V.int) ∧ ∀ H', Q (.bl true) H'
set_option maxHeartbeats 16000000 in
theorem d_law (T : TxtW K mg CL CS CT CR CP CW aS aR fS fT fR fP) (D_law_cell : DefOk P w K mg base CX0 1 "_law_cell" ["script", "k"] (DP.spCell K)) (D_law_stream : DefOk P w K mg base CX0 2 "_law_stream" ["script", "first", "count"] (spStream K))
    (D_law_same : DefOk P w K mg base CX0 9 "_law_same" ["actual", "expected"] (spSame K 8)) (D_law_full : DefOk P w K mg base CX0 3 "_law_full" ["stream", "counts"] (spFull K)) (D_law_fault : DefOk P w K mg base CX0 10 "_law_fault" ["lines"] (spFault K)) (A : At K mg "law" s_law ["script"]) : DefOk P w K mg base CX0 11 "law" ["script"] (spLaw K) := by
  have B := T.L.B
  refine A.ok sc_law (fun vs H Q E h => ?_) (fun f cdv A outer s H vs Q E hr h => ?_)
  · obtain ⟨a, ns, rfl, _⟩ := h
    rfl
  obtain ⟨a, ns, rfl, hS, q⟩ := h
  refine ⟨_, pss_cons (ps_set (i := 1) sc_law.nd rfl (Or.inl rfl) (pe_f D_law_stream (hr.mono (by omega)) pass0 (pa_cons (pv 0) (pa_cons pe_int (pa_cons pe_int pa_nil)))))
  (pss_cons (ps_set (i := 2) sc_law.nd rfl (Or.inl rfl) (pe_lst (pa_cons pe_int (pa_cons pe_int (pa_cons pe_int (pa_cons pe_int pa_nil))))))
  (pss_cons (ps_set (i := 3) sc_law.nd rfl (Or.inl rfl) (pe_lst (pa_cons (ClX.pe_cval (pe_ga T.c_World.gC) rfl) (pa_cons (ClX.pe_cval (pe_ga T.c_World.gC) rfl) (pa_cons (ClX.pe_cval (pe_ga T.c_World.gC) rfl) (pa_cons (ClX.pe_cval (pe_ga T.c_World.gC) rfl) pa_nil))))))
  (pss_cons (ps_if (PW.pt (pw_or (pt_not (pt_val (pe_f D_law_same (hr.mono (by omega)) pass0 (pa_cons (pv 3) (pa_cons (pv 2) pa_nil))))) (pw_or1 (pt_not (pt_val (pe_f D_law_same (hr.mono (by omega)) pass0 (pa_cons (pe_lst (pa_cons (ClX.pe_cval (pe_ga T.c_World.gC) rfl) (pa_cons (ClX.pe_cval (pe_ga T.c_World.gC) rfl) pa_nil))) (pa_cons (pe_lst (pa_cons pe_int (pa_cons pe_int pa_nil))) pa_nil))))))))
      (pss_one (ps_ret pe_bl))
      (pss_nil))
  (pss_cons (ps_set (i := 4) sc_law.nd rfl (Or.inl rfl) (pe_f D_law_full (hr.mono (by omega)) pass0 (pa_cons (pv 1) (pa_cons (pv 2) pa_nil))))
  (pss_cons (ps_if (pt_cmpR (op_neD hr.units) (pe_f D_law_fault (hr.mono (by omega)) pass0 (pa_cons (pv 4) pa_nil)) pe_str (nomark _))
      (pss_one (ps_ret pe_bl))
      (pss_nil))
  (pss_cons (ps_set (i := 5) sc_law.nd rfl (Or.inl rfl) (pe_op op_mod (pe_f D_law_cell (hr.mono (by omega)) pass0 (pa_cons (pv 0) (pa_cons pe_int pa_nil))) pe_int))
  (pss_cons (ps_set (i := 6) sc_law.nd rfl (Or.inl rfl) (pe_op op_mod (pe_f D_law_cell (hr.mono (by omega)) pass0 (pa_cons (pv 0) (pa_cons pe_int pa_nil))) pe_int))
  (pss_cons (ps_if (pt_cmpR op_eq (pv 5) pe_int (nomark _))
      (pss_cons (ps_set (i := 7) sc_law.nd rfl (Or.inl rfl) (pe_callTy (call_list_of) (by rfl) B.list (by decide +kernel) (pa_cons (pv 2) pa_nil)))
      (pss_cons (ps_asg (pe_op op_add (pe_ix ix_list (pv 7) (pv 6) (fun _ _ => rfl)) pe_int) (pg_sub (pv 7) (pv 6) set_list))
      (pss_cons (ps_set (i := 8) sc_law.nd rfl (Or.inl rfl) (pe_f D_law_full (hr.mono (by omega)) pass0 (pa_cons (pe_f D_law_stream (hr.mono (by omega)) pass0 (pa_cons (pv 0) (pa_cons pe_int (pa_cons pe_int pa_nil)))) (pa_cons (pv 7) pa_nil))))
      (pss_cons (ps_set (i := 9) sc_law.nd rfl (Or.inl rfl) (pe_op op_add pe_int (pe_callB (cr_sum rfl) (by rfl) B.sum (by decide +kernel) (pa_cons (pe_slice sl_list (pv 7) po_none (po_some (pe_op op_add (pv 6) pe_int))) pa_nil))))
      (pss_one (ps_ret (pe_cmpR (op_eqD hr.units) (pe_f D_law_fault (hr.mono (by omega)) pass0 (pa_cons (pv 8) pa_nil)) (pe_tup (pa_cons (pv 9) (pa_cons pe_int (pa_cons pe_str pa_nil)))) (nomark _))))))))
      (pss_nil))
  (pss_cons (ps_set (i := 10) sc_law.nd rfl (Or.inl rfl) (pe_op op_add pe_int (pe_callB (cr_sum rfl) (by rfl) B.sum (by decide +kernel) (pa_cons (pe_slice sl_list (pv 2) po_none (po_some (pv 6))) pa_nil))))
  (pss_cons (ps_set (i := 11) sc_law.nd rfl (Or.inl rfl) (pe_op op_add (pe_op op_add (pv 10) pe_int) (pe_op op_mod (pe_f D_law_cell (hr.mono (by omega)) pass0 (pa_cons (pv 0) (pa_cons pe_int pa_nil))) (pe_op op_sub (pe_ix ix_list (pv 2) (pv 6) (fun _ _ => rfl)) pe_int))))
  (pss_cons (ps_set (i := 12) sc_law.nd rfl (Or.inl rfl) (pe_split (pe_ix ix_list (pv 4) (pv 11) (fun _ _ => rfl)) pe_str))
  (pss_cons (ps_if (pt_cmpR op_eq (pv 5) pe_int (nomark _))
      (pss_cons (ps_asg (pe_ix ix_list (pe_split (pe_ix ix_list (pv 4) (pe_op op_add (pv 10) (pe_op op_mod (pe_f D_law_cell (hr.mono (by omega)) pass0 (pa_cons (pv 0) (pa_cons pe_int pa_nil))) (pe_op op_sub (pv 11) (pv 10)))) (fun _ _ => rfl)) pe_str) pe_int (fun _ _ => rfl)) (pg_sub (pv 12) pe_int set_list))
      (pss_one (ps_set (i := 13) sc_law.nd rfl (Or.inl rfl) (pe_tup (pa_cons (pe_op op_add (pv 11) pe_int) (pa_cons (pe_op op_add (pe_callB (call_len_str) (by rfl) B.len (by decide +kernel) (pa_cons (pe_ix ix_list (pv 12) pe_int (fun _ _ => rfl)) pa_nil)) pe_int) (pa_cons pe_str pa_nil)))))))
      (pss_one (ps_if (PW.pt (pw_and (pt_cmpR op_eq (pv 5) pe_int (nomark _)) (pw_and1 (pt_cmpR op_ge (pv 6) pe_int (nomark _)))))
          (pss_cons (ps_set (i := 9) sc_law.nd rfl (Or.inl rfl) (pe_op op_add pe_int (pe_op op_mul (pe_op op_mul pe_int (pe_op op_mod (pe_f D_law_cell (hr.mono (by omega)) pass0 (pa_cons (pv 0) (pa_cons pe_int pa_nil))) pe_int)) (pe_op op_sub (pv 6) pe_int))))
          (pss_cons (ps_asg (pe_op op_add_str (pe_ix ix_list (pv 12) pe_int (fun _ _ => rfl)) pe_str) (pg_sub (pv 12) (pv 9) set_list))
          (pss_one (ps_set (i := 13) sc_law.nd rfl (Or.inl rfl) (pe_tup (pa_cons (pe_op op_add (pv 11) pe_int) (pa_cons (pe_op op_add (pe_callB (call_len_str) (by rfl) B.len (by decide +kernel) (pa_cons (pe_join pe_str (pe_slice sl_list (pv 12) po_none (po_some (pv 9)))) pa_nil)) pe_int) (pa_cons pe_str pa_nil))))))))
          (pss_one (ps_if (PW.pt (pw_and (pt_cmpR op_eq (pv 5) pe_int (nomark _)) (pw_and1 (pt_cmpR op_ge (pv 6) pe_int (nomark _)))))
              (pss_cons (ps_set (i := 12) sc_law.nd rfl (Or.inl rfl) (pe_split (pe_ix ix_list (pv 4) (pe_op op_add (pe_op op_mod (pe_f D_law_cell (hr.mono (by omega)) pass0 (pa_cons (pv 0) (pa_cons pe_int pa_nil))) (pe_op op_sub (pv 10) pe_int)) pe_int) (fun _ _ => rfl)) pe_str))
              (pss_cons (ps_asg pe_str (pg_sub (pv 12) pe_int set_list))
              (pss_one (ps_set (i := 13) sc_law.nd rfl (Or.inl rfl) (pe_tup (pa_cons (pe_op op_add (pv 11) pe_int) (pa_cons pe_int (pa_cons pe_str pa_nil))))))))
              (pss_cons (ps_set (i := 12) sc_law.nd rfl (Or.inl rfl) (pe_lst (pa_cons pe_str (pa_cons pe_str pa_nil))))
              (pss_one (ps_set (i := 13) sc_law.nd rfl (Or.inl rfl) (pe_tup (pa_cons (pe_op op_add (pv 11) pe_int) (pa_cons pe_int (pa_cons pe_str pa_nil))))))))))))
  (pss_cons (ps_asg (pe_join pe_str (pv 12)) (pg_sub (pv 4) (pv 11) set_list))
  (pss_one (ps_ret (pe_cmpR (op_eqD hr.units) (pe_f D_law_fault (hr.mono (by omega)) pass0 (pa_cons (pv 4) pa_nil)) (pv 13) (nomark _)))))))))))))))))
    , ?_⟩
  obtain ⟨k1, h1⟩ := T.v_MOST_SATELLITES
  obtain ⟨k2, h2⟩ := T.v_MOST_STATIONS
  obtain ⟨k3, h3⟩ := T.v_MOST_RECORDINGS
  obtain ⟨k4, h4⟩ := T.v_MOST_PASSES
  obtain ⟨k5, h5⟩ := T.v_MOST_HORIZON
  obtain ⟨k6, h6⟩ := T.v_MOST_SHIFT
  refine ⟨_, rfl, a, ns, 0, 16, rfl, hS, by decide, by decide, by decide, fun st H1 s1 n1 st1 => ?_⟩
  have hS1 := s1.seq hS
  refine ⟨(by show 4 ≤ sizeLine; decide), fun lm hlm => ?_⟩
  have s2 := same_new hlm (.lst [V.int 3, V.int 3, V.int 10, V.int 10])
  refine ⟨CW, _, _, _, rfl, T.rdW, h1, CW, _, _, _, rfl, T.rdW, h2, CW, _, _, _, rfl, T.rdW, h3, CW, _, _, _, rfl, T.rdW, h4, (by show 4 ≤ sizeLine; decide), fun td htd => ?_⟩
  have s3 := same_new htd (.lst [V.int 3, V.int 3, V.int 10, V.int 10])
  have hlm3 := s3 _ _ (show (upd H1 lm (.lst [V.int 3, V.int 3, V.int 10, V.int 10])) lm = _ from upd_same)
  refine ⟨_, rfl, _, rfl, .ref td, .ref lm, .list [.int 3, .int 3, .int 10, .int 10], rfl, ⟨by decide, by intro d hd; simp at hd; rcases hd with rfl | rfl <;> exact True.intro⟩, .lst (SqL.of upd_same) (.cons (.int _) (.cons (.int _) (.cons (.int _) (.cons (.int _) .nil)))), .lst (SqL.of hlm3) (.cons (.int _) (.cons (.int _) (.cons (.int _) (.cons (.int _) .nil)))), _, rfl, iteF' rfl ?_⟩
  refine ⟨CW, _, _, _, rfl, T.rdW, h5, CW, _, _, _, rfl, T.rdW, h6, (by show 2 ≤ sizeLine; decide), fun u1 hu1 => ⟨(by show 2 ≤ sizeLine; decide), fun u2 hu2 => ?_⟩⟩
  have s4 := same_new hu1 (.lst [V.int 500, V.int 20])
  have s5 := same_new hu2 (.lst [V.int 500, V.int 20])
  refine ⟨.ref u1, .ref u2, .list [.int 500, .int 20], rfl, ⟨by decide, by intro d hd; simp at hd; rcases hd with rfl | rfl <;> exact True.intro⟩, .lst (SqL.of (s5 _ _ upd_same)) (.cons (.int _) (.cons (.int _) .nil)), .lst (SqL.of upd_same) (.cons (.int _) (.cons (.int _) .nil)), _, rfl, iteF' rfl ?_⟩
  have s15 := (s2.trans s3).trans (s4.trans s5)
  have hlm5 := (s4.trans s5) _ _ hlm3
  have st5 := st1.same s15
  have hS5 := s15.seq hS1
  have lim3 : (3 : Nat) ≤ 11 := by decide
  refine ⟨_, rfl, _, rfl, st, lm, 3, 3, 10, 10, rfl, st5, SqL.of hlm5, by decide, by decide, by decide, by decide, fun nm pf H6 N s6 hpf hf => ?_⟩
  have hLw := txt5_wd N (a := 3) (b := 3) (c := 10) (d := 10) (by decide) (by decide) (by decide) (by decide)
  have hLn : (txt5 nm 3 3 10 10).length = 27 := txt5_len
  refine ⟨_, rfl, pf, txt5 nm 3 3 10 10, rfl, SqL.of hf, hLw, (by omega), fun f hf' => ?_, fun h' hh H7 s7 => ?_⟩
  · rw [show rdText (txt5 nm 3 3 10 10) Str.empty = .ok 90 from full_ok N] at hf'
    cases hf'
  refine ⟨.str "read", .str "read", .str _, .str _, rd_sh, rd_sh, _, rfl, iteF' (by rw [PySem.SeqAt.eqv_refl _ rd_sh0]; rfl) ?_⟩
  have s57 := s6.trans s7
  have hS7 := s57.seq hS5
  have hlm7 := s57 _ _ hlm5
  have hf7 := s7 _ _ hf
  clear hf hlm5 hlm3 hh
  refine ⟨_, rfl, a, ns, 16, rfl, hS7, by decide, fun v16 => ⟨_, _, rfl, rfl, (by show (0 : Int) < 5; decide), ?_⟩⟩
  refine ⟨_, rfl, a, ns, 17, rfl, hS7, by decide, fun v17 => ⟨_, _, rfl, rfl, (by show (0 : Int) < 4; decide), ?_⟩⟩
  obtain ⟨sr, hsr, es⟩ : ∃ z : Nat, z < 4 ∧ v17 % 4 = (z : Int) := ⟨(v17 % 4).toNat, by omega, by omega⟩
  dsimp only
  rw [es]
  obtain ⟨cl1, cl2, cl3⟩ := cut_lim hsr
  generalize v16 % 5 = kd
  refine ⟨_, rfl, rfl, _, rfl, ite2 (fun k0 => ?_) (fun k0 => ?_)⟩
  · refine ⟨_, rfl, lm, _, rfl, .inl (SqL.of hlm7), fun cl hcl => ?_⟩
    have s8 := same_new hcl (.lst limV)
    refine ⟨_, rfl, _, rfl, cl, _, _, _, rfl, rfl, SqL.of upd_same, atI_nat cl3, _, _, rfl, rfl, _, rfl, _, rfl, cl, _, _, sr, rfl, rfl, upd_same, ixN_natW hsr, ?_⟩
    rw [upd_upd]
    have s8' := same_new hcl (.lst (limV.set sr (V.int ((lim sr : Int) + 1))))
    refine ⟨_, rfl, a, ns, 0, 16, rfl, s8'.seq hS7, by decide, by decide, by decide, fun st2 H9 s9 n9 st9 => ?_⟩
    have hcl9 : H9 cl = some (.lst [V.int (cnt sr 0 : Int), V.int (cnt sr 1 : Int), V.int (cnt sr 2 : Int), V.int (cnt sr 3 : Int)]) := by
      rw [← set_lim hsr]
      exact s9 _ _ upd_same
    refine ⟨_, rfl, st2, cl, cnt sr 0, cnt sr 1, cnt sr 2, cnt sr 3, rfl, st9, SqL.of hcl9, cnt_le, cnt_le, cnt_le, cnt_le, fun nm2 pf2 H10 N2 s10 _ hf2 => ?_⟩
    obtain ⟨cc1, cc2⟩ := cut_cnt hsr
    refine ⟨_, rfl, _, rfl, _, _, rfl, rfl, _, rfl, cl, _, rfl, SqL.of (s10 _ _ hcl9), fun p hp => ?_⟩
    have hf3 := (same_new hp (.lst (cutV [V.int (cnt sr 0 : Int), V.int (cnt sr 1 : Int), V.int (cnt sr 2 : Int), V.int (cnt sr 3 : Int)] none (some ((sr : Int) + 1))))) _ _ hf2
    refine ⟨p, cntL sr, rfl, SqL.of (by rw [← cc1]; exact upd_same), _, _, rfl, rfl, ?_⟩
    dsimp only
    rw [cc2]
    have l2 : (txt5 nm2 (cnt sr 0) (cnt sr 1) (cnt sr 2) (cnt sr 3)).length ≤ 40 := by
      rw [txt5_len]
      match sr, hsr with
      | 0, _ => decide
      | 1, _ => decide
      | 2, _ => decide
      | 3, _ => decide
    refine ⟨_, rfl, pf2, txt5 nm2 (cnt sr 0) (cnt sr 1) (cnt sr 2) (cnt sr 3), rfl, SqL.of hf3, txt5_wd N2 cnt_le cnt_le cnt_le cnt_le, l2, fun f hf' t H11 s11 ht => ?_, fun h' hh => ?_⟩
    · rw [over5c N2 hsr] at hf'
      have ef := Except.error.inj hf'
      subst ef
      have hk : PyData.strOk ("too many lines" : Str) = true := by decide +kernel
      refine ⟨_, rfl, (by show 3 ≤ sizeLine; decide), fun t2 ht2 => ?_⟩
      refine ⟨.tuple [.int (2 + (bas sr : Int) + lim sr), .int 1, .str "too many lines"], .tuple [.int (2 + (bas sr : Int) + lim sr), .int 1, .str "too many lines"], dp_same (same_new ht2 _) (dp3 ht), dp3 (SqT.of upd_same), shp5 hk, shp5 hk, ?_⟩
      rw [eqv5 hk]
      exact q _
    · rw [over5c N2 hsr] at hh
      cases hh
  refine ⟨_, rfl, _, rfl, _, rfl, lm, _, rfl, SqL.of hlm7, fun p1 hp1 => ?_⟩
  have s8 := same_new hp1 (.lst (cutV limV none (some (sr : Int))))
  refine ⟨p1, limL sr, rfl, SqL.of (by rw [← cl1]; exact upd_same), _, _, rfl, rfl, ?_⟩
  dsimp only
  rw [cl2]
  have hS8 := s8.seq hS7
  have hlm8 := s8 _ _ hlm7
  have hf8 := s8 _ _ hf7
  generalize upd H7 p1 (.lst (cutV limV none (some (sr : Int)))) = H8 at s8 hS8 hlm8 hf8
  have hlim : 3 ≤ lim sr ∧ lim sr ≤ 10 := by unfold lim; split <;> omega
  have hbas : bas sr + lim sr ≤ 26 ∧ bas sr ≤ 16 := by
    match sr, hsr with
    | 0, _ => decide
    | 1, _ => decide
    | 2, _ => decide
    | 3, _ => decide
  refine ⟨_, rfl, _, _, rfl, rfl, _, rfl, a, ns, 18, rfl, hS8, by decide, fun v18 => ?_⟩
  refine ⟨_, rfl, _, rfl, lm, _, _, _, rfl, rfl, SqL.of hlm8, atI_nat cl3, _, _, rfl, rfl, _, _, rfl, rfl, (by show (0 : Int) < (lim sr : Int) - 1; omega), _, _, rfl, rfl, ?_⟩
  obtain ⟨c, hc0, hc1, ec⟩ : ∃ c : Nat, 0 < c ∧ c < lim sr ∧ 1 + (bas sr : Int) + 1 + v18 % ((lim sr : Int) - 1) = ((1 + bas sr + c : Nat) : Int) := by
    have m0 := Int.emod_nonneg v18 (show (lim sr : Int) - 1 ≠ 0 by omega)
    have m1 := Int.emod_lt_of_pos v18 (show 0 < (lim sr : Int) - 1 by omega)
    exact ⟨(1 + v18 % ((lim sr : Int) - 1)).toNat, by omega, by omega, by omega⟩
  dsimp only
  rw [ec]
  have hat := at5 (nm := nm) hsr hc1
  have hw0 := hLw _ (List.mem_of_getElem? hat)
  have rowat : ∀ {i : Nat} {l : List Str}, (txt5 nm 3 3 10 10)[i]? = some l → (((txt5 nm 3 3 10 10).map row).map V.str)[i]? = some (V.str (row l)) := fun e => by rw [List.getElem?_map, List.getElem?_map, e]; rfl
  have lr1 := row_lenX hw0.wd
  have ls1 := hw0.sz
  have zz := sizeLine_eq
  have sp0 : ((Str.ofString " " : Str).length == 0) = false := by decide +kernel
  refine ⟨_, rfl, _, rfl, pf, _, _, _, rfl, rfl, SqL.of hf8, atI_nat (rowat hat), ⟨_, rfl⟩, _, _, rfl, rfl, sp0, (by omega), fun wp hwp => ?_⟩
  rw [show Txt.split (row (ln5 nm sr c)) (Str.ofString " ") = ln5 nm sr c from row_splitX hw0.ne hw0.wd]
  have s9 := same_new hwp (.lst ((ln5 nm sr c).map V.str))
  have hw9 : (upd H8 wp (.lst ((ln5 nm sr c).map V.str))) wp = some (.lst ((ln5 nm sr c).map V.str)) := upd_same
  have hS9 := s9.seq hS8
  have hf9 := s9 _ _ hf8
  have npw : pf ≠ wp := ne_of_none hf8 hwp
  generalize upd H8 wp (.lst ((ln5 nm sr c).map V.str)) = H9 at s9 hw9 hS9 hf9
  have hrr : 1 + bas sr + c < (txt5 nm 3 3 10 10).length := by omega
  have hlen1 : 1 < (ln5 nm sr c).length := by
    have := ln5_1 (nm := nm) (c := c) hsr
    exact (List.getElem?_eq_some_iff.mp this).1
  have okx : ∀ (x : Str), PyData.strOk x = true → PyData.strOk x = true := fun _ h => h
  refine ⟨_, rfl, rfl, _, rfl, ite2 (fun k1 => ?_) (fun k1 => ?_)⟩
  · refine ⟨_, rfl, _, rfl, _, rfl, a, ns, 19, rfl, hS9, by decide, fun v19 => ?_⟩
    refine ⟨_, rfl, _, rfl, _, _, rfl, rfl, _, _, rfl, rfl, (by show (0 : Int) < ((1 + bas sr + c : Nat) : Int) - (1 + (bas sr : Int)); omega), _, _, rfl, rfl, ?_⟩
    obtain ⟨k, hk, ek⟩ : ∃ k : Nat, k < c ∧ 1 + (bas sr : Int) + v19 % (((1 + bas sr + c : Nat) : Int) - (1 + (bas sr : Int))) = ((1 + bas sr + k : Nat) : Int) := by
      have e : ((1 + bas sr + c : Nat) : Int) - (1 + (bas sr : Int)) = (c : Int) := by omega
      rw [e]
      have m0 := Int.emod_nonneg v19 (show (c : Int) ≠ 0 by omega)
      have m1 := Int.emod_lt_of_pos v19 (show 0 < (c : Int) by omega)
      exact ⟨(v19 % (c : Int)).toNat, by omega, by omega⟩
    dsimp only
    rw [ek]
    have hat2 := at5 (nm := nm) (c := k) hsr (by omega)
    have hw2 := hLw _ (List.mem_of_getElem? hat2)
    have lr2 := row_lenX hw2.wd
    have ls2 := hw2.sz
    refine ⟨pf, _, _, _, rfl, rfl, SqL.of hf9, atI_nat (rowat hat2), ⟨_, rfl⟩, _, _, rfl, rfl, sp0, (by omega), fun w2 hw2n => ?_⟩
    rw [show Txt.split (row (ln5 nm sr k)) (Str.ofString " ") = ln5 nm sr k from row_splitX hw2.ne hw2.wd]
    have s10 := same_new hw2n (.lst ((ln5 nm sr k).map V.str))
    have n1k : ((ln5 nm sr k).map V.str)[1]? = some (V.str (nm sr k)) := by rw [List.getElem?_map, ln5_1 hsr]; rfl
    have hw10 := s10 _ _ hw9
    have hf10 := s10 _ _ hf9
    refine ⟨w2, _, 1, _, rfl, rfl, SqL.of upd_same, atI_nat (j := 1) n1k, _, rfl, wp, _, 1, 1, rfl, rfl, hw10, ixN_natW (n := ((ln5 nm sr c).map V.str).length) (j := 1) (by rw [List.length_map]; exact hlen1), ?_⟩
    have hwS : LnW ((ln5 nm sr c).set 1 (nm sr k)) := lnw_setS hw0 (N.ok sr k (by omega)).wd.x
    have e0 : ((ln5 nm sr c).set 1 (nm sr k))[0]? = some (sortW sr) := by rw [List.getElem?_set_ne (by decide)]; exact ln5_0 hsr
    have hwu : ((ln5 nm sr c).map V.str).set 1 (V.str (nm sr k)) = ((ln5 nm sr c).set 1 (nm sr k)).map V.str := by rw [List.map_set]
    rw [hwu]
    generalize upd H9 w2 (.lst ((ln5 nm sr k).map V.str)) = H10 at hw10 hf10 s10
    have hf11 : (upd H10 wp (.lst (((ln5 nm sr c).set 1 (nm sr k)).map V.str))) pf = _ := (upd_ne npw).trans hf10
    have hw11 : (upd H10 wp (.lst (((ln5 nm sr c).set 1 (nm sr k)).map V.str))) wp = some (.lst (((ln5 nm sr c).set 1 (nm sr k)).map V.str)) := upd_same
    generalize upd H10 wp (.lst (((ln5 nm sr c).set 1 (nm sr k)).map V.str)) = H11 at hf11 hw11
    have lw0 : (sortW sr).length ≤ 40 := by
      rw [TL.len_tl]
      exact (hwS.wd _ (List.mem_of_getElem? e0)).2.2
    refine ⟨_, rfl, _, _, rfl, rfl, _, rfl, wp, _, 0, _, rfl, rfl, SqL.of hw11, atI_nat (j := 0) (by rw [List.getElem?_map, e0]; rfl), _, rfl, (by omega), _, _, rfl, rfl, (by show 3 ≤ sizeLine; decide), fun t ht => ?_⟩
    have s12 := same_new ht (.tup [V.int (((1 + bas sr + c : Nat) : Int) + 1), V.int (((sortW sr).length : Int) + 2), V.str nau])
    have ecol : ((sortW sr).length : Int) + 2 = colW ((ln5 nm sr c).set 1 (nm sr k)) 1 := by
      obtain ⟨x, y, exy⟩ : ∃ x y, (ln5 nm sr c).set 1 (nm sr k) = x :: y := ⟨_, _, (List.cons_head_tail (l := (ln5 nm sr c).set 1 (nm sr k)) hwS.ne).symm⟩
      rw [exy] at e0 ⊢
      have := Option.some.inj e0
      show _ = 1 + (((x.length : Int) + 1) + 0)
      rw [this]
      omega
    show finT K _ _ _
    exact fin5 (r := 1 + bas sr + c) (ws := (ln5 nm sr c).set 1 (nm sr k)) rfl rfl rfl rfl (s12 _ _ hf11) (SqL.of (s12 _ _ hw11)) (SqT.of (by rw [← ecol]; exact upd_same)) hLw (by omega) hrr hwS (set5 N hsr hc0 hc1 (used5 N hsr hc0 hc1 hk)) nau_ok q
  refine @and_t _ _ _ kd (sr : Int) 2 2 rfl rfl ?_
  refine ite2 (fun k2 => ?_) (fun k2 => ?_)
  · have k2 := of_decide_eq_true k2
    have s2' : 2 ≤ sr := by omega
    refine ⟨_, rfl, a, ns, 19, rfl, hS9, by decide, fun v19 => ?_⟩
    have m2 : v19 % 2 = 0 ∨ v19 % 2 = 1 := by omega
    refine ⟨_, _, rfl, rfl, (by show (0 : Int) < 2; decide), _, _, rfl, rfl, .inl ⟨by decide, by decide⟩, _, rfl, _, _, rfl, rfl, _, _, rfl, rfl, ?_⟩
    refine ⟨.inl ⟨by show -(2 ^ 64) < 2 * (v19 % 2); omega, by show 2 * (v19 % 2) < 2 ^ 64; omega⟩, _, _, rfl, rfl, ?_⟩
    obtain ⟨p, epl, hp1, hp2, hu⟩ : ∃ p : Nat, 3 + 2 * (v19 % 2) * ((sr : Int) - 2) = (p : Int) ∧ 1 ≤ p ∧ p < (ln5 nm sr c).length ∧ rdLine 90 sr (nst nm sr c) ((ln5 nm sr c).set p (nm sr c ++ Str.ofString "Q")) = .error (p, unk) := by
      have h23 : sr = 2 ∨ sr = 3 := by omega
      rcases h23 with rfl | rfl
      · exact ⟨3, by show 3 + 2 * (v19 % 2) * 0 = 3; omega, by decide, by show 3 < 20; decide, (unk5 N hc1).1⟩
      · rcases m2 with e | e
        · exact ⟨3, by rw [e]; decide, by decide, by show 3 < 16; decide, (unk5 N hc1).2.1⟩
        · exact ⟨5, by rw [e]; decide, by decide, by show 5 < 16; decide, (unk5 N hc1).2.2⟩
    dsimp only
    rw [epl]
    have n1c : ((ln5 nm sr c).map V.str)[1]? = some (V.str (nm sr c)) := by rw [List.getElem?_map, ln5_1 hsr]; rfl
    have lq : (Str.ofString "Q" : Str).length = 1 := by decide +kernel
    have lnm : (nm sr c).length ≤ 40 := by
      rw [TL.len_tl]
      exact ((N.ok sr c (by omega)).wd.x).2.2
    refine ⟨_, rfl, wp, _, 1, _, rfl, rfl, SqL.of hw9, atI_nat (j := 1) n1c, _, _, rfl, rfl, (by omega), ?_⟩
    refine ⟨_, rfl, _, rfl, wp, _, _, p, rfl, rfl, hw9, ixN_natW (by rw [List.length_map]; exact hp2), ?_⟩
    have hwS : LnW ((ln5 nm sr c).set p (nm sr c ++ Str.ofString "Q")) := lnw_setS hw0 (N.okQ sr c (by omega)).wd.x
    have hwu : ((ln5 nm sr c).map V.str).set p (V.str (nm sr c ++ Str.ofString "Q")) = ((ln5 nm sr c).set p (nm sr c ++ Str.ofString "Q")).map V.str := by rw [List.map_set]
    rw [hwu]
    have hp3 : p < ((ln5 nm sr c).set p (nm sr c ++ Str.ofString "Q")).length := by rw [List.length_set]; exact hp2
    have hse := set5 N hsr hc0 hc1 hu
    generalize hwsx : (ln5 nm sr c).set p (nm sr c ++ Str.ofString "Q") = ws at hwS hp3 hse
    have hf11 : (upd H9 wp (.lst (ws.map V.str))) pf = _ := (upd_ne npw).trans hf9
    have hw11 : (upd H9 wp (.lst (ws.map V.str))) wp = some (.lst (ws.map V.str)) := upd_same
    generalize upd H9 wp (.lst (ws.map V.str)) = H11 at hf11 hw11
    have wdt : ∀ x ∈ ws.take p, WdX x := fun x hx => hwS.wd x (List.mem_of_mem_take hx)
    have lt1 : (ws.take p).length ≤ 400 := by have := hwS.sz; rw [List.length_take]; omega
    have st1' := sum_wd wdt
    have lrt := row_lenX wdt
    have ec2 : cutV (ws.map V.str) none (some (p : Int)) = (ws.take p).map V.str := by
      rw [cut_toW (by rw [List.length_map]; omega), List.map_take]
    have e1 : (Str.ofString " " : Str).length = 1 := by decide +kernel
    have ej2 : Txt.join (Str.ofString " ") (ws.take p) = row (ws.take p) := TL.join_eq sp _
    refine ⟨_, rfl, _, _, rfl, rfl, ⟨_, rfl⟩, _, rfl, _, rfl, _, rfl, wp, _, rfl, SqL.of hw11, fun p8 hp8 => ?_⟩
    have s12 := same_new hp8 (.lst (cutV (ws.map V.str) none (some (p : Int))))
    refine ⟨_, p8, ws.take p, rfl, rfl, .inl (SqL.of (by rw [← ec2]; exact upd_same)), (by rw [e1]; omega), _, rfl, (by rw [ej2]; omega), _, _, rfl, rfl, (by show 3 ≤ sizeLine; decide), fun t ht => ?_⟩
    have s13 := same_new ht (.tup [V.int (((1 + bas sr + c : Nat) : Int) + 1), V.int (colW ws p), V.str unk])
    rw [ej2]
    dsimp only
    rw [col_row hp1 hp3]
    show finT K _ _ _
    exact fin5 (r := 1 + bas sr + c) (ws := ws) rfl rfl rfl rfl (s13 _ _ (s12 _ _ hf11)) (SqL.of (s13 _ _ (s12 _ _ hw11))) (SqT.of upd_same) hLw (by omega) hrr hwS hse unk_ok q
  refine @and_t _ _ _ kd (sr : Int) 3 1 rfl rfl ?_
  refine ite2 (fun k3 => ?_) (fun k3 => ?_)
  · have k3 := of_decide_eq_true k3
    have s3' : 1 ≤ sr := by omega
    have hb0 : 0 < bas sr := bas_pos s3' hsr
    refine ⟨_, rfl, _, rfl, a, ns, 19, rfl, hS9, by decide, fun v19 => ?_⟩
    refine ⟨_, rfl, _, _, rfl, rfl, _, _, rfl, rfl, (by show (0 : Int) < 1 + (bas sr : Int) - 1; omega), _, _, rfl, rfl, ?_⟩
    obtain ⟨j, k, hj, hk, eq⟩ : ∃ j k, j < sr ∧ k < lim j ∧ v19 % (1 + (bas sr : Int) - 1) + 1 = ((1 + bas j + k : Nat) : Int) := by
      have e : 1 + (bas sr : Int) - 1 = (bas sr : Int) := by omega
      rw [e]
      have m0 := Int.emod_nonneg v19 (show (bas sr : Int) ≠ 0 by omega)
      have m1 := Int.emod_lt_of_pos v19 (show 0 < (bas sr : Int) by omega)
      obtain ⟨j, k, hj, hk, e2⟩ := row_lt (q := (v19 % (bas sr : Int)).toNat) hsr (by omega)
      exact ⟨j, k, hj, hk, by omega⟩
    dsimp only
    rw [eq]
    have hat2 := at5 (nm := nm) (i := j) (c := k) (by omega) hk
    have hw2 := hLw _ (List.mem_of_getElem? hat2)
    have lr2 := row_lenX hw2.wd
    have ls2 := hw2.sz
    refine ⟨pf, _, _, _, rfl, rfl, SqL.of hf9, atI_nat (rowat hat2), ⟨_, rfl⟩, _, _, rfl, rfl, sp0, (by omega), fun w2 hw2n => ?_⟩
    rw [show Txt.split (row (ln5 nm j k)) (Str.ofString " ") = ln5 nm j k from row_splitX hw2.ne hw2.wd]
    have npw2 : pf ≠ w2 := ne_of_none hf9 hw2n
    have hlen2 : 1 < (ln5 nm j k).length := by
      have := ln5_1 (nm := nm) (i := j) (c := k) (by omega)
      exact (List.getElem?_eq_some_iff.mp this).1
    refine ⟨_, rfl, w2, _, 1, 1, rfl, rfl, upd_same, ixN_natW (n := ((ln5 nm j k).map V.str).length) (j := 1) (by rw [List.length_map]; exact hlen2), ?_⟩
    rw [upd_upd]
    have hwS : LnW ((ln5 nm j k).set 1 (Str.ofString "Qq")) := lnw_setS hw2 (lit_wd (by decide +kernel))
    have hwu : ((ln5 nm j k).map V.str).set 1 (V.str (Str.ofString "Qq")) = ((ln5 nm j k).set 1 (Str.ofString "Qq")).map V.str := by rw [List.map_set]
    rw [hwu]
    have hf11 : (upd H9 w2 (.lst (((ln5 nm j k).set 1 (Str.ofString "Qq")).map V.str))) pf = _ := (upd_ne npw2).trans hf9
    have hw11 : (upd H9 w2 (.lst (((ln5 nm j k).set 1 (Str.ofString "Qq")).map V.str))) w2 = some (.lst (((ln5 nm j k).set 1 (Str.ofString "Qq")).map V.str)) := upd_same
    generalize upd H9 w2 (.lst (((ln5 nm j k).set 1 (Str.ofString "Qq")).map V.str)) = H11 at hf11 hw11
    refine ⟨_, rfl, _, _, rfl, rfl, (by show 3 ≤ sizeLine; decide), fun t ht => ?_⟩
    have s12 := same_new ht (.tup [V.int (((1 + bas sr + c : Nat) : Int) + 1), V.int 1, V.str "line out of order"])
    have hse : rdText ((txt5 nm 3 3 10 10).set (1 + bas sr + c) ((ln5 nm j k).set 1 (Str.ofString "Qq"))) Str.empty = .error (((1 + bas sr + c : Nat) : Int) + 1, 1, "line out of order") := by
      rw [← colW_0 ((ln5 nm j k).set 1 (Str.ofString "Qq"))]
      exact set5 N hsr hc0 hc1 (ooo5 hsr hj)
    have htt : SqT K (upd H11 t (.tup [V.int (((1 + bas sr + c : Nat) : Int) + 1), V.int 1, V.str "line out of order"])) t [V.int (((1 + bas sr + c : Nat) : Int) + 1), V.int 1, V.str "line out of order"] := SqT.of upd_same
    show finT K _ _ _
    exact fin5 (r := 1 + bas sr + c) (ws := (ln5 nm j k).set 1 (Str.ofString "Qq")) rfl rfl rfl rfl (s12 _ _ hf11) (SqL.of (s12 _ _ hw11)) htt hLw (by omega) hrr hwS hse ooo_ok q
  · refine ⟨(by show 2 ≤ sizeLine; decide), fun w2 hw2n => ?_⟩
    have e90 : ([V.str "horizon", V.str "90"] : List V) = (horL 90).map V.str := by
      show [V.str "horizon", V.str "90"] = [V.str "horizon", V.str (num 90)]
      rw [show (num 90 : Str) = "90" by decide +kernel]
    have s11 := same_new hw2n (.lst [V.str "horizon", V.str "90"])
    have hw11 : (upd H9 w2 (.lst [V.str "horizon", V.str "90"])) w2 = some (.lst ((horL 90).map V.str)) := by rw [upd_same, e90]
    refine ⟨_, rfl, _, _, rfl, rfl, (by show 3 ≤ sizeLine; decide), fun t ht => ?_⟩
    have s12 := same_new ht (.tup [V.int (((1 + bas sr + c : Nat) : Int) + 1), V.int 1, V.str "unexpected word"])
    show finT K _ _ _
    exact fin5 (r := 1 + bas sr + c) (ws := horL 90) rfl rfl rfl rfl (s12 _ _ (s11 _ _ hf9)) (SqL.of (s12 _ _ hw11)) (SqT.of upd_same) hLw (by omega) hrr (hor_w (by decide)) (set5 N hsr hc0 hc1 unx5) unx_ok q
end
end DP
namespace DP
open PySem PySem.Spec PyProof.Rows L2
theorem sz4_ : 4 ≤ sizeLine := Nat.le_trans (by decide : 4 ≤ 1000) (Nat.le_of_lt (small1000 (Nat.le_refl _)))
theorem tf_mk {h : Heap} {K : PySem.W.Frag} {mg : Str → Option Value} {CT fI cda cc N : Addr} {oc kV doc pm ct cl ccl : Value} {od an cld cdd dd : Option Addr} {osl csl ccs : Array (Option Value)} {vs : Array Value} {tf : Tok}
    {nm q : Str} {bs bm sub : List Value} {sn : List Str} {ab : Bool} {col : Option Bool} {k0 k1 k2 k3 k5 : Option Value} (X : K.In h) (G : h.Ns mainGlobals mg) (g : PySem.W.nsIn K mainGlobals "TextFault" = some (some (.ref CT)))
    (a : PySem.W.findIn K (.ref CT) "__init__" = some (some (.ref fI))) (ty : PySem.W.typeIn K (.ref fI) = some (.type "function"))
    (l : K.lookup fI = some ⟨oc, od, .func (PySem.W.ksFn "__init__" "TextFault.__init__" (defArgs s_TextFault___init__) (defBody s_TextFault___init__) (defScope s_TextFault___init__) .none kV doc pm an (.ref cda) ct cc), osl⟩)
    (c : PySem.W.codeIn K (.ref cda) "TextFault.__init__" = true) (ox : K.lookup CT = some (excClassObj nm q CT N bs bm true sn sub ab col dd k0 k1 k2 k3 k5 "ValueError.__new__")) (hbm : PySem.HandSPX.refsVE bm = true)
    (sa : PySem.W.findIn K (.ref CT) "__setattr__" = some (some (.builtin "object.__setattr__"))) (exC : PySem.W.subIn K (.ref CT) (.type "BaseException") = some true) (tyC : PySem.W.typeIn K (.ref CT) = some (.type "type")) (kC : PySem.W.keepIn K (.ref CT) = true)
    (sb : PySem.W.subIn K (.ref CT) (.type "ValueError") = some true) (along : PySem.W.ks_superIn K CT CT "__init__" = some (some (.builtin "ValueError.__init__"))) (third : PySem.W.nsIn K cStatics "thirdparty.any" = some none)
    (su : PySem.W.nsIn K mainGlobals "super" = some none) (cd1 : K.lookup cda = some ⟨ccl, cdd, .fields vs, ccs⟩) (cd2 : vs[2]? = some (.str "/claim/cut.py" tf)) (ce : K.lookup cc = some ⟨cl, cld, .cell (some (.ref CT)), csl⟩)
    (nl : PySem.W.findIn K (.ref CT) "line" = some none) (nc : PySem.W.findIn K (.ref CT) "column" = some none) (nr : PySem.W.findIn K (.ref CT) "reason" = some none)
    (ga : PySem.W.findIn K (.ref CT) "__getattribute__" = some (some (.builtin "BaseException.__getattribute__"))) (gg : PySem.W.findIn K (.ref CT) "__getattr__" = some none) (hd : PySem.W.hasDictIn K CT = true)
    (iT : PySem.W.isClsIn K CT = true) (sT : PySem.W.subIn K (.ref CT) (.ref CT) = some true) : TfAt K mg CT :=
  ⟨PySem.W.mg_of X G g, ⟨fI, cda, cc, oc, kV, doc, pm, ct, od, an, osl, a, ty, l, c, ⟨⟨⟨nm, q, N, bs, bm, sn, sub, ab, col, dd, k0, k1, k2, k3, k5, ox, hbm⟩, sa, exC, tyC, kC⟩, sb, along, third, PySem.W.mg_none_of X G su, ⟨ccl, cdd, vs, ccs, tf, cd1, cd2⟩, ⟨cl, cld, csl, ce⟩⟩⟩,
    nl, nc, nr, ⟨ga, gg, exC, hd⟩, iT, sT, exC, tyC⟩
end DP
namespace DP
open PySem PySem.Spec PyProof.Rows L2
section
variable {h : Heap} {K : PySem.W.Frag} {mg : Str → Option Value} {x m qual : Str} {st : Stmt} {ps : List Str} {C f p T : Addr} {oc oc' kV doc pm cdv ct : Value} {od od' an : Option Addr} {osl osl' : Array (Option Value)} {rest : List Value}
theorem cls_mk (X : K.In h) (G : h.Ns mainGlobals mg) (g : PySem.W.nsIn K mainGlobals x = some (some (.ref C))) (pg : PySem.W.plainGet K C Str.empty = true) (hd : PySem.W.hasDictIn K C = true) (po : PySem.W.plainOver K C = true)
    (sa : PySem.W.findIn K (.ref C) "__setattr__" = some (some (.builtin "object.__setattr__"))) (mk : PySem.W.makesIn K C = true) (kp : PySem.W.keepIn K (.ref C) = true) : ClsAt K mg x C := ⟨⟨pg, hd, po, sa⟩, mk, kp, PySem.W.mg_of X G g⟩
theorem met_mk (a : PySem.W.findIn K (.ref C) m = some (some (.ref f))) (i : PySem.W.isFn K (.ref f) = true) (l : K.lookup f = some ⟨oc, od, .func (PySem.W.fnOf m qual (defArgs st) (defBody st) (defScope st) .none kV doc pm an cdv ct), osl⟩)
    (c : PySem.W.codeIn K cdv qual = true) (k : PySem.W.keepIn K (.ref f) = true)
    (hb : ∀ (kV doc pm : Value) (an : Option Addr) (cdv ct : Value) (us : List Value), us.length = ps.length → bindArgs (PySem.W.fnOf m qual (defArgs st) (defBody st) (defScope st) .none kV doc pm an cdv ct) ⟨us, []⟩ = pure (ps.zip us)) : MAt K C m qual st ps := by
  have F := fun_mk (st := st) l c k
  exact ⟨f, _, F, ⟨a, i, k⟩, F.binds hb⟩
/-- one default, an int -/
theorem metD_mk {d : Int} {t : Tok} {n : Nat} (a : PySem.W.findIn K (.ref C) m = some (some (.ref f))) (i : PySem.W.isFn K (.ref f) = true) (l : K.lookup f = some ⟨oc, od, .func (PySem.W.fnOf m qual (defArgs st) (defBody st) (defScope st) (.ref T) kV doc pm an cdv ct), osl⟩)
    (lT : K.lookup T = some ⟨oc', od', .seq #[.int d t] n, osl'⟩)
    (c : PySem.W.codeIn K cdv qual = true) (k : PySem.W.keepIn K (.ref f) = true) (j : Nat) (hn : j + 1 = ps.length)
    (hb : ∀ (T : Addr) (kV doc pm : Value) (an : Option Addr) (cdv ct : Value) (us its : List Value), us.length = j → its.length = 1 →
      ∃ k, bindArgs (PySem.W.fnOf m qual (defArgs st) (defBody st) (defScope st) (.ref T) kV doc pm an cdv ct) ⟨us, []⟩ = seqItems? (.ref T) >>= k ∧ k (some its.toArray) = pure (ps.zip (us ++ its.drop 0))) : MAtD K C m qual st ps [.int d] := by
  have F : FunD K m qual (defArgs st) (defBody st) (defScope st) [.int d] [] f (PySem.W.fnOf m qual (defArgs st) (defBody st) (defScope st) (.ref T) kV doc pm an cdv ct) :=
    ⟨⟨oc, od, .ref T, kV, doc, pm, an, cdv, ct, osl, rfl, l, c, .inr ⟨List.cons_ne_nil _ _, T, _, [.int d t], n, rfl, lT, rfl, .cons ⟨t, rfl⟩ .nil⟩, .inl rfl⟩, k⟩
  obtain ⟨ds, v, b⟩ := F.binds1 (ps := ps) j 0 (List.cons_ne_nil _ _) hn hb
  exact ⟨f, _, ds, F, ⟨a, i, k⟩, b, v⟩
theorem smet_mk (a : PySem.W.findCls K (.ref C) (.type "type") m = some (.get (.builtin "staticmethod.__get__") (.ref p) .none (.ref C))) (r : PySem.W.recIn K p "staticmethod" = some (.ref f :: rest))
    (l : K.lookup f = some ⟨oc, od, .func (PySem.W.fnOf m qual (defArgs st) (defBody st) (defScope st) .none kV doc pm an cdv ct), osl⟩)
    (c : PySem.W.codeIn K cdv qual = true) (k : PySem.W.keepIn K (.ref f) = true)
    (hb : ∀ (kV doc pm : Value) (an : Option Addr) (cdv ct : Value) (us : List Value), us.length = ps.length → bindArgs (PySem.W.fnOf m qual (defArgs st) (defBody st) (defScope st) .none kV doc pm an cdv ct) ⟨us, []⟩ = pure (ps.zip us)) : SAt K C m qual st ps := by
  have F := fun_mk (st := st) l c k
  exact ⟨f, _, F, ⟨p, rest, a, r⟩, F.binds hb⟩
theorem int_mk {i : Int} {t : Tok} (X : K.In h) (G : h.Ns mainGlobals mg) (g : PySem.W.nsIn K mainGlobals x = some (some (.int i t))) : ∃ t, mg x = some (.int i t) := ⟨t, PySem.W.mg_of X G g⟩
theorem str_mk {z : Str} {t : Tok} (X : K.In h) (G : h.Ns mainGlobals mg) (g : PySem.W.nsIn K mainGlobals x = some (some (.str z t))) : ∃ t, mg x = some (.str z t) := ⟨t, PySem.W.mg_of X G g⟩
theorem cval_mk {i : Int} {t : Tok} (g : PySem.W.findCls K (.ref C) (.type "type") x = some (.val (.int i t))) : ∃ t, ClX.CVal K C (.type "type") x (.int i) (.int i t) := ⟨t, g, ⟨t, rfl⟩⟩
theorem tup4s_mk {a b c d : Str} {t0 t1 t2 t3 : Tok} {n : Nat} (l : K.lookup T = some ⟨.type "tuple", none, .seq #[.str a t0, .str b t1, .str c t2, .str d t3] n, osl⟩) : ∀ H, SqT K H T (([a, b, c, d]).map V.str) := fun H =>
  .inr ⟨_, _, _, l, rfl, rfl, by show 4 ≤ sizeLine; exact sz4_, .cons ⟨_, rfl⟩ (.cons ⟨_, rfl⟩ (.cons ⟨_, rfl⟩ (.cons ⟨_, rfl⟩ .nil)))⟩
theorem tup4r_mk {a b c d : Addr} {n : Nat} (l : K.lookup T = some ⟨.type "tuple", none, .seq #[.ref a, .ref b, .ref c, .ref d] n, osl⟩) : ∀ H, SqT K H T [.ref a, .ref b, .ref c, .ref d] := fun H =>
  .inr ⟨_, _, _, l, rfl, rfl, by show 4 ≤ sizeLine; exact sz4_, .cons rfl (.cons rfl (.cons rfl (.cons rfl .nil)))⟩
theorem tupk_mk {its : Array Value} {n : Nat} (l : K.lookup T = some ⟨.type "tuple", none, .seq its n, osl⟩) : ∃ o, K.lookup T = some o ∧ o.cls = .type "tuple" ∧ o.dict = none := ⟨_, l, rfl, rfl⟩
end
end DP
namespace DP
open PySem PySem.Spec PyProof.Rows L2
theorem the_law {P : Program} {w : World} {K : PySem.W.Frag} {mg : Str → Option Value} {base : Heap} {CL CS CT CR CP CW CB aS aR fS fT fR fP : Addr} (T : TxtW K mg CL CS CT CR CP CW aS aR fS fT fR fP) (F : PF K mg CL CS CT CR CP CW)
    (a1 : At K mg "_law_cell" s__law_cell ["script", "k"]) (a2 : At K mg "_law_draws" s__law_draws ["cell", "count"]) (a3 : At K mg "_law_stream" s__law_stream ["script", "first", "count"]) (a4 : At K mg "_law_next" s__law_next ["stream", "many"])
    (a5 : At K mg "_law_word" s__law_word ["stream", "index"]) (b4 : At K mg "_law_is_integer" s__law_is_integer ["actual"]) (b5 : At K mg "_law_same" s__law_same ["actual", "expected"])
    (b6 : At K mg "_law_fault" s__law_fault ["lines"]) (b7 : At K mg "_law_full" s__law_full ["stream", "counts"]) (RF : MAt K CL "refuse" "Line.refuse" s_Line_refuse ["self", "reason"]) (b8 : At K mg "law" s_law ["script"]) (TF : TfAt K mg CB) (SP : SupP P) : DefOk P w K mg base CX0 11 "law" ["script"] (spLaw K) := by
  have B := T.L.B
  have D_cell : DefOk P w K mg base CX0 1 "_law_cell" _ (DP.spCell K) := d_cell B a1
  have D_stream : DefOk P w K mg base CX0 2 "_law_stream" _ (spStream K) := d_stream (d_stream0 B D_cell (d_draws B a2) a3)
  have D_next : DefOk P w K mg base CX0 1 "_law_next" _ spNext := d_next (d_next0 B a4)
  have D_word : DefOk P w K mg base CX0 2 "_law_word" _ spWordL := d_wordL B D_next a5
  have D_same : DefOk P w K mg base CX0 9 "_law_same" _ (spSame K 8) := d_same B (d_is_integer B b4) b5 8
  exact d_law T D_cell D_stream D_same (d_full B D_word b7) (d_fault T TF (prog_parseX T F TF SP RF) b6) b8
theorem hb__law_cell : ∀ (kV doc pm : Value) (an : Option Addr) (cdv ct : Value) (us : List Value), us.length = (["script", "k"] : List Str).length → bindArgs (PySem.W.fnOf "_law_cell" "_law_cell" (defArgs s__law_cell) (defBody s__law_cell) (defScope s__law_cell) .none kV doc pm an cdv ct) ⟨us, []⟩ = pure ((["script", "k"] : List Str).zip us) :=
  fun _ _ _ _ _ _ us hl => match us, hl with | [_, _], _ => rfl
theorem hb__law_draws : ∀ (kV doc pm : Value) (an : Option Addr) (cdv ct : Value) (us : List Value), us.length = (["cell", "count"] : List Str).length → bindArgs (PySem.W.fnOf "_law_draws" "_law_draws" (defArgs s__law_draws) (defBody s__law_draws) (defScope s__law_draws) .none kV doc pm an cdv ct) ⟨us, []⟩ = pure ((["cell", "count"] : List Str).zip us) :=
  fun _ _ _ _ _ _ us hl => match us, hl with | [_, _], _ => rfl
theorem hb__law_stream : ∀ (kV doc pm : Value) (an : Option Addr) (cdv ct : Value) (us : List Value), us.length = (["script", "first", "count"] : List Str).length → bindArgs (PySem.W.fnOf "_law_stream" "_law_stream" (defArgs s__law_stream) (defBody s__law_stream) (defScope s__law_stream) .none kV doc pm an cdv ct) ⟨us, []⟩ = pure ((["script", "first", "count"] : List Str).zip us) :=
  fun _ _ _ _ _ _ us hl => match us, hl with | [_, _, _], _ => rfl
theorem hb__law_next : ∀ (kV doc pm : Value) (an : Option Addr) (cdv ct : Value) (us : List Value), us.length = (["stream", "many"] : List Str).length → bindArgs (PySem.W.fnOf "_law_next" "_law_next" (defArgs s__law_next) (defBody s__law_next) (defScope s__law_next) .none kV doc pm an cdv ct) ⟨us, []⟩ = pure ((["stream", "many"] : List Str).zip us) :=
  fun _ _ _ _ _ _ us hl => match us, hl with | [_, _], _ => rfl
theorem hb__law_word : ∀ (kV doc pm : Value) (an : Option Addr) (cdv ct : Value) (us : List Value), us.length = (["stream", "index"] : List Str).length → bindArgs (PySem.W.fnOf "_law_word" "_law_word" (defArgs s__law_word) (defBody s__law_word) (defScope s__law_word) .none kV doc pm an cdv ct) ⟨us, []⟩ = pure ((["stream", "index"] : List Str).zip us) :=
  fun _ _ _ _ _ _ us hl => match us, hl with | [_, _], _ => rfl
theorem hb__law_is_integer : ∀ (kV doc pm : Value) (an : Option Addr) (cdv ct : Value) (us : List Value), us.length = (["actual"] : List Str).length → bindArgs (PySem.W.fnOf "_law_is_integer" "_law_is_integer" (defArgs s__law_is_integer) (defBody s__law_is_integer) (defScope s__law_is_integer) .none kV doc pm an cdv ct) ⟨us, []⟩ = pure ((["actual"] : List Str).zip us) :=
  fun _ _ _ _ _ _ us hl => match us, hl with | [_], _ => rfl
theorem hb__law_same : ∀ (kV doc pm : Value) (an : Option Addr) (cdv ct : Value) (us : List Value), us.length = (["actual", "expected"] : List Str).length → bindArgs (PySem.W.fnOf "_law_same" "_law_same" (defArgs s__law_same) (defBody s__law_same) (defScope s__law_same) .none kV doc pm an cdv ct) ⟨us, []⟩ = pure ((["actual", "expected"] : List Str).zip us) :=
  fun _ _ _ _ _ _ us hl => match us, hl with | [_, _], _ => rfl
theorem hb__law_fault : ∀ (kV doc pm : Value) (an : Option Addr) (cdv ct : Value) (us : List Value), us.length = (["lines"] : List Str).length → bindArgs (PySem.W.fnOf "_law_fault" "_law_fault" (defArgs s__law_fault) (defBody s__law_fault) (defScope s__law_fault) .none kV doc pm an cdv ct) ⟨us, []⟩ = pure ((["lines"] : List Str).zip us) :=
  fun _ _ _ _ _ _ us hl => match us, hl with | [_], _ => rfl
theorem hb__law_full : ∀ (kV doc pm : Value) (an : Option Addr) (cdv ct : Value) (us : List Value), us.length = (["stream", "counts"] : List Str).length → bindArgs (PySem.W.fnOf "_law_full" "_law_full" (defArgs s__law_full) (defBody s__law_full) (defScope s__law_full) .none kV doc pm an cdv ct) ⟨us, []⟩ = pure ((["stream", "counts"] : List Str).zip us) :=
  fun _ _ _ _ _ _ us hl => match us, hl with | [_, _], _ => rfl
theorem hb_Line_refuse : ∀ (kV doc pm : Value) (an : Option Addr) (cdv ct : Value) (us : List Value), us.length = (["self", "reason"] : List Str).length → bindArgs (PySem.W.fnOf "refuse" "Line.refuse" (defArgs s_Line_refuse) (defBody s_Line_refuse) (defScope s_Line_refuse) .none kV doc pm an cdv ct) ⟨us, []⟩ = pure ((["self", "reason"] : List Str).zip us) :=
  fun _ _ _ _ _ _ us hl => match us, hl with | [_, _], _ => rfl
theorem hb_law : ∀ (kV doc pm : Value) (an : Option Addr) (cdv ct : Value) (us : List Value), us.length = (["script"] : List Str).length → bindArgs (PySem.W.fnOf "law" "law" (defArgs s_law) (defBody s_law) (defScope s_law) .none kV doc pm an cdv ct) ⟨us, []⟩ = pure ((["script"] : List Str).zip us) :=
  fun _ _ _ _ _ _ us hl => match us, hl with | [_], _ => rfl
theorem fin {l : PySem.W.OpenLaw} {w : World} {K : PySem.W.Frag} {mg : Str → Option Value} {fa CL CS CT CR CP CW aS aR fS fT fR fP CB : Addr} (hfa : mg "law" = some (.ref fa)) (T : TxtW K mg CL CS CT CR CP CW aS aR fS fT fR fP) (F : PF K mg CL CS CT CR CP CW)
    (a__law_cell : At K mg "_law_cell" s__law_cell ["script", "k"])
    (a__law_draws : At K mg "_law_draws" s__law_draws ["cell", "count"])
    (a__law_stream : At K mg "_law_stream" s__law_stream ["script", "first", "count"])
    (a__law_next : At K mg "_law_next" s__law_next ["stream", "many"])
    (a__law_word : At K mg "_law_word" s__law_word ["stream", "index"])
    (a__law_is_integer : At K mg "_law_is_integer" s__law_is_integer ["actual"])
    (a__law_same : At K mg "_law_same" s__law_same ["actual", "expected"])
    (a__law_fault : At K mg "_law_fault" s__law_fault ["lines"])
    (a__law_full : At K mg "_law_full" s__law_full ["stream", "counts"])
    (a_Line_refuse : MAt K CL "refuse" "Line.refuse" s_Line_refuse ["self", "reason"])
    (a_law : At K mg "law" s_law ["script"])
    (TF : TfAt K mg CB)
    (SP : SupP l.prog)
    : ∃ fd : FuncData, (∀ (s : Shared) (v : Value), BindsTo s fd ⟨[v], []⟩ [("script", v)]) ∧ ∀ base : Heap, K.In base → base.Ns mainGlobals mg → FnOk l.prog w K mg base CX0 11 fa fd ["script"] (spLaw K) :=
  a_law.end_ hfa (fun base => the_law T F a__law_cell a__law_draws a__law_stream a__law_next a__law_word a__law_is_integer a__law_same a__law_fault a__law_full a_Line_refuse a_law TF SP) (fun _ _ _ _ _ _ _ => rfl)
end DP
open PySem PySem.W PyProof.Rows
set_option maxHeartbeats 0 in
theorem PySem.Challenge.cw_downpass_k05_names_and_order_of_lines_holds : PySem.Challenge.rw_downpass_k05_names_and_order_of_lines.Holds := by
  w_on; o_law; k_head; (case hw => w_witness2)
  k_fill
  refine L2.walk_of (l := PySem.Challenge.rw_downpass_k05_names_and_order_of_lines) (n := 63) (k := 11) (x := "script") (CX := fun _ => L2.CX0) (sp := fun w => DP.spLaw _) rfl (by decide) rfl ⟨rfl, by decide, by decide⟩ (fun w h Y => PySem.W.kIn_of Y) ?F (fun _ _ a ns hl _ hS => ⟨a, ns, rfl, hS, fun _ => rfl⟩) (fun _ _ _ _ _ h => h)
  case F =>
    intro w mg fa h KX G hmg
    refine' DP.fin hmg ⟨⟨⟨?z_len, ?z_range, ?z_int, ?z_abs, ?z_isinstance, ?z_bool, ?z_str, ?z_tuple, ?z_list, ?z_sum, ?z_min, ?z_all, ?z_enumerate⟩, ?c_Line, ?n_Line_number, ?n_Line_words, ?n_Line_read, ?n_Line_column, ?g_LETTERS, ?g_DIGITS, ?g_MOST_NAME, ?g_MOST_DIGITS⟩, ?c_Satellite, ?c_Station, ?c_Recording, ?c_Pass, ?c_World, ?n_Satellite_name, ?n_Satellite_store, ?n_Satellite_battery, ?n_Satellite_start_level, ?n_Satellite_reserve, ?n_Satellite_charge, ?n_Satellite_settle, ?n_Satellite_light, ?n_Station_name, ?n_Station_antennas, ?n_Station_turn, ?n_Recording_name, ?n_Recording_satellite, ?n_Recording_earliest, ?n_Recording_latest, ?n_Recording_length, ?n_Recording_size, ?n_Recording_energy, ?n_Recording_worth, ?n_Recording_rank, ?n_Recording_deadline, ?n_Pass_name, ?n_Pass_satellite, ?n_Pass_station, ?n_Pass_span, ?n_Pass_room, ?n_Pass_energy, ?n_Pass_fee, ?n_World_text, ?n_World_horizon, ?n_World_satellites, ?n_World_stations, ?n_World_recordings, ?n_World_passes, ?g_SATELLITES, ?g_STATIONS, ?g_RECORDINGS, ?g_PASSES, ?g_MOST_UNITS, ?g_MOST_CHARGE, ?g_MOST_DELAY, ?g_MOST_ANTENNAS, ?g_MOST_WORTH, ?g_MOST_RANK, ?g_MOST_FEE, ?g_SORTS, ?t_SORTS, ?k_SORTS, ?g_READERS, ?t_READERS, ?r_satellite, ?r_station, ?r_recording, ?r_pass, ?rdW, ?v_MOST_HORIZON, ?v_MOST_SATELLITES, ?v_MOST_STATIONS, ?v_MOST_RECORDINGS, ?v_MOST_PASSES, ?v_MOST_SHIFT⟩ ⟨?p_names_of, ?p_read_light, ?p_read_satellite, ?p_read_station, ?p_read_recording, ?p_read_pass, ?p_most_things, ?p_read_sort, ?p_read_things, ?p_lines_of, ?p_is_name, ?p_is_number, ?p_Line___init__, ?p_Line_has_more, ?p_Line_due, ?p_Line_step, ?p_Line_read_choice, ?p_Line_read_number, ?p_Line_read_field, ?p_Line_due_name, ?p_Line_read_new_name, ?p_Line_read_known_name, ?p_Line_finish, ?p_Satellite___init__, ?p_Station___init__, ?p_Recording___init__, ?p_Pass___init__, ?p_World___init__, ?p_World_parse⟩ ?a__law_cell ?a__law_draws ?a__law_stream ?a__law_next ?a__law_word ?a__law_is_integer ?a__law_same ?a__law_fault ?a__law_full ?a_Line_refuse ?a_law ?TF ?SP
    (case c_Line => (refine' DP.cls_mk KX G ?g_u17 ?pg_u17 ?hd_u17 ?po_u17 ?sa_u17 ?mk_u17 ?kp_u17; (case g_u17 => k_is); (case pg_u17 => k_is); (case hd_u17 => k_is); (case po_u17 => k_is); (case sa_u17 => k_is); (case mk_u17 => k_is); (case kp_u17 => k_is)))
    (case c_Satellite => (refine' DP.cls_mk KX G ?g_u18 ?pg_u18 ?hd_u18 ?po_u18 ?sa_u18 ?mk_u18 ?kp_u18; (case g_u18 => k_is); (case pg_u18 => k_is); (case hd_u18 => k_is); (case po_u18 => k_is); (case sa_u18 => k_is); (case mk_u18 => k_is); (case kp_u18 => k_is)))
    (case c_Station => (refine' DP.cls_mk KX G ?g_u19 ?pg_u19 ?hd_u19 ?po_u19 ?sa_u19 ?mk_u19 ?kp_u19; (case g_u19 => k_is); (case pg_u19 => k_is); (case hd_u19 => k_is); (case po_u19 => k_is); (case sa_u19 => k_is); (case mk_u19 => k_is); (case kp_u19 => k_is)))
    (case c_Recording => (refine' DP.cls_mk KX G ?g_u20 ?pg_u20 ?hd_u20 ?po_u20 ?sa_u20 ?mk_u20 ?kp_u20; (case g_u20 => k_is); (case pg_u20 => k_is); (case hd_u20 => k_is); (case po_u20 => k_is); (case sa_u20 => k_is); (case mk_u20 => k_is); (case kp_u20 => k_is)))
    (case c_Pass => (refine' DP.cls_mk KX G ?g_u21 ?pg_u21 ?hd_u21 ?po_u21 ?sa_u21 ?mk_u21 ?kp_u21; (case g_u21 => k_is); (case pg_u21 => k_is); (case hd_u21 => k_is); (case po_u21 => k_is); (case sa_u21 => k_is); (case mk_u21 => k_is); (case kp_u21 => k_is)))
    (case c_World => (refine' DP.cls_mk KX G ?g_u22 ?pg_u22 ?hd_u22 ?po_u22 ?sa_u22 ?mk_u22 ?kp_u22; (case g_u22 => k_is); (case pg_u22 => k_is); (case hd_u22 => k_is); (case po_u22 => k_is); (case sa_u22 => k_is); (case mk_u22 => k_is); (case kp_u22 => k_is)))
    (case TF => (refine' DP.tf_mk KX G ?tf1 ?tf2 ?tf3 ?tf4 ?tf5 ?tf6 ?tf7 ?tf8 ?tf9 ?tf10 ?tf11 ?tf12 ?tf13 ?tf14 ?tf15 ?tf16 ?tf17 ?tf18 ?tf19 ?tf20 ?tf21 ?tf22 ?tf23 ?tf24 ?tf25 ?tf26; (case tf1 => k_is); (case tf2 => k_is); (case tf3 => k_is); (case tf4 => k_is); (case tf5 => k_is); (case tf6 => k_is); (case tf7 => rfl); (case tf8 => k_is); (case tf9 => k_is); (case tf10 => k_is); (case tf11 => k_is); (case tf12 => k_is); (case tf13 => ks_is); (case tf14 => k_is); (case tf15 => k_is); (case tf16 => k_is); (case tf17 => rfl); (case tf18 => k_is); (case tf19 => k_is); (case tf20 => k_is); (case tf21 => k_is); (case tf22 => k_is); (case tf23 => k_is); (case tf24 => k_is); (case tf25 => first | rfl | k_is); (case tf26 => k_is)))
    (case SP => exact ⟨by first | rfl | decide +kernel, by first | rfl | decide +kernel⟩)
    (case r_satellite => (refine' PySem.W.mg_of KX G ?q_u38; (case q_u38 => k_is)))
    (case r_station => (refine' PySem.W.mg_of KX G ?q_u39; (case q_u39 => k_is)))
    (case r_recording => (refine' PySem.W.mg_of KX G ?q_u40; (case q_u40 => k_is)))
    (case r_pass => (refine' PySem.W.mg_of KX G ?q_u41; (case q_u41 => k_is)))
    (case g_SORTS => (refine' PySem.W.mg_of KX G ?q_u42; (case q_u42 => k_is)))
    (case t_SORTS => (refine' DP.tup4s_mk ?q_u43; (case q_u43 => k_is)))
    (case k_SORTS => (refine' DP.tupk_mk ?q_u44; (case q_u44 => k_is)))
    (case g_READERS => (refine' PySem.W.mg_of KX G ?q_u45; (case q_u45 => k_is)))
    (case t_READERS => (refine' DP.tup4r_mk ?q_u46; (case q_u46 => k_is)))
    (case n_Line_number => (show PySem.W.findIn _ _ _ = some none; k_is))
    (case n_Line_words => (show PySem.W.findIn _ _ _ = some none; k_is))
    (case n_Line_read => (show PySem.W.findIn _ _ _ = some none; k_is))
    (case n_Line_column => (show PySem.W.findIn _ _ _ = some none; k_is))
    (case n_Satellite_name => (show PySem.W.findIn _ _ _ = some none; k_is))
    (case n_Satellite_store => (show PySem.W.findIn _ _ _ = some none; k_is))
    (case n_Satellite_battery => (show PySem.W.findIn _ _ _ = some none; k_is))
    (case n_Satellite_start_level => (show PySem.W.findIn _ _ _ = some none; k_is))
    (case n_Satellite_reserve => (show PySem.W.findIn _ _ _ = some none; k_is))
    (case n_Satellite_charge => (show PySem.W.findIn _ _ _ = some none; k_is))
    (case n_Satellite_settle => (show PySem.W.findIn _ _ _ = some none; k_is))
    (case n_Satellite_light => (show PySem.W.findIn _ _ _ = some none; k_is))
    (case n_Station_name => (show PySem.W.findIn _ _ _ = some none; k_is))
    (case n_Station_antennas => (show PySem.W.findIn _ _ _ = some none; k_is))
    (case n_Station_turn => (show PySem.W.findIn _ _ _ = some none; k_is))
    (case n_Recording_name => (show PySem.W.findIn _ _ _ = some none; k_is))
    (case n_Recording_satellite => (show PySem.W.findIn _ _ _ = some none; k_is))
    (case n_Recording_earliest => (show PySem.W.findIn _ _ _ = some none; k_is))
    (case n_Recording_latest => (show PySem.W.findIn _ _ _ = some none; k_is))
    (case n_Recording_length => (show PySem.W.findIn _ _ _ = some none; k_is))
    (case n_Recording_size => (show PySem.W.findIn _ _ _ = some none; k_is))
    (case n_Recording_energy => (show PySem.W.findIn _ _ _ = some none; k_is))
    (case n_Recording_worth => (show PySem.W.findIn _ _ _ = some none; k_is))
    (case n_Recording_rank => (show PySem.W.findIn _ _ _ = some none; k_is))
    (case n_Recording_deadline => (show PySem.W.findIn _ _ _ = some none; k_is))
    (case n_Pass_name => (show PySem.W.findIn _ _ _ = some none; k_is))
    (case n_Pass_satellite => (show PySem.W.findIn _ _ _ = some none; k_is))
    (case n_Pass_station => (show PySem.W.findIn _ _ _ = some none; k_is))
    (case n_Pass_span => (show PySem.W.findIn _ _ _ = some none; k_is))
    (case n_Pass_room => (show PySem.W.findIn _ _ _ = some none; k_is))
    (case n_Pass_energy => (show PySem.W.findIn _ _ _ = some none; k_is))
    (case n_Pass_fee => (show PySem.W.findIn _ _ _ = some none; k_is))
    (case n_World_text => (show PySem.W.findIn _ _ _ = some none; k_is))
    (case n_World_horizon => (show PySem.W.findIn _ _ _ = some none; k_is))
    (case n_World_satellites => (show PySem.W.findIn _ _ _ = some none; k_is))
    (case n_World_stations => (show PySem.W.findIn _ _ _ = some none; k_is))
    (case n_World_recordings => (show PySem.W.findIn _ _ _ = some none; k_is))
    (case n_World_passes => (show PySem.W.findIn _ _ _ = some none; k_is))
    (case z_len => (refine' PySem.W.mg_none_of KX G ?q_u1; (case q_u1 => k_is)))
    (case z_range => (refine' PySem.W.mg_none_of KX G ?q_u2; (case q_u2 => k_is)))
    (case z_int => (refine' PySem.W.mg_none_of KX G ?q_u3; (case q_u3 => k_is)))
    (case z_abs => (refine' PySem.W.mg_none_of KX G ?q_u4; (case q_u4 => k_is)))
    (case z_isinstance => (refine' PySem.W.mg_none_of KX G ?q_u5; (case q_u5 => k_is)))
    (case z_bool => (refine' PySem.W.mg_none_of KX G ?q_u6; (case q_u6 => k_is)))
    (case z_str => (refine' PySem.W.mg_none_of KX G ?q_u7; (case q_u7 => k_is)))
    (case z_tuple => (refine' PySem.W.mg_none_of KX G ?q_u8; (case q_u8 => k_is)))
    (case z_list => (refine' PySem.W.mg_none_of KX G ?q_u9; (case q_u9 => k_is)))
    (case z_sum => (refine' PySem.W.mg_none_of KX G ?q_u10; (case q_u10 => k_is)))
    (case z_min => (refine' PySem.W.mg_none_of KX G ?q_u12; (case q_u12 => k_is)))
    (case z_all => (refine' PySem.W.mg_none_of KX G ?q_u13; (case q_u13 => k_is)))
    (case z_enumerate => (refine' PySem.W.mg_none_of KX G ?q_u14; (case q_u14 => k_is)))
    (case g_LETTERS => (refine' DP.str_mk KX G ?q_u23; (case q_u23 => k_is)))
    (case g_DIGITS => (refine' DP.str_mk KX G ?q_u24; (case q_u24 => k_is)))
    (case g_MOST_NAME => (refine' DP.int_mk KX G ?q_u25; (case q_u25 => k_is)))
    (case g_MOST_DIGITS => (refine' DP.int_mk KX G ?q_u26; (case q_u26 => k_is)))
    (case g_SATELLITES => (refine' DP.int_mk KX G ?q_u27; (case q_u27 => k_is)))
    (case g_STATIONS => (refine' DP.int_mk KX G ?q_u28; (case q_u28 => k_is)))
    (case g_RECORDINGS => (refine' DP.int_mk KX G ?q_u29; (case q_u29 => k_is)))
    (case g_PASSES => (refine' DP.int_mk KX G ?q_u30; (case q_u30 => k_is)))
    (case g_MOST_UNITS => (refine' DP.int_mk KX G ?q_u31; (case q_u31 => k_is)))
    (case g_MOST_CHARGE => (refine' DP.int_mk KX G ?q_u32; (case q_u32 => k_is)))
    (case g_MOST_DELAY => (refine' DP.int_mk KX G ?q_u33; (case q_u33 => k_is)))
    (case g_MOST_ANTENNAS => (refine' DP.int_mk KX G ?q_u34; (case q_u34 => k_is)))
    (case g_MOST_WORTH => (refine' DP.int_mk KX G ?q_u35; (case q_u35 => k_is)))
    (case g_MOST_RANK => (refine' DP.int_mk KX G ?q_u36; (case q_u36 => k_is)))
    (case g_MOST_FEE => (refine' DP.int_mk KX G ?q_u37; (case q_u37 => k_is)))
    (case rdW => (refine' ⟨?rd_u47, ?ga_u47⟩; (case rd_u47 => k_is); (case ga_u47 => k_is)))
    (case v_MOST_HORIZON => (refine' DP.cval_mk ?q_u48; (case q_u48 => k_is)))
    (case v_MOST_SATELLITES => (refine' DP.cval_mk ?q_u49; (case q_u49 => k_is)))
    (case v_MOST_STATIONS => (refine' DP.cval_mk ?q_u50; (case q_u50 => k_is)))
    (case v_MOST_RECORDINGS => (refine' DP.cval_mk ?q_u51; (case q_u51 => k_is)))
    (case v_MOST_PASSES => (refine' DP.cval_mk ?q_u52; (case q_u52 => k_is)))
    (case v_MOST_SHIFT => (refine' DP.cval_mk ?q_u53; (case q_u53 => k_is)))
    (case p_names_of => (refine' DP.at_mk KX G ?a_u54 ?l_u54 ?c_u54 ?k_u54 DP.hb_names_of; (case a_u54 => k_is); (case l_u54 => k_is); (case c_u54 => k_is); (case k_u54 => k_is)))
    (case p_read_light => (refine' DP.at_mk KX G ?a_u55 ?l_u55 ?c_u55 ?k_u55 DP.hb_read_light; (case a_u55 => k_is); (case l_u55 => k_is); (case c_u55 => k_is); (case k_u55 => k_is)))
    (case p_read_satellite => (refine' DP.at_mk KX G ?a_u56 ?l_u56 ?c_u56 ?k_u56 DP.hb_read_satellite; (case a_u56 => k_is); (case l_u56 => k_is); (case c_u56 => k_is); (case k_u56 => k_is)))
    (case p_read_station => (refine' DP.at_mk KX G ?a_u57 ?l_u57 ?c_u57 ?k_u57 DP.hb_read_station; (case a_u57 => k_is); (case l_u57 => k_is); (case c_u57 => k_is); (case k_u57 => k_is)))
    (case p_read_recording => (refine' DP.at_mk KX G ?a_u58 ?l_u58 ?c_u58 ?k_u58 DP.hb_read_recording; (case a_u58 => k_is); (case l_u58 => k_is); (case c_u58 => k_is); (case k_u58 => k_is)))
    (case p_read_pass => (refine' DP.at_mk KX G ?a_u59 ?l_u59 ?c_u59 ?k_u59 DP.hb_read_pass; (case a_u59 => k_is); (case l_u59 => k_is); (case c_u59 => k_is); (case k_u59 => k_is)))
    (case p_most_things => (refine' DP.at_mk KX G ?a_u60 ?l_u60 ?c_u60 ?k_u60 DP.hb_most_things; (case a_u60 => k_is); (case l_u60 => k_is); (case c_u60 => k_is); (case k_u60 => k_is)))
    (case p_read_sort => (refine' DP.at_mk KX G ?a_u61 ?l_u61 ?c_u61 ?k_u61 DP.hb_read_sort; (case a_u61 => k_is); (case l_u61 => k_is); (case c_u61 => k_is); (case k_u61 => k_is)))
    (case p_read_things => (refine' DP.at_mk KX G ?a_u62 ?l_u62 ?c_u62 ?k_u62 DP.hb_read_things; (case a_u62 => k_is); (case l_u62 => k_is); (case c_u62 => k_is); (case k_u62 => k_is)))
    (case p_lines_of => (refine' DP.at_mk KX G ?a_u63 ?l_u63 ?c_u63 ?k_u63 DP.hb_lines_of; (case a_u63 => k_is); (case l_u63 => k_is); (case c_u63 => k_is); (case k_u63 => k_is)))
    (case p_is_name => (refine' DP.at_mk KX G ?a_u64 ?l_u64 ?c_u64 ?k_u64 DP.hb_is_name; (case a_u64 => k_is); (case l_u64 => k_is); (case c_u64 => k_is); (case k_u64 => k_is)))
    (case p_is_number => (refine' DP.at_mk KX G ?a_u65 ?l_u65 ?c_u65 ?k_u65 DP.hb_is_number; (case a_u65 => k_is); (case l_u65 => k_is); (case c_u65 => k_is); (case k_u65 => k_is)))
    (case p_Line___init__ => (refine' DP.met_mk ?a_u66 ?i_u66 ?l_u66 ?c_u66 ?k_u66 DP.hb_Line___init__; (case a_u66 => k_is); (case i_u66 => k_is); (case l_u66 => k_is); (case c_u66 => k_is); (case k_u66 => k_is)))
    (case p_Line_has_more => (refine' DP.met_mk ?a_u67 ?i_u67 ?l_u67 ?c_u67 ?k_u67 DP.hb_Line_has_more; (case a_u67 => k_is); (case i_u67 => k_is); (case l_u67 => k_is); (case c_u67 => k_is); (case k_u67 => k_is)))
    (case p_Line_due => (refine' DP.met_mk ?a_u68 ?i_u68 ?l_u68 ?c_u68 ?k_u68 DP.hb_Line_due; (case a_u68 => k_is); (case i_u68 => k_is); (case l_u68 => k_is); (case c_u68 => k_is); (case k_u68 => k_is)))
    (case p_Line_step => (refine' DP.met_mk ?a_u69 ?i_u69 ?l_u69 ?c_u69 ?k_u69 DP.hb_Line_step; (case a_u69 => k_is); (case i_u69 => k_is); (case l_u69 => k_is); (case c_u69 => k_is); (case k_u69 => k_is)))
    (case p_Line_read_choice => (refine' DP.met_mk ?a_u70 ?i_u70 ?l_u70 ?c_u70 ?k_u70 DP.hb_Line_read_choice; (case a_u70 => k_is); (case i_u70 => k_is); (case l_u70 => k_is); (case c_u70 => k_is); (case k_u70 => k_is)))
    (case p_Line_read_number => (refine' DP.met_mk ?a_u71 ?i_u71 ?l_u71 ?c_u71 ?k_u71 DP.hb_Line_read_number; (case a_u71 => k_is); (case i_u71 => k_is); (case l_u71 => k_is); (case c_u71 => k_is); (case k_u71 => k_is)))
    (case p_Line_read_field => (refine' DP.met_mk ?a_u72 ?i_u72 ?l_u72 ?c_u72 ?k_u72 DP.hb_Line_read_field; (case a_u72 => k_is); (case i_u72 => k_is); (case l_u72 => k_is); (case c_u72 => k_is); (case k_u72 => k_is)))
    (case p_Line_due_name => (refine' DP.met_mk ?a_u73 ?i_u73 ?l_u73 ?c_u73 ?k_u73 DP.hb_Line_due_name; (case a_u73 => k_is); (case i_u73 => k_is); (case l_u73 => k_is); (case c_u73 => k_is); (case k_u73 => k_is)))
    (case p_Line_read_new_name => (refine' DP.met_mk ?a_u74 ?i_u74 ?l_u74 ?c_u74 ?k_u74 DP.hb_Line_read_new_name; (case a_u74 => k_is); (case i_u74 => k_is); (case l_u74 => k_is); (case c_u74 => k_is); (case k_u74 => k_is)))
    (case p_Line_read_known_name => (refine' DP.metD_mk ?a_u75 ?i_u75 ?l_u75 ?lT_u75 ?c_u75 ?k_u75 2 rfl DP.hb_Line_read_known_name; (case a_u75 => k_is); (case i_u75 => k_is); (case l_u75 => k_is); (case lT_u75 => k_is); (case c_u75 => k_is); (case k_u75 => k_is)))
    (case p_Line_finish => (refine' DP.met_mk ?a_u76 ?i_u76 ?l_u76 ?c_u76 ?k_u76 DP.hb_Line_finish; (case a_u76 => k_is); (case i_u76 => k_is); (case l_u76 => k_is); (case c_u76 => k_is); (case k_u76 => k_is)))
    (case p_Satellite___init__ => (refine' DP.met_mk ?a_u77 ?i_u77 ?l_u77 ?c_u77 ?k_u77 DP.hb_Satellite___init__; (case a_u77 => k_is); (case i_u77 => k_is); (case l_u77 => k_is); (case c_u77 => k_is); (case k_u77 => k_is)))
    (case p_Station___init__ => (refine' DP.met_mk ?a_u78 ?i_u78 ?l_u78 ?c_u78 ?k_u78 DP.hb_Station___init__; (case a_u78 => k_is); (case i_u78 => k_is); (case l_u78 => k_is); (case c_u78 => k_is); (case k_u78 => k_is)))
    (case p_Recording___init__ => (refine' DP.met_mk ?a_u79 ?i_u79 ?l_u79 ?c_u79 ?k_u79 DP.hb_Recording___init__; (case a_u79 => k_is); (case i_u79 => k_is); (case l_u79 => k_is); (case c_u79 => k_is); (case k_u79 => k_is)))
    (case p_Pass___init__ => (refine' DP.met_mk ?a_u80 ?i_u80 ?l_u80 ?c_u80 ?k_u80 DP.hb_Pass___init__; (case a_u80 => k_is); (case i_u80 => k_is); (case l_u80 => k_is); (case c_u80 => k_is); (case k_u80 => k_is)))
    (case p_World___init__ => (refine' DP.met_mk ?a_u81 ?i_u81 ?l_u81 ?c_u81 ?k_u81 DP.hb_World___init__; (case a_u81 => k_is); (case i_u81 => k_is); (case l_u81 => k_is); (case c_u81 => k_is); (case k_u81 => k_is)))
    (case p_World_parse => (refine' DP.smet_mk ?a_u82 ?r_u82 ?l_u82 ?c_u82 ?k_u82 DP.hb_World_parse; (case a_u82 => k_is); (case r_u82 => k_is); (case l_u82 => k_is); (case c_u82 => k_is); (case k_u82 => k_is)))
    (case a__law_cell => (refine' DP.at_mk KX G ?a_u83 ?l_u83 ?c_u83 ?k_u83 DP.hb__law_cell; (case a_u83 => k_is); (case l_u83 => k_is); (case c_u83 => k_is); (case k_u83 => k_is)))
    (case a__law_draws => (refine' DP.at_mk KX G ?a_u84 ?l_u84 ?c_u84 ?k_u84 DP.hb__law_draws; (case a_u84 => k_is); (case l_u84 => k_is); (case c_u84 => k_is); (case k_u84 => k_is)))
    (case a__law_stream => (refine' DP.at_mk KX G ?a_u85 ?l_u85 ?c_u85 ?k_u85 DP.hb__law_stream; (case a_u85 => k_is); (case l_u85 => k_is); (case c_u85 => k_is); (case k_u85 => k_is)))
    (case a__law_next => (refine' DP.at_mk KX G ?a_u86 ?l_u86 ?c_u86 ?k_u86 DP.hb__law_next; (case a_u86 => k_is); (case l_u86 => k_is); (case c_u86 => k_is); (case k_u86 => k_is)))
    (case a__law_word => (refine' DP.at_mk KX G ?a_u87 ?l_u87 ?c_u87 ?k_u87 DP.hb__law_word; (case a_u87 => k_is); (case l_u87 => k_is); (case c_u87 => k_is); (case k_u87 => k_is)))
    (case a__law_is_integer => (refine' DP.at_mk KX G ?a_u88 ?l_u88 ?c_u88 ?k_u88 DP.hb__law_is_integer; (case a_u88 => k_is); (case l_u88 => k_is); (case c_u88 => k_is); (case k_u88 => k_is)))
    (case a__law_same => (refine' DP.at_mk KX G ?a_u89 ?l_u89 ?c_u89 ?k_u89 DP.hb__law_same; (case a_u89 => k_is); (case l_u89 => k_is); (case c_u89 => k_is); (case k_u89 => k_is)))
    (case a__law_fault => (refine' DP.at_mk KX G ?a_u90 ?l_u90 ?c_u90 ?k_u90 DP.hb__law_fault; (case a_u90 => k_is); (case l_u90 => k_is); (case c_u90 => k_is); (case k_u90 => k_is)))
    (case a__law_full => (refine' DP.at_mk KX G ?a_u91 ?l_u91 ?c_u91 ?k_u91 DP.hb__law_full; (case a_u91 => k_is); (case l_u91 => k_is); (case c_u91 => k_is); (case k_u91 => k_is)))
    (case a_Line_refuse => (refine' DP.met_mk ?a_u92 ?i_u92 ?l_u92 ?c_u92 ?k_u92 DP.hb_Line_refuse; (case a_u92 => k_is); (case i_u92 => k_is); (case l_u92 => k_is); (case c_u92 => k_is); (case k_u92 => k_is)))
    (case a_law => (refine' DP.at_mk KX G ?a_u93 ?l_u93 ?c_u93 ?k_u93 DP.hb_law; (case a_u93 => k_is); (case l_u93 => k_is); (case c_u93 => k_is); (case k_u93 => k_is)))
