import Derived.Test.YtnjiinbhbjpfkaaGreatDoorTn
set_option maxRecDepth 100000
set_option maxHeartbeats 0
set_option linter.all false
namespace Go.Proofs.YtnjiinbhbjpfkaaGreatDoor
open Go.RowKit Go.Proofs.Tryz
namespace F
variable {p:dL}{s s':Pl}
def Ng.step{t:Nat}(hP:PI p)(hN:Ng s)(h:Rn p s t)(hn:s.nt+1<=500000000)(i:jz p t s s'):Ng s':=by
 obtain⟨i1,i2,i3⟩:=tP 21 h (gp h.fw.n2);have G:=Ng.ends p t 21 hN;unfold jz at i;by_cases e:((s.ends p t 21).T t).run=true
 .rw[bf e]at i;obtain⟨W,j2,Y⟩:=i2 e;obtain⟨_,_,_,j5,_⟩:=id j2;obtain⟨why,s3,H,rfl⟩:=i;obtain⟨Z,o⟩:=oy W Y;have u:=W.ff;have y:=hP _ u.1 (bw (s.ends p t 21) t).nx ag;have J:=(G.gF t).inst Z (by show(s.ends p t 21).nt+1<=_;omega) (eV o y) H;obtain⟨w1,w2,_⟩:=px y.1 H;split
  .exact J
  exact J.leave t 3 why (jE.n ag ag)
 rw[au e]at i;subst i;exact G
theorem Ng.runs{p:dL}{t:Nat}(hP:PI p):∀(n:Nat) {s s':Pl},Ng s->Ok p s->fm s t->s.nt+n<=500000000->iu p t n s s'->Ng s'
 | 0,s,s',hN,_,_,_,hr=>by
  have e:s'=s:=hr;subst e;exact hN
 | n+1,s,s',hN,h,ht,hn,hr=>by
  unfold iu at hr;by_cases e:(s.T t).run=true
  .rw[bf e]at hr;obtain⟨s1,o,u⟩:=hr;have hR:Rn p s t:=⟨h,(h.rn t ht e).2,e⟩;obtain⟨k1,k2⟩:=wL hP hR ag o;have i:=k2.nt;exact Ng.runs hP n (hN.step hP hR ag o) k1 ⟨ht.1,dU ht.2 i.1⟩ ag u
  rw[au e]at hr;subst hr;exact hN
def Ng.first(hP:PI p)(y:Ng s)(h:Ok p s)(hn:s.nt+p.qn<=500000000)(u:iS p s s'):Ng s':=by
 unfold iS at u
 cases hq:s.q 2 0 with
 | nil=>
  rw[hq]at u;have e:s'=s:=u;subst e;exact y
 | cons t r=>
  rw[hq]at u;obtain⟨s1,H,J⟩:=u;have i:=h.ql 2 0 (af ⟨rfl,rfl⟩) t (by rw[hq];simp);have ht:=h.lt t i;have o:(s.start t).nt=s.nt:=gg s t;have G:Ng s1:=Ng.runs hP p.qn (y.start t) (h.start i) ⟨ht.1,eV o ht.2⟩ (eV o hn) H;rw[J];split
  .exact G.join 2 0 t
  exact G
def Ng.I4(hP:PI p){ticks:Int}{l:List (Int×Nat)}(J:Ng s)(h:Ok p s)(h0:0<=B.iJ s.clk ticks)(H:B.iJ s.clk ticks<=9223372036854775807)(i:∀x,x∈l->x.2<256)(hn:s.nt+p.qn<=500000000)(ht:ku p s ticks l s'):Ng s':=by
 have e:Ng ((s.gr (B.iJ s.clk ticks)).fh l):=Ng.fh l i J.same;obtain⟨u,G⟩:=nS l i (h.gr h0 H);unfold ku at ht;split at ht
 .obtain⟨s1,Z,rfl⟩:=ht;obtain⟨y,o⟩:=oX _ u rfl;exact (Ng.first hP (Ng.iD _ e) y (by rw[o.nt,G.nt];exact hn) Z).same
 subst ht;exact e
